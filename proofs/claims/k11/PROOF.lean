import PyProof.Rows.All
import Wide.All
import OpenK.AllK
import Wide.FinOn
import Lean
import PyProof.EqAt
import PyProof.EqKinds
import PyProof.TupleCall
import KE.KSortTup
import KE.KDictSum
import KE.KDictOf
import PyProof.AttrMissHeap
import OpenK.KRaise
import KE.KIsAll
import KE.KTryMore
import KE.RegKIsAll
import KE.RegKTryMore
import PyProof.NsDelKeeps
import PyProof.ExcArgs
import PyProof.FitsReplace
import PyProof.Rows.StrJoin2
import PySem.Challenge.RW_oncedoor_k11_changes_of_a_book
set_option Elab.async false
set_option linter.all false
set_option maxRecDepth 100000
set_option maxHeartbeats 4000000
namespace L2
open PySem PySem.Spec PyProof.Rows
abbrev Key := Sum Int Str
def keyIs : Key → Value → Bool
  | .inl k, v => Value.isInt k v
  | .inr x, v => Value.isStrOf x v
def keyH (w : World) : Key → Int
  | .inl k => hashInt k
  | .inr x => hashStr w x
theorem keyIs_shape : ∀ {k : Key} {v : Value}, keyIs k v = true → (∃ i t, k = Sum.inl i ∧ v = Value.int i t) ∨ (∃ x t, k = Sum.inr x ∧ v = Value.str x t)
  | .inl i, v, h => by
    obtain ⟨t, e⟩ := Value.isInt_shape (k := i) (v := v) h
    exact .inl ⟨i, t, rfl, e⟩
  | .inr x, v, h => by
    obtain ⟨t, e⟩ := Value.isStrOf_shape (x := x) (v := v) h
    exact .inr ⟨x, t, rfl, e⟩
theorem keyIs_int (i : Int) (t : Tok) : keyIs (.inl i) (.int i t) = true := by simp [keyIs, Value.isInt]
theorem keyIs_str (x : Str) (t : Tok) : keyIs (.inr x) (.str x t) = true := by simp [keyIs, Value.isStrOf]
theorem key_ll (a b : Int) : decide ((Sum.inl a : Key) = Sum.inl b) = (a == b) := by
  by_cases e : a = b
  · subst e; simp
  · have h : ¬ (Sum.inl a : Key) = Sum.inl b := fun q => e (Sum.inl.inj q)
    rw [decide_eq_false h]
    exact (beq_eq_false_iff_ne.mpr e).symm
theorem key_rr (a b : Str) : decide ((Sum.inr a : Key) = Sum.inr b) = decide (a = b) := by
  by_cases e : a = b
  · subst e; simp
  · have h : ¬ (Sum.inr a : Key) = Sum.inr b := fun q => e (Sum.inr.inj q)
    rw [decide_eq_false h, decide_eq_false e]
theorem key_lr (a : Int) (b : Str) : decide ((Sum.inl a : Key) = Sum.inr b) = false := decide_eq_false (fun q => nomatch q)
theorem key_rl (a : Str) (b : Int) : decide ((Sum.inr a : Key) = Sum.inl b) = false := decide_eq_false (fun q => nomatch q)
def mixKind (prog : Program) (w : World) : PySem.KeyKind prog w Key where
  is := keyIs
  hash := keyH w
  inj := fun v a b ha hb => by
    rcases keyIs_shape ha with ⟨i, t, rfl, rfl⟩ | ⟨x, t, rfl, rfl⟩
    · rcases keyIs_shape hb with ⟨j, u, rfl, e⟩ | ⟨y, u, rfl, e⟩
      · injection e with e1 _; rw [e1]
      · exact nomatch e
    · rcases keyIs_shape hb with ⟨j, u, rfl, e⟩ | ⟨y, u, rfl, e⟩
      · exact nomatch e
      · injection e with e1 _; rw [e1]
  byValue := fun k v h => by
    rcases keyIs_shape h with ⟨i, t, rfl, rfl⟩ | ⟨x, t, rfl, rfl⟩ <;> rfl
  pyHash := fun hv h => by
    rcases keyIs_shape hv with ⟨i, t, rfl, rfl⟩ | ⟨x, t, rfl, rfl⟩
    · exact wpAny_pyHash_int h
    · exact wpAny_pyHash_str h
  eqBool := fun hu hv h => by
    rcases keyIs_shape hu with ⟨i, t, rfl, rfl⟩ | ⟨x, t, rfl, rfl⟩
    · rcases keyIs_shape hv with ⟨j, u, rfl, rfl⟩ | ⟨y, u, rfl, rfl⟩
      · rw [key_ll] at h; exact wpAny_eqBool_int h
      · rw [key_lr] at h; exact SeqAt.EqAt.int_str i t y u _ _ _ _ h
    · rcases keyIs_shape hv with ⟨j, u, rfl, rfl⟩ | ⟨y, u, rfl, rfl⟩
      · rw [key_rl] at h; exact SeqAt.EqAt.str_int x t j u _ _ _ _ h
      · rw [key_rr] at h; exact wpAny_eqBool_str h
  «strs» := fun k x t v h => by
    rcases keyIs_shape h with ⟨i, u, rfl, e⟩ | ⟨y, u, rfl, e⟩
    · exact nomatch e
    · injection e with e1 _
      subst e1
      cases v <;> rfl
theorem mixKind_int (prog : Program) (w : World) (i : Int) (t : Tok) : (mixKind prog w).is (.inl i) (.int i t) = true := keyIs_int i t
theorem mixKind_str (prog : Program) (w : World) (x : Str) (t : Tok) : (mixKind prog w).is (.inr x) (.str x t) = true := keyIs_str x t
end L2
namespace L2
open PySem PySem.Spec PyProof.Rows
inductive V where
  | non | bl (b : Bool) | int (i : Int) | str (x : Str) | byt (b : Array UInt8) | flt (b : UInt64) | ref (a : Addr) | ty (n : String)
  deriving DecidableEq
def RelV : V → Value → Prop
  | .non, u => u = Value.none
  | .bl b, u => u = Value.bool b
  | .int i, u => ∃ t, u = Value.int i t
  | .str x, u => ∃ t, u = Value.str x t
  | .byt b, u => ∃ t, u = Value.bytes b t
  | .flt b, u => ∃ t, u = Value.float b t
  | .ref a, u => u = Value.ref a
  | .ty n, u => u = Value.type n
abbrev Vals : List V → List Value → Prop := Paired RelV
theorem Vals.length {xs : List V} {us : List Value} (r : Vals xs us) : xs.length = us.length := Paired.length r
theorem Vals.get : ∀ {xs : List V} {us : List Value} {i : Nat} {x : V}, Vals xs us → xs[i]? = some x → ∃ u, us[i]? = some u ∧ RelV x u
  | _, _, _, _, .nil, e => by simp at e
  | _, _, 0, _, .cons r _, e => by simp at e; subst e; exact ⟨_, rfl, r⟩
  | _, _, i + 1, x, .cons _ t, e => by
    obtain ⟨u, h1, h2⟩ := Vals.get (i := i) (x := x) t (by simpa using e)
    exact ⟨u, by simpa using h1, h2⟩
theorem Vals.set {x : V} {u : Value} (r : RelV x u) : ∀ {xs : List V} {us : List Value} (i : Nat), Vals xs us → Vals (xs.set i x) (us.set i u)
  | _, _, _, .nil => .nil
  | _, _, 0, .cons _ t => .cons r t
  | _, _, i + 1, .cons q t => .cons q (Vals.set r i t)
theorem Vals.append : ∀ {xs ys : List V} {us ws : List Value}, Vals xs us → Vals ys ws → Vals (xs ++ ys) (us ++ ws)
  | _, _, _, _, .nil, s => s
  | _, _, _, _, .cons r t, s => .cons r (Vals.append t s)
theorem Vals.take : ∀ {xs : List V} {us : List Value} (n : Nat), Vals xs us → Vals (xs.take n) (us.take n)
  | _, _, 0, _ => .nil
  | _, _, _ + 1, .nil => .nil
  | _, _, n + 1, .cons r t => .cons r (Vals.take n t)
theorem Vals.drop : ∀ {xs : List V} {us : List Value} (n : Nat), Vals xs us → Vals (xs.drop n) (us.drop n)
  | _, _, 0, r => r
  | _, _, _ + 1, .nil => .nil
  | _, _, n + 1, .cons _ t => Vals.drop n t
def RelO : Option V → Option Value → Prop
  | some v, some u => RelV v u
  | none, none => True
  | _, _ => False
def KV {κ : Type} : List (κ × V) → List (κ × Value) → Prop := Paired fun (p : κ × V) (q : κ × Value) => p.1 = q.1 ∧ RelV p.2 q.2
def kV : Key → V
  | .inl i => .int i
  | .inr x => .str x
inductive HO where
  /-- a list -/
  | lst (xs : List V)
  /-- a tuple (never changes) -/
  | tup (xs : List V)
  /-- a dict whose keys are ints and texts; one whose keys are tuples of ints and texts (the empty one is both) -/
  | dK (kvs : List (Key × V)) | dT (kvs : List (List Key × V))
  /-- a set of ints: its members, its size -/
  | set (S : Int → Bool) (n : Nat)
  /-- an instance of the class at C, its dict at dx, its attributes -/
  | ins (C dx : Addr) (fs : List (Str × V))
  /-- the dict of the instance at x -/
  | own (x : Addr)
  /-- the dict of an exception -/
  | xd (fs : List (Str × V))
  /-- a bound method, f of x -/
  | met (f x : Addr)
  /-- a range object lo, lo + 1, .. below hi -/
  | rng (lo hi : Int)
  /-- a thing that is known to the object (the script; a dict while a loop walks it): read, never written while it is so -/
  | frz (o : Obj) (u : HO)
  /-- a code object's table -/
  | tbl (ps : Array Value)
  /-- any other thing, by what is true of its one object (a def of one's own: SetO a S n := HO.ext fun h => ..) -/
  | ext (φ : Heap → Prop)
abbrev Hp := Addr → Option HO
def upd (H : Hp) (a : Addr) (o : HO) : Hp := fun b => if b = a then some o else H b
theorem upd_same {H : Hp} {a : Addr} {o : HO} : upd H a o a = some o := by unfold upd; rw [if_pos rfl]
theorem upd_ne {H : Hp} {a b : Addr} {o : HO} (h : b ≠ a) : upd H a o b = H b := by unfold upd; rw [if_neg h]
theorem ne_of {H : Hp} {a b : Addr} {o u : HO} (h : H a = some o) (h' : H b = some u) (d : o ≠ u) : a ≠ b := by
  intro e; subst e; rw [h] at h'; exact d (Option.some.inj h')
theorem ne_of_none {H : Hp} {a b : Addr} {o : HO} (h : H a = some o) (h' : H b = none) : a ≠ b := by
  intro e; subst e; rw [h] at h'; cases h'
section
variable (P : Program) (w : World)
def ObjOk (H : Hp) (h : Heap) (a : Addr) : HO → Prop
  | .lst xs => xs.length ≤ sizeLine ∧ ∃ (its : List Value) (n : Nat), Vals xs its ∧ h.get? a = some { cls := .type "list", data := .seq its.toArray n }
  | .tup xs => xs.length ≤ sizeLine ∧ ∃ its : List Value, Vals xs its ∧ IsTup h a its.toArray
  | .dK kvs => kvs.length ≤ sizeLine ∧ (a == sysModules) = false ∧ ∃ vs, KV kvs vs ∧ h.DictOf (mixKind P w) a vs
  | .dT kvs => kvs.length ≤ sizeLine ∧ (a == sysModules) = false ∧ ∃ xs : List (List Key × Addr × Value),
      Paired (fun (p : List Key × V) (q : List Key × Addr × Value) => p.1 = q.1 ∧ H q.2.1 = some (.tup (p.1.map kV)) ∧ RelV p.2 q.2.2) kvs xs ∧
      ∃ o es ep, h.get? a = some o ∧ o.ExactDict ∧ o.data = .dict es ep ∧ es.toList = xs.map (entryOfKey (tupleKind (mixKind P w))) ∧ (xs.map (·.1)).Nodup
  | .set S n => h.SetOf (intKind P w) a S n
  | .ins C dx fs => H dx = some (.own a) ∧ fs.length ≤ 1000 ∧ dx ≠ a ∧ h.get? a = some (W.instObj C dx) ∧
      ∃ mA, h.Ns1 dx mA ∧ (∀ f, RelO (fs.lookup f) (mA f)) ∧ PySem.Within mA (fs.map (·.1))
  | .own _ => ∃ o, h.get? a = some o
  | .xd fs => ∃ mA, h.Ns1 a mA ∧ ∀ f, RelO (fs.lookup f) (mA f)
  | .rng lo hi => ∃ t u v, h.get? a = some { cls := .type "range", data := .fields #[.int lo t, .int hi u, .int 1 v] }
  | .frz o u => h.get? a = some o ∧ ObjOk H h a u
  | .tbl ps => h.get? a = some { cls := .none, data := .fields ps }
  | .met f x => h.get? a = some (W.methodObj (.ref f) (.ref x))
  | .ext φ => φ h ∧ (∃ o, h.get? a = some o) ∧ ∀ h1 h2 : Heap, φ h1 → (∀ o, h1.get? a = some o → h2.get? a = some o) → φ h2
def HOk (H : Hp) (h : Heap) : Prop := ∀ a o, H a = some o → ObjOk P w H h a o
end
section
variable {P : Program} {w : World} {H H' : Hp} {h h' : Heap} {a : Addr} {o : HO}
theorem ObjOk.lt (x : ObjOk P w H h a o) : a < h.objs.size := by
  cases o with
  | lst xs => obtain ⟨_, _, _, _, e⟩ := x; exact Heap.lt_size e
  | tup xs => obtain ⟨_, _, _, p⟩ := x; exact p.lt
  | dK kvs => obtain ⟨_, _, _, _, o, _, _, e, _⟩ := x; exact Heap.lt_size e
  | dT kvs => obtain ⟨_, _, _, _, o, _, _, e, _⟩ := x; exact Heap.lt_size e
  | set S n => obtain ⟨o, _, _, _, e, _⟩ := x; exact Heap.lt_size e
  | ins C dx fs => obtain ⟨_, _, _, e, _⟩ := x; exact Heap.lt_size e
  | own y => obtain ⟨_, e⟩ := x; exact Heap.lt_size e
  | xd fs => obtain ⟨_, ⟨_, _, _, e, _⟩, _⟩ := x; exact Heap.lt_size e
  | rng lo hi => obtain ⟨_, _, _, e⟩ := x; exact Heap.lt_size e
  | frz ob u => obtain ⟨e, _⟩ := x; exact Heap.lt_size e
  | tbl ps => exact Heap.lt_size (show h.get? a = some _ from x)
  | met f y => exact Heap.lt_size (show h.get? a = some _ from x)
  | ext φ => obtain ⟨_, ⟨_, e⟩, _⟩ := x; exact Heap.lt_size e
theorem Paired.mapP {α β : Type} {F G : α → β → Prop} : ∀ {l₁ : List α} {l₂ : List β}, Paired F l₁ l₂ → (∀ a b, F a b → G a b) → Paired G l₁ l₂
  | _, _, .nil, _ => .nil
  | _, _, .cons r t, f => .cons (f _ _ r) (Paired.mapP t f)
theorem ObjOk.stay (x : ObjOk P w H h a o) (k : ∀ b u, (b = a ∨ H b = some (.own a)) → h.get? b = some u → h'.get? b = some u)
    (ho : ∀ b, H b = some (.own a) → H' b = some (.own a)) (ht : ∀ b xs, H b = some (.tup xs) → H' b = some (.tup xs)) : ObjOk P w H' h' a o := by
  induction o with
  | lst xs => obtain ⟨z, its, n, r, e⟩ := x; exact ⟨z, its, n, r, k _ _ (.inl rfl) e⟩
  | tup xs => obtain ⟨z, its, r, ob, e, c⟩ := x; exact ⟨z, its, r, ob, k _ _ (.inl rfl) e, c⟩
  | dK kvs => obtain ⟨z, y, vs, r, ob, es, ep, e, c⟩ := x; exact ⟨z, y, vs, r, ob, es, ep, k _ _ (.inl rfl) e, c⟩
  | dT kvs =>
    obtain ⟨z, y, xs, r, ob, es, ep, e, c⟩ := x
    exact ⟨z, y, xs, Paired.mapP r fun p q z => ⟨z.1, ht _ _ z.2.1, z.2.2⟩, ob, es, ep, k _ _ (.inl rfl) e, c⟩
  | set S n => obtain ⟨ob, es, ep, t, e, c⟩ := x; exact ⟨ob, es, ep, t, k _ _ (.inl rfl) e, c⟩
  | ins C dx fs =>
    obtain ⟨d, z, ne, e, mA, ⟨od, es, ep, e2, c⟩, r⟩ := x
    exact ⟨ho _ d, z, ne, k _ _ (.inl rfl) e, mA, ⟨od, es, ep, k _ _ (.inr d) e2, c⟩, r⟩
  | own y => obtain ⟨ob, e⟩ := x; exact ⟨ob, k _ _ (.inl rfl) e⟩
  | xd fs => obtain ⟨mA, ⟨od, es, ep, e, c⟩, r⟩ := x; exact ⟨mA, ⟨od, es, ep, k _ _ (.inl rfl) e, c⟩, r⟩
  | rng lo hi => obtain ⟨t, u, v, e⟩ := x; exact ⟨t, u, v, k _ _ (.inl rfl) e⟩
  | frz ob u ih => obtain ⟨e, q⟩ := x; exact ⟨k _ _ (.inl rfl) e, ih q⟩
  | tbl ps =>
    have e : h.get? a = some { cls := .none, data := .fields ps } := x
    show h'.get? a = some { cls := .none, data := .fields ps }
    exact k a _ (.inl rfl) e
  | met f y =>
    have e : h.get? a = some (W.methodObj (.ref f) (.ref y)) := x
    show h'.get? a = some (W.methodObj (.ref f) (.ref y))
    exact k a _ (.inl rfl) e
  | ext φ => obtain ⟨p, ⟨o, e⟩, st⟩ := x; exact ⟨st _ _ p fun o q => k _ _ (.inl rfl) q, ⟨o, k _ _ (.inl rfl) e⟩, st⟩
theorem HOk.lt (x : HOk P w H h) (e : H a = some o) : a < h.objs.size := (x a o e).lt
theorem HOk.fresh (x : HOk P w H h) (e : h.objs.size ≤ a) : H a = none := by
  cases q : H a with
  | none => rfl
  | some u => exact absurd (Nat.lt_of_lt_of_le (x.lt q) e) (Nat.lt_irrefl _)
theorem HOk.kept (x : HOk P w H h) (k : ∀ b u, h.get? b = some u → h'.get? b = some u) : HOk P w H h' := fun a o e =>
  (x a o e).stay (fun b u _ q => k b u q) (fun _ q => q) fun _ _ q => q
theorem HOk.laid (x : HOk P w H h) (k : ∀ b u, h.get? b = some u → h'.get? b = some u) (hp : h.objs.size ≤ a) (new : ObjOk P w (upd H a o) h' a o) : HOk P w (upd H a o) h' := fun b u e => by
  have hn := x.fresh hp
  by_cases hb : b = a
  · subst hb; rw [upd_same] at e; cases e; exact new
  · rw [upd_ne hb] at e
    exact (x b u e).stay (fun c v _ q => k c v q) (fun c q => by rw [upd_ne (ne_of_none q hn)]; exact q) fun c xs q => by rw [upd_ne (ne_of_none q hn)]; exact q
end
def Rd (H : Hp) (a : Addr) (u : HO) : Prop := H a = some u ∨ ∃ o, H a = some (.frz o u)
theorem Rd.ok {P : Program} {w : World} {H : Hp} {h : Heap} {a : Addr} {u : HO} (r : Rd H a u) (x : HOk P w H h) : ObjOk P w H h a u := by
  rcases r with r | ⟨o, r⟩
  · exact x a u r
  · obtain ⟨_, q⟩ := x a _ r
    exact q
def Mut : Option HO → Prop
  | some (.lst _) => True
  | some (.dK _) => True
  | some (.dT _) => True
  | some (.set _ _) => True
  | some (.ins _ _ _) => True
  | some (.ext _) => True
  | _ => False
section
variable {P : Program} {w : World} {H : Hp} {h h' : Heap} {x e : Addr} {o' : HO}
theorem HOk.write (ok : HOk P w H h) (mu : Mut (H x)) (he : e = x ∨ H e = some (.own x)) (k : ∀ b u, b ≠ e → h.get? b = some u → h'.get? b = some u) (heo : ∃ u, h'.get? e = some u)
    (new : ObjOk P w (upd H x o') h' x o') : HOk P w (upd H x o') h' := fun b u q => by
  have nown : ∀ c y, H c = some (.own y) → c ≠ x := fun c y r z => by subst z; rw [r] at mu; exact mu
  have ntup : ∀ c xs, H c = some (.tup xs) → c ≠ x := fun c xs r z => by subst z; rw [r] at mu; exact mu
  by_cases hb : b = x
  · subst hb; rw [upd_same] at q; cases q; exact new
  · rw [upd_ne hb] at q
    by_cases hbe : b = e
    · have q' : H b = some (.own x) := by
        rcases he with z | z
        · exact absurd (hbe.trans z) hb
        · rw [hbe]; exact z
      rw [q] at q'; cases q'
      obtain ⟨v, hv⟩ := heo
      exact ⟨v, by rw [hbe]; exact hv⟩
    · refine (ok b u q).stay (fun c v hc r => k c v ?_ r) (fun c r => by rw [upd_ne (nown c b r)]; exact r) fun c xs r => by rw [upd_ne (ntup c xs r)]; exact r
      rcases hc with rfl | hc
      · exact hbe
      · rintro rfl
        rcases he with z | z
        · exact nown c b hc z
        · rw [hc] at z; cases z; exact hb rfl
end
structure Un (fs ex : List Addr) (H H' : Hp) (h h' : Heap) : Prop where
  keep : ∀ b o, h.get? b = some o → H b = none → b ∉ fs → b ∉ ex → h'.get? b = some o
  slot : ∀ b o, h.get? b = some o → H b = none → b ∈ fs → b ∉ ex → ∃ sl, h'.get? b = some { o with slots := sl }
  free : ∀ b o, h.get? b = some o → H b = none → b ∉ ex → H' b = none
  there : ∀ b o, h.get? b = some o → b ∉ ex → ∃ o', h'.get? b = some o'
  tups : ∀ b xs, H b = some (.tup xs) → H' b = some (.tup xs)
  frzs : ∀ b o u, H b = some (.frz o u) → H' b = some (.frz o u)
  tbls : ∀ b ps, H b = some (.tbl ps) → ∃ more, H' b = some (.tbl (ps ++ more))
section
variable {fs fs' ex ex' : List Addr} {H H1 H2 : Hp} {h h1 h2 h' : Heap} {a x e : Addr} {o : HO}
theorem Un.any (u : Un fs ex H H1 h h1) {b : Addr} {ob : Obj} (q : h.get? b = some ob) (n : H b = none) (hx : b ∉ ex) : ∃ sl, h1.get? b = some { ob with slots := sl } := by
  by_cases hb : b ∈ fs
  · exact u.slot b ob q n hb hx
  · exact ⟨ob.slots, u.keep b ob q n hb hx⟩
theorem Un.kept (k : ∀ b u, h.get? b = some u → h'.get? b = some u) : Un fs ex H H h h' :=
  ⟨fun b ob q _ _ _ => k b ob q, fun b ob q _ _ _ => ⟨ob.slots, k b ob q⟩, fun _ _ _ n _ => n, fun b ob q _ => ⟨ob, k b ob q⟩, fun _ _ q => q, fun _ _ _ q => q, fun _ ps q => ⟨#[], by rw [q]; simp⟩⟩
theorem Un.refl : Un fs ex H H h h := Un.kept fun _ _ q => q
theorem Un.laid (k : ∀ b u, h.get? b = some u → h'.get? b = some u) (hp : h.objs.size ≤ a) (hn : H a = none) : Un fs ex H (upd H a o) h h' where
  keep := fun b u q _ _ _ => k b u q
  slot := fun b u q _ _ _ => ⟨u.slots, k b u q⟩
  free := fun b u q n _ => by rw [upd_ne (Nat.ne_of_lt (Nat.lt_of_lt_of_le (Heap.lt_size q) hp))]; exact n
  there := fun b u q _ => ⟨u, k b u q⟩
  tups := fun b xs q => by rw [upd_ne (ne_of_none q hn)]; exact q
  frzs := fun b u xs q => by rw [upd_ne (ne_of_none q hn)]; exact q
  tbls := fun b ps q => ⟨#[], by rw [upd_ne (ne_of_none q hn), q]; simp⟩
theorem Un.write (mu : Mut (H x)) (he : e = x ∨ H e = some (.own x)) (k : ∀ b u, b ≠ e → h.get? b = some u → h'.get? b = some u) (heo : ∃ u, h'.get? e = some u) : Un fs ex H (upd H x o) h h' := by
  have hx : ∀ b, H b = none → b ≠ x := fun b n z => by subst z; rw [n] at mu; exact mu
  have hb : ∀ b, H b = none → b ≠ e := fun b n z => by
    subst z
    rcases he with r | r
    · exact hx b n r
    · rw [n] at r; cases r
  have hm : ∀ b u, H b = some u → ¬ Mut (some u) → b ≠ x := fun b u q nm z => by subst z; rw [q] at mu; exact nm mu
  refine ⟨fun b u q n _ _ => k b u (hb b n) q, fun b u q n _ _ => ⟨u.slots, k b u (hb b n) q⟩, fun b u q n _ => by rw [upd_ne (hx b n)]; exact n, fun b u q _ => ?_,
    fun b xs q => by rw [upd_ne (hm b _ q fun z => z)]; exact q, fun b u xs q => by rw [upd_ne (hm b _ q fun z => z)]; exact q, fun b ps q => ⟨#[], by rw [upd_ne (hm b _ q fun z => z), q]; simp⟩⟩
  by_cases hbe : b = e
  · subst hbe; exact heo
  · exact ⟨u, k b u hbe q⟩
end
def trk (h : Heap) (H : Hp) : List Addr := (List.range h.objs.size).filter fun a => (H a).isSome
def hidT (h : Heap) (H : Hp) : Heap := W.hideAll h (trk h H)
theorem hidT_size (h : Heap) (H : Hp) : (hidT h H).objs.size = h.objs.size := W.hideAll_size _ _
theorem hidT_get {h : Heap} {H : Hp} {b : Addr} {o : Obj} (e : h.get? b = some o) (n : H b = none) : (hidT h H).get? b = some o :=
  W.hideAll_get _ e fun hm => by
    have q : (H b).isSome = true := (List.mem_filter.mp hm).2
    rw [n] at q; simp at q
theorem of_hidT {h : Heap} {H : Hp} {b : Addr} {o : Obj} (e : (hidT h H).get? b = some o) : h.get? b = some o ∧ H b = none := by
  have e' : h.get? b = some o := W.of_hideAll (trk h H) e
  refine ⟨e', ?_⟩
  cases q : H b with
  | none => rfl
  | some x =>
    have hm : b ∈ trk h H := List.mem_filter.mpr ⟨List.mem_range.mpr (Heap.lt_size e'), by simp [q]⟩
    have z : (hidT h H).get? b = none := W.hideAll_none (trk h H) hm
    rw [z] at e; cases e
end L2
namespace L2
open PySem PySem.Spec PyProof.Rows
structure Mod (K : W.Frag) (mg : Str → Option Value) (base : Heap) : Prop where
  kin : K.In base
  glob : base.Ns mainGlobals mg
  blt : ∃ mb, base.Ns builtinsNs mb ∧ ∀ x : Str, x ≠ "__name__" → mb x = bootBuiltins x
  nolimit : base.NoLimit
structure Cx where
  prog : Program
  w : World
  K : W.Frag
  mg : Str → Option Value
  base : Heap
  A : Around
  N : List Str
  s₀ : Shared
  H₀ : Hp
  env : Env
  outer : List Env
  stack : List Env
  ex : List Addr
  fn : Str → Bool
  calm : Bool
  pn : List (Addr × Obj)
  xe : Value → Shared → Prop
def frs (l : List Env) : List Addr := l.filterMap (·.frame)
abbrev Cx.fs (X : Cx) : List Addr := frs X.outer
def Vis (sc : Scope) (x : Str) : Prop := sc.names.lookup x = some .local ∨ sc.names.lookup x = some .cell ∨ sc.names.lookup x = some .free
def Loc (sc : Scope) (x : Str) : Prop := sc.names.lookup x = some .local ∨ sc.names.lookup x = some .cell
def Look (env : Env) (h : Heap) (m : Str → Option Value) (x : Str) (u : Value) : Prop :=
  (env.kindOf x = some .local ∧ m x = some u) ∨ ((env.kindOf x = some .cell ∨ env.kindOf x = some .free) ∧ ∃ c, env.cells.lookup x = some c ∧ h.IsCell c (some u))
structure Cx.Ok (X : Cx) : Prop where
  mod : Mod X.K X.mg X.base
  kind : X.env.scope.kind = .function
  glob : X.env.globals = mainGlobals
  blt : X.env.builtins = builtinsNs
  above : X.s₀.heap.objs.size ≤ X.env.locals
  inj : ∀ x y c, X.env.cells.lookup x = some c → X.env.cells.lookup y = some c → x = y
  has : ∀ x, (X.env.kindOf x = some .cell ∨ X.env.kindOf x = some .free) → ∃ c, X.env.cells.lookup x = some c
  cab : ∀ x c, X.fn x = true → X.env.cells.lookup x = some c → X.s₀.heap.objs.size ≤ c
  hd : X.calm = true → X.A.handled = none
  frames : X.A.frames = some X.stack
  stk : X.stack = X.outer ∨ (X.stack = X.env :: X.outer ∧ X.env.frame = some X.env.locals)
  exf : ∀ b ∈ X.ex, b ≠ X.env.locals ∧ ∀ x c, X.env.cells.lookup x = some c → c ≠ b
  bs : ∀ b o, X.base.get? b = some o → X.s₀.heap.get? b = some o ∧ X.H₀ b = none
  bsz : X.base.objs.size ≤ X.s₀.heap.objs.size
  noex : ∀ b o, X.base.get? b = some o → b ∉ X.ex
  exfs : ∀ b ∈ X.ex, b ∉ X.fs
  funs : X.s₀.heap.FunFrames X.base X.outer
  frf : ∀ b ∈ X.fs, X.H₀ b = none
structure Inv (X : Cx) (pins : List (Addr × Obj)) (σ : List (Option V)) (H : Hp) (s : Shared) : Prop where
  ok : X.Ok
  os : s.os = X.s₀.os
  bare : AllBare s.gens
  base : Un X.fs X.ex X.H₀ H X.s₀.heap s.heap
  loc : ∃ m, s.heap.Ns X.env.locals m ∧ ∀ (i : Nat) (x : Str) (v : V), X.N[i]? = some x → σ[i]? = some (some v) → Vis X.env.scope x → ∃ u, RelV v u ∧ Look X.env s.heap m x u
  cell : ∀ x c, X.env.cells.lookup x = some c → ∃ v, s.heap.IsCell c v
  free : H X.env.locals = none
  freeC : ∀ x c, X.env.cells.lookup x = some c → H c = none
  pin : ∀ p ∈ X.pn ++ pins, s.heap.get? p.1 = some p.2 ∧ H p.1 = none ∧ p.1 ≠ X.env.locals ∧ p.1 ∉ X.fs ∧ ∀ v, p.2.data ≠ .cell v
  hok : HOk X.prog X.w H s.heap
  len : σ.length = X.N.length
section
variable {X : Cx} {pins : List (Addr × Obj)} {σ : List (Option V)} {H H' : Hp} {s : Shared} {h' : Heap}
theorem Cx.Ok.nofr (ok : X.Ok) {b : Addr} {o : Obj} (e : X.base.get? b = some o) : b ∉ X.fs := fun hb => by
  have := (ok.funs.mem hb).1
  rw [e] at this; cases this
theorem Inv.bs (I : Inv X pins σ H s) : ∀ b o, X.base.get? b = some o → s.heap.get? b = some o ∧ H b = none := fun b o e =>
  ⟨I.base.keep b o (I.ok.bs b o e).1 (I.ok.bs b o e).2 (I.ok.nofr e) (I.ok.noex b o e), I.base.free b o (I.ok.bs b o e).1 (I.ok.bs b o e).2 (I.ok.noex b o e)⟩
theorem Inv.bk (I : Inv X pins σ H s) : ∀ b o, X.base.get? b = some o → s.heap.get? b = some o := fun b o e => (I.bs b o e).1
theorem Inv.mod (I : Inv X pins σ H s) : Mod X.K X.mg X.base := I.ok.mod
theorem Inv.kIn (I : Inv X pins σ H s) : X.K.In s.heap := I.ok.mod.kin.keeps I.bk
theorem Inv.fr (I : Inv X pins σ H s) : ∃ m, Fr X.base X.env.locals s.heap m :=
  let ⟨m, hn, _⟩ := I.loc
  ⟨m, hn, I.bk, Nat.le_trans I.ok.bsz I.ok.above⟩
theorem Inv.lt (I : Inv X pins σ H s) : X.env.locals < s.heap.objs.size := let ⟨_, hn, _⟩ := I.loc; hn.lt
theorem Inv.sz (I : Inv X pins σ H s) : X.s₀.heap.objs.size ≤ s.heap.objs.size := Nat.le_trans I.ok.above (Nat.le_of_lt I.lt)
theorem Inv.nofs (I : Inv X pins σ H s) {a : Addr} (h : s.heap.objs.size ≤ a) : a ∉ X.fs := fun hb => by
  obtain ⟨_, o, ho, _⟩ := I.ok.funs.mem hb
  exact absurd (Nat.lt_of_lt_of_le (Heap.lt_size ho) (Nat.le_trans I.sz h)) (Nat.lt_irrefl _)
theorem Inv.cne (I : Inv X pins σ H s) : ∀ x c, X.env.cells.lookup x = some c → c ≠ X.env.locals := fun x c e z => by
  obtain ⟨v, o, ho, hd⟩ := I.cell x c e
  obtain ⟨m, ⟨o', es, ep, ho', hd', _⟩, _⟩ := I.loc
  rw [z, ho'] at ho; cases ho; rw [hd'] at hd; cases hd
theorem Inv.funs (I : Inv X pins σ H s) : s.heap.FunFrames X.base X.outer := by
  have all : ∀ (l : List Env), (∀ b ∈ frs l, b ∈ X.fs) → X.s₀.heap.FunFrames X.base l → s.heap.FunFrames X.base l := by
    intro l
    induction l with
    | nil => intro _ _; trivial
    | cons env r ih =>
      intro hs hl
      obtain ⟨hk, ⟨L, o, hf, hn, ho, hd⟩, hr⟩ := hl
      have hL : L ∈ X.fs := hs L (by unfold frs; rw [List.filterMap_cons, hf]; exact List.mem_cons_self)
      obtain ⟨sl, e⟩ := I.base.slot L o ho (I.ok.frf L hL) hL fun z => I.ok.exfs L z hL
      exact ⟨hk, ⟨L, _, hf, hn, e, hd⟩, ih (fun b hb => hs b (by unfold frs; rw [List.filterMap_cons, hf]; exact List.mem_cons_of_mem _ hb)) hr⟩
  exact all X.outer (fun _ hb => hb) I.ok.funs
theorem Inv.stack (I : Inv X pins σ H s) : s.heap.FunFrames X.base X.stack := by
  rcases I.ok.stk with e | ⟨e, hf⟩
  · rw [e]; exact I.funs
  · rw [e]
    obtain ⟨m, hn, _⟩ := I.loc
    refine .cons (by rw [I.ok.kind]; decide) hf hn ?_ I.funs
    exact Heap.get?_none_of_le (Nat.le_trans I.ok.bsz I.ok.above)
theorem Inv.stkSub (I : Inv X pins σ H s) : ∀ b ∈ frs X.stack, b ∈ X.env.locals :: X.fs := fun b hb => by
  rcases I.ok.stk with e | ⟨e, hf⟩
  · rw [e] at hb; exact List.mem_cons_of_mem _ hb
  · rw [e] at hb
    unfold frs at hb
    rw [List.filterMap_cons, hf] at hb
    exact hb
theorem Inv.stkFree (I : Inv X pins σ H s) : ∀ b ∈ frs X.stack, H b = none := fun b hb => by
  rcases List.mem_cons.mp (I.stkSub b hb) with e | hb
  · rw [e]; exact I.free
  · obtain ⟨_, o, ho, _⟩ := I.ok.funs.mem hb
    exact I.base.free b o ho (I.ok.frf b hb) fun z => I.ok.exfs b z hb
theorem Inv.step {g' : Array GenState} {t' : Nat} {d' : Drawn} {ch : List Addr} (I : Inv X pins σ H s)
    (hch : ∀ b ∈ ch, (b ∈ X.ex ∨ X.s₀.heap.objs.size ≤ b) ∧ b ≠ X.env.locals ∧ (∀ x c, X.env.cells.lookup x = some c → c ≠ b) ∧ ∀ p ∈ X.pn ++ pins, p.1 ≠ b)
    (keep : ∀ b o, b ≠ X.env.locals → b ∉ X.fs → b ∉ ch → s.heap.get? b = some o → H b = none → h'.get? b = some o)
    (slot : ∀ b o, b ≠ X.env.locals → b ∈ X.fs → b ∉ ch → s.heap.get? b = some o → H b = none → ∃ sl, h'.get? b = some { o with slots := sl }) (free : ∀ b o, b ∉ ch → s.heap.get? b = some o → H b = none → H' b = none)
    (there : ∀ b o, b ∉ ch → s.heap.get? b = some o → ∃ o', h'.get? b = some o')
    (tups : ∀ b xs, H b = some (.tup xs) → H' b = some (.tup xs)) (frzs : ∀ b o u, H b = some (.frz o u) → H' b = some (.frz o u)) (tbls : ∀ b ps, H b = some (.tbl ps) → ∃ more, H' b = some (.tbl (ps ++ more)))
    (ns : ∀ m, s.heap.Ns X.env.locals m → h'.Ns X.env.locals m) (hok : HOk X.prog X.w H' h') (hg : AllBare g') :
    Inv X pins σ H' { s with heap := h', gens := g', drawn := d', toks := t' } := by
  have neL : ∀ b o, X.s₀.heap.get? b = some o → b ≠ X.env.locals := fun b o e => Nat.ne_of_lt (Nat.lt_of_lt_of_le (Heap.lt_size e) I.ok.above)
  have neC : ∀ b o, X.s₀.heap.get? b = some o → b ∉ X.ex → b ∉ ch := fun b o e hx hb => by
    rcases (hch b hb).1 with z | z
    · exact hx z
    · exact absurd (Nat.lt_of_lt_of_le (Heap.lt_size e) z) (Nat.lt_irrefl _)
  have cellK : ∀ x c, X.env.cells.lookup x = some c → ∀ v, s.heap.IsCell c v → h'.IsCell c v := fun x c e v ⟨o, ho, hd⟩ => by
    have nch : c ∉ ch := fun z => (hch c z).2.2.1 x c e rfl
    by_cases hc : c ∈ X.fs
    · obtain ⟨sl, q⟩ := slot c o (I.cne x c e) hc nch ho (I.freeC x c e)
      exact ⟨_, q, hd⟩
    · exact ⟨o, keep c o (I.cne x c e) hc nch ho (I.freeC x c e), hd⟩
  refine ⟨I.ok, I.os, hg, ⟨fun b o e n hb hx => ?_, fun b o e n hb hx => ?_, fun b o e n hx => ?_, fun b o e hx => ?_, fun b xs e => tups b xs (I.base.tups b xs e), fun b o xs e => frzs b o xs (I.base.frzs b o xs e), fun b ps e => ?_⟩, ?_, fun x c e => ?_, ?_, fun x c e => ?_, fun p hp => ?_, hok, I.len⟩
  · exact keep b o (neL b o e) hb (neC b o e hx) (I.base.keep b o e n hb hx) (I.base.free b o e n hx)
  · obtain ⟨sl, e1⟩ := I.base.slot b o e n hb hx
    obtain ⟨sl', e2⟩ := slot b _ (neL b o e) hb (neC b o e hx) e1 (I.base.free b o e n hx)
    exact ⟨sl', e2⟩
  · obtain ⟨o', e1⟩ := I.base.there b o e hx
    exact free b o' (neC b o e hx) e1 (I.base.free b o e n hx)
  · obtain ⟨o', e1⟩ := I.base.there b o e hx
    exact there b o' (neC b o e hx) e1
  · obtain ⟨m1, e1⟩ := I.base.tbls b ps e
    obtain ⟨m2, e2⟩ := tbls b _ e1
    exact ⟨m1 ++ m2, by rw [e2, Array.append_assoc]⟩
  · obtain ⟨m, hn, hl⟩ := I.loc
    refine ⟨m, ns m hn, fun i x v e1 e2 e3 => ?_⟩
    obtain ⟨u, r, l⟩ := hl i x v e1 e2 e3
    refine ⟨u, r, ?_⟩
    rcases l with l | ⟨k, c, e, z⟩
    · exact .inl l
    · exact .inr ⟨k, c, e, cellK x c e _ z⟩
  · obtain ⟨v, z⟩ := I.cell x c e
    exact ⟨v, cellK x c e v z⟩
  · obtain ⟨m, ⟨o, _, _, ho, _⟩, _⟩ := I.loc
    exact free _ o (fun z => (hch _ z).2.1 rfl) ho I.free
  · obtain ⟨v, o, ho, hd⟩ := I.cell x c e
    exact free c o (fun z => (hch c z).2.2.1 x c e rfl) ho (I.freeC x c e)
  · obtain ⟨e, n, ne, nf, d⟩ := I.pin p hp
    have nch : p.1 ∉ ch := fun z => (hch p.1 z).2.2.2 p hp rfl
    exact ⟨keep p.1 p.2 ne nf nch e n, free p.1 p.2 nch e n, ne, nf, d⟩
theorem Inv.un {t' : Nat} (I : Inv X pins σ H s) (u : Un X.fs [] H H' s.heap h') (hok : HOk X.prog X.w H' h') : Inv X pins σ H' { s with heap := h', toks := t' } := by
  obtain ⟨m, ⟨o, es, ep, ho, r⟩, _⟩ := id I.loc
  obtain ⟨sl, hL⟩ := u.any ho I.free (by simp)
  exact I.step (g' := s.gens) (d' := s.drawn) (ch := []) (fun _ z => nomatch z) (fun b o _ hb _ e n => u.keep b o e n hb (by simp)) (fun b o _ hb _ e n => u.slot b o e n hb (by simp)) (fun b o _ e n => u.free b o e n (by simp)) (fun b o _ e => u.there b o e (by simp)) u.tups u.frzs u.tbls (fun m' hm => by
    obtain ⟨o', es', ep', ho', r'⟩ := hm
    rw [ho] at ho'; cases ho'
    exact ⟨_, es', ep', hL, r'⟩) hok I.bare
theorem Inv.call {g' : Array GenState} {t' : Nat} {d' : Drawn} {ch : List Addr} (I : Inv X pins σ H s) (u : Un (frs X.stack) ch H H' s.heap h') (hok : HOk X.prog X.w H' h') (hg : AllBare g')
    (hch : ∀ b ∈ ch, (b ∈ X.ex ∨ X.s₀.heap.objs.size ≤ b) ∧ b ≠ X.env.locals ∧ (∀ x c, X.env.cells.lookup x = some c → c ≠ b) ∧ ∀ p ∈ X.pn ++ pins, p.1 ≠ b) :
    Inv X pins σ H' { s with heap := h', gens := g', drawn := d', toks := t' } := by
  obtain ⟨m, ⟨o, es, ep, ho, r⟩, _⟩ := id I.loc
  obtain ⟨sl, hL⟩ := u.any ho I.free fun z => (hch _ z).2.1 rfl
  exact I.step (ch := ch) hch (fun b o hL hb hc e n => u.keep b o e n (fun z => (List.mem_cons.mp (I.stkSub b z)).elim hL hb) hc) (fun b o _ _ hc e n => u.any e n hc) (fun b o hc e n => u.free b o e n hc) (fun b o hc e => u.there b o e hc) u.tups u.frzs u.tbls (fun m' hm => by
    obtain ⟨o', es', ep', ho', r'⟩ := hm
    rw [ho] at ho'; cases ho'
    exact ⟨_, es', ep', hL, r'⟩) hok hg
theorem Inv.turned {t' : Nat} {it : Addr} (I : Inv X pins σ H s) (k : ∀ b o, b ≠ it → s.heap.get? b = some o → h'.get? b = some o) (hn : H it = none) (hL : it ≠ X.env.locals)
    (h1 : it ∈ X.ex ∨ X.s₀.heap.objs.size ≤ it) (h2 : ∀ x c, X.env.cells.lookup x = some c → c ≠ it) (h3 : ∀ p ∈ X.pn ++ pins, p.1 ≠ it) : Inv X pins σ H { s with heap := h', toks := t' } := by
  have nit : ∀ b u, H b = some u → b ≠ it := fun b u e z => by rw [z, hn] at e; cases e
  refine I.step (g' := s.gens) (d' := s.drawn) (ch := [it]) (fun b hb => ?_) (fun b o _ _ hc e _ => k b o (fun z => hc (by simp [z])) e) (fun b o _ _ hc e _ => ⟨o.slots, k b o (fun z => hc (by simp [z])) e⟩) (fun _ _ _ _ n => n)
    (fun b o hc e => ⟨o, k b o (fun z => hc (by simp [z])) e⟩) (fun _ _ e => e) (fun _ _ _ e => e) (fun b ps e => ⟨#[], by rw [e]; simp⟩) (fun m hm => ?_) (fun b u e => ?_) I.bare
  · have e : b = it := by simpa using hb
    subst e
    exact ⟨h1, hL, h2, h3⟩
  · obtain ⟨o, es, ep, ho, r⟩ := hm
    exact ⟨o, es, ep, k _ o (Ne.symm hL) ho, r⟩
  · refine (I.hok b u e).stay (fun c v hc q => k c v ?_ q) (fun _ q => q) fun _ _ q => q
    rcases hc with z | z
    · rw [z]; exact nit b u e
    · exact nit c _ z
theorem Inv.tok (I : Inv X pins σ H s) (t : Nat) : Inv X pins σ H { s with toks := t } := I.un (h' := s.heap) (t' := t) Un.refl I.hok
theorem Inv.kept {t' : Nat} (I : Inv X pins σ H s) (k : ∀ b u, s.heap.get? b = some u → h'.get? b = some u) : Inv X pins σ H { s with heap := h', toks := t' } := I.un (Un.kept k) (I.hok.kept k)
theorem Inv.laid {a : Addr} {o : HO} {t' : Nat} (I : Inv X pins σ H s) (k : ∀ b u, s.heap.get? b = some u → h'.get? b = some u) (hp : s.heap.objs.size ≤ a) (new : ObjOk X.prog X.w (upd H a o) h' a o) :
    Inv X pins σ (upd H a o) { s with heap := h', toks := t' } := I.un (Un.laid k hp (I.hok.fresh hp)) (I.hok.laid k hp new)
theorem Inv.write {x e : Addr} {o : HO} {t' : Nat} (I : Inv X pins σ H s) (mu : Mut (H x)) (he : e = x ∨ H e = some (.own x)) (k : ∀ b u, b ≠ e → s.heap.get? b = some u → h'.get? b = some u) (heo : ∃ u, h'.get? e = some u)
    (new : ObjOk X.prog X.w (upd H x o) h' x o) : Inv X pins σ (upd H x o) { s with heap := h', toks := t' } := I.un (Un.write mu he k heo) (I.hok.write mu he k heo new)
theorem Inv.weak {σ' : List (Option V)} (I : Inv X pins σ H s) (hl : σ'.length = σ.length) (w : ∀ (i : Nat) v, σ'[i]? = some (some v) → σ[i]? = some (some v)) : Inv X pins σ' H s :=
  ⟨I.ok, I.os, I.bare, I.base, let ⟨m, hn, hl'⟩ := I.loc; ⟨m, hn, fun i x v e1 e2 e3 => hl' i x v e1 (w i v e2) e3⟩, I.cell, I.free, I.freeC, I.pin, I.hok, hl.trans I.len⟩
theorem Inv.pins_of {pins' : List (Addr × Obj)} (I : Inv X pins σ H s) (h : ∀ p ∈ pins', s.heap.get? p.1 = some p.2 ∧ H p.1 = none ∧ p.1 ≠ X.env.locals ∧ p.1 ∉ X.fs ∧ ∀ v, p.2.data ≠ .cell v) : Inv X pins' σ H s :=
  ⟨I.ok, I.os, I.bare, I.base, I.loc, I.cell, I.free, I.freeC, fun p hp => (List.mem_append.mp hp).elim (fun z => I.pin p (List.mem_append_left _ z)) (h p), I.hok, I.len⟩
theorem nodup_ix {N : List Str} (hN : N.Nodup) {i j : Nat} {x : Str} (a : N[i]? = some x) (b : N[j]? = some x) : i = j := by
  obtain ⟨h1, e1⟩ := List.getElem?_eq_some_iff.mp a
  obtain ⟨h2, e2⟩ := List.getElem?_eq_some_iff.mp b
  exact (List.getElem_inj hN).mp (e1.trans e2.symm)
theorem store_ok2 {M : Model} {A : Around} {E : Value → Shared → Prop} {i : Nat} {x : Str} {v : V} {u : Value} {Q : Unit → Shared → Prop} (I : Inv X pins σ H s) (hN : X.N.Nodup) (hi : X.N[i]? = some x) (hx : Loc X.env.scope x) (r : RelV v u)
    (h : ∀ s', Inv X pins (σ.set i (some v)) H s' → (∃ a, Heap.SameBut a s.heap s'.heap ∧ (a = X.env.locals ∨ X.env.cells.lookup x = some a)) → Q () s') (hf : X.fn x = true ∨ X.env.scope.names.lookup x = some .local := by first | exact .inl rfl | exact .inr rfl | assumption) : wpAny M A (storeName X.env x u) Q E s := by
  obtain ⟨m, hn, hl⟩ := id I.loc
  have hcls : (X.env.scope.kind == .class || (X.env.scope.kind == .module && X.env.locals != X.env.globals)) = false := by rw [I.ok.kind]; rfl
  have hiσ : i < σ.length := by rw [I.len]; exact (List.getElem?_eq_some_iff.mp hi).1
  have cne := I.cne
  have tracked : ∀ {a : Addr} {h' : Heap}, (∃ o, s.heap.get? a = some o ∧ H a = none) → Heap.SameBut a s.heap h' → HOk X.prog X.w H h' := fun {a h'} ha hs b ob e => by
    obtain ⟨_, _, hfree⟩ := ha
    refine (I.hok b ob e).stay (fun c w' hc q => (hs.2 c ?_).trans q) (fun _ q => q) fun _ _ q => q
    rintro rfl
    rcases hc with rfl | hc
    · rw [hfree] at e; cases e
    · rw [hfree] at hc; cases hc
  rcases hx with hk | hk
  · refine wpAny_storeName_local hk hn (fun h' hn' hs => ?_) hcls
    obtain ⟨oL, _, _, hoL, _⟩ := id hn
    refine h _ ⟨I.ok, I.os, I.bare, ⟨fun b o e n hb hx => ?_, fun b o e n hb hx => ?_, I.base.free, fun b o e hx => ?_, I.base.tups, I.base.frzs, I.base.tbls⟩, ⟨_, hn', fun j y v' e1 e2 e3 => ?_⟩, fun y c e => ?_, I.free, I.freeC, fun p hp => ?_, tracked ⟨oL, hoL, I.free⟩ hs, by simpa using I.len⟩ ⟨_, hs, .inl rfl⟩
    · exact (hs.2 b (Nat.ne_of_lt (Nat.lt_of_lt_of_le (Heap.lt_size e) I.ok.above))).trans (I.base.keep b o e n hb hx)
    · obtain ⟨sl, e1⟩ := I.base.slot b o e n hb hx
      exact ⟨sl, (hs.2 b (Nat.ne_of_lt (Nat.lt_of_lt_of_le (Heap.lt_size e) I.ok.above))).trans e1⟩
    · obtain ⟨o', e1⟩ := I.base.there b o e hx
      exact ⟨o', (hs.2 b (Nat.ne_of_lt (Nat.lt_of_lt_of_le (Heap.lt_size e) I.ok.above))).trans e1⟩
    · by_cases hj : j = i
      · subst hj
        rw [hi] at e1; cases e1
        rw [List.getElem?_set_self hiσ] at e2
        cases e2
        exact ⟨u, r, .inl ⟨hk, by simp⟩⟩
      · rw [List.getElem?_set_ne (Ne.symm hj)] at e2
        obtain ⟨u', r', q⟩ := hl j y v' e1 e2 e3
        refine ⟨u', r', ?_⟩
        rcases q with ⟨k, e⟩ | ⟨k, c, e, z⟩
        · refine .inl ⟨k, ?_⟩
          have : y ≠ x := fun e => hj (nodup_ix hN e1 (e ▸ hi))
          simp [this, e]
        · exact .inr ⟨k, c, e, z.sameBut hs (cne y c e)⟩
    · obtain ⟨w', z⟩ := I.cell y c e
      exact ⟨w', z.sameBut hs (cne y c e)⟩
    · obtain ⟨e, n, ne, nf, d⟩ := I.pin p hp
      exact ⟨(hs.2 p.1 ne).trans e, n, ne, nf, d⟩
  · have hfn : X.fn x = true := by
      rcases hf with z | z
      · exact z
      · rw [z] at hk; cases hk
    obtain ⟨c, hc⟩ := I.ok.has x (.inl hk)
    obtain ⟨w', z⟩ := I.cell x c hc
    refine wpAny_storeName_cell I.ok.kind hk hc z (fun h' hc' hs => ?_)
    obtain ⟨oc, hoc, hocd⟩ := id z
    refine h { s with heap := h' } ⟨I.ok, I.os, I.bare, ⟨fun b o e n hb hx => ?_, fun b o e n hb hx => ?_, I.base.free, fun b o e hx => ?_, I.base.tups, I.base.frzs, I.base.tbls⟩, ⟨m, hn.sameBut hs (Ne.symm (cne x c hc)), fun j y v' e1 e2 e3 => ?_⟩, fun y c' e => ?_, I.free, I.freeC, fun p hp => ?_, tracked ⟨oc, hoc, I.freeC x c hc⟩ hs, by simpa using I.len⟩ ⟨c, hs, .inr hc⟩
    · exact (hs.2 b (Nat.ne_of_lt (Nat.lt_of_lt_of_le (Heap.lt_size e) (I.ok.cab x c hfn hc)))).trans (I.base.keep b o e n hb hx)
    · obtain ⟨sl, e1⟩ := I.base.slot b o e n hb hx
      exact ⟨sl, (hs.2 b (Nat.ne_of_lt (Nat.lt_of_lt_of_le (Heap.lt_size e) (I.ok.cab x c hfn hc)))).trans e1⟩
    · obtain ⟨o', e1⟩ := I.base.there b o e hx
      exact ⟨o', (hs.2 b (Nat.ne_of_lt (Nat.lt_of_lt_of_le (Heap.lt_size e) (I.ok.cab x c hfn hc)))).trans e1⟩
    · by_cases hj : j = i
      · subst hj
        rw [hi] at e1; cases e1
        rw [List.getElem?_set_self hiσ] at e2
        cases e2
        exact ⟨u, r, .inr ⟨.inl hk, c, hc, hc'⟩⟩
      · rw [List.getElem?_set_ne (Ne.symm hj)] at e2
        obtain ⟨u', r', q⟩ := hl j y v' e1 e2 e3
        refine ⟨u', r', ?_⟩
        rcases q with q | ⟨k, c', e, z'⟩
        · exact .inl q
        · refine .inr ⟨k, c', e, z'.sameBut hs ?_⟩
          rintro rfl
          exact hj (nodup_ix hN e1 (I.ok.inj _ _ _ e hc ▸ hi))
    · by_cases hcc : c' = c
      · subst hcc; exact ⟨_, hc'⟩
      · obtain ⟨w2, z2⟩ := I.cell y c' e
        exact ⟨w2, z2.sameBut hs hcc⟩
    · obtain ⟨e, n, ne, nf, d⟩ := I.pin p hp
      refine ⟨(hs.2 p.1 ?_).trans e, n, ne, nf, d⟩
      intro q
      rw [q, hoc] at e
      have q' : oc = p.2 := Option.some.inj e
      exact d w' (by rw [← q']; exact hocd)
theorem store_ok {M : Model} {A : Around} {E : Value → Shared → Prop} {i : Nat} {x : Str} {v : V} {u : Value} {Q : Unit → Shared → Prop} (I : Inv X pins σ H s) (hN : X.N.Nodup) (hi : X.N[i]? = some x) (hx : Loc X.env.scope x) (r : RelV v u)
    (h : ∀ s', Inv X pins (σ.set i (some v)) H s' → Q () s') (hf : X.fn x = true ∨ X.env.scope.names.lookup x = some .local := by first | exact .inl rfl | exact .inr rfl | assumption) : wpAny M A (storeName X.env x u) Q E s :=
  store_ok2 I hN hi hx r (fun s' I' _ => h s' I') hf
theorem Inv.call' {s' : Shared} {ch : List Addr} (I : Inv X pins σ H s) (ho : s'.os = s.os) (u : Un (frs X.stack) ch H H' s.heap s'.heap) (hok : HOk X.prog X.w H' s'.heap) (hg : AllBare s'.gens)
    (hch : ∀ b ∈ ch, (b ∈ X.ex ∨ X.s₀.heap.objs.size ≤ b) ∧ b ≠ X.env.locals ∧ (∀ x c, X.env.cells.lookup x = some c → c ≠ b) ∧ ∀ p ∈ X.pn ++ pins, p.1 ≠ b) : Inv X pins σ H' s' := by
  obtain ⟨h', g', d', t', o'⟩ := s'
  have e : o' = s.os := ho
  subst e
  exact I.call (g' := g') (t' := t') (d' := d') u hok hg hch
end
abbrev XK := Value → Option Addr → Hp → Prop
abbrev St := List (Option V)
abbrev VK := V → Hp → Prop
abbrev TE := St → Hp → VK → Prop
abbrev TT := St → Hp → (Bool → Hp → Prop) → Prop
abbrev TA := St → Hp → (List V → Hp → Prop) → Prop
structure Ends where
  nx : St → Hp → Prop
  rt : VK
  bk : St → Hp → Prop := fun _ _ => False
  ct : St → Hp → Prop := fun _ _ => False
abbrev TS := Ends → St → Hp → Prop
def EP (X : Cx) (pins : List (Addr × Obj)) (σ : St) (Q : VK) (u : Value) (s' : Shared) : Prop := ∃ v H', Inv X pins σ H' s' ∧ RelV v u ∧ Q v H'
def TP (X : Cx) (pins : List (Addr × Obj)) (σ : St) (Q : Bool → Hp → Prop) (b : Bool) (s' : Shared) : Prop := ∃ H', Inv X pins σ H' s' ∧ Q b H'
def AP (X : Cx) (pins : List (Addr × Obj)) (σ : St) (Q : List V → Hp → Prop) (us : List Value) (s' : Shared) : Prop := ∃ vs H', Inv X pins σ H' s' ∧ Vals vs us ∧ Q vs H'
def SP (X : Cx) (pins : List (Addr × Obj)) (D : Ends) (f : Flow) (s' : Shared) : Prop :=
  match f with
  | .next => ∃ σ' H', Inv X pins σ' H' s' ∧ D.nx σ' H'
  | .brk => ∃ σ' H', Inv X pins σ' H' s' ∧ D.bk σ' H'
  | .cont => ∃ σ' H', Inv X pins σ' H' s' ∧ D.ct σ' H'
  | .ret u => ∃ v σ' H', Inv X pins σ' H' s' ∧ RelV v u ∧ D.rt v H'
def PE (X : Cx) (e : Expr) (t : TE) : Prop :=
  ∀ (pins : List (Addr × Obj)) (s : Shared) (σ : St) (H : Hp) (Q : VK), Inv X pins σ H s → t σ H Q → wpAny (model X.prog X.w) X.A (eval e X.env) (EP X pins σ Q) X.xe s
def PT (X : Cx) (e : Expr) (t : TT) : Prop :=
  ∀ (pins : List (Addr × Obj)) (s : Shared) (σ : St) (H : Hp) (Q : Bool → Hp → Prop), Inv X pins σ H s → t σ H Q → wpAny (model X.prog X.w) X.A (isTrue e X.env (eval e X.env)) (TP X pins σ Q) X.xe s
def PW (X : Cx) (e : Expr) (t : TT) : Prop :=
  ∀ (whole : Sem Value) (pins : List (Addr × Obj)) (s : Shared) (σ : St) (H : Hp) (Q : Bool → Hp → Prop), Inv X pins σ H s → t σ H Q → wpAny (model X.prog X.w) X.A (isTrue e X.env whole) (TP X pins σ Q) X.xe s
theorem PW.pt {X : Cx} {e : Expr} {t : TT} (h : PW X e t) : PT X e t := h _
def PA (X : Cx) (es : List Expr) (t : TA) : Prop :=
  ∀ (pos : Pos) (pins : List (Addr × Obj)) (s : Shared) (σ : St) (H : Hp) (Q : List V → Hp → Prop), Inv X pins σ H s → t σ H Q → wpAny (model X.prog X.w) X.A (spliced (backTo pos (starEach es X.env))) (AP X pins σ Q) X.xe s
def PS (X : Cx) (st : Stmt) (t : TS) : Prop :=
  ∀ (pins : List (Addr × Obj)) (s : Shared) (σ : St) (H : Hp) (D : Ends), Inv X pins σ H s → t D σ H → wpAny (model X.prog X.w) X.A (exec st X.env) (SP X pins D) X.xe s
def PSs (X : Cx) (st : List Stmt) (t : TS) : Prop :=
  ∀ (pins : List (Addr × Obj)) (s : Shared) (σ : St) (H : Hp) (D : Ends), Inv X pins σ H s → t D σ H → wpAny (model X.prog X.w) X.A (execs st X.env) (SP X pins D) X.xe s
theorem thn {α : Type} {t : Sem α} {Q Q' : α → Shared → Prop} {M : Model} {A : Around} {E : Value → Shared → Prop} {s : Shared} (h : wpAny M A t Q E s) (hQ : ∀ a s, Q a s → Q' a s) : wpAny M A t Q' E s := wpAny_mono h hQ fun _ _ x => x
end L2
namespace L2
open PySem PySem.Spec PyProof.Rows
section
variable {X : Cx}
theorem bin {a b : Expr} {ta tb : TE} (ha : PE X a ta) (hb : PE X b tb) {pins : List (Addr × Obj)} {s : Shared} {σ : St} {H : Hp} {R : V → V → Hp → Prop} (I : Inv X pins σ H s) (h : ta σ H fun x H1 => tb σ H1 fun y H2 => R x y H2)
    {α : Type} {Q : α → Shared → Prop} {f : Value → Value → Sem α}
    (hf : ∀ v u s2 x y H2, Inv X pins σ H2 s2 → RelV x v → RelV y u → R x y H2 → wpAny (model X.prog X.w) X.A (f v u) Q X.xe s2) :
    wpAny (model X.prog X.w) X.A (eval a X.env) (fun v s₁ => wpAny (model X.prog X.w) X.A (eval b X.env) (fun u s₂ => wpAny (model X.prog X.w) X.A (f v u) Q X.xe s₂) X.xe s₁) X.xe s := by
  refine thn (ha pins s σ H _ I h) fun v s1 ⟨x, H1, I1, r1, q1⟩ => ?_
  refine thn (hb pins s1 σ H1 _ I1 q1) fun u s2 ⟨y, H2, I2, r2, q2⟩ => ?_
  exact hf v u s2 x y H2 I2 r1 r2 q2
def tVar (i : Nat) : TE := fun σ H Q => ∃ v, σ[i]? = some (some v) ∧ Q v H
def tC (v : V) : TE := fun _ H Q => Q v H
theorem pe_var {i : Nat} {x : Str} {pos : Pos} (hN : X.N[i]? = some x) (hv : Vis X.env.scope x) (hd : (x == ("__debug__" : Str)) = false := by decide) (hcd : (x == ("__classdict__" : Str)) = false := by decide) : PE X (.Name x pos) (tVar i) := by
  intro pins s σ H Q I h
  obtain ⟨v, e, h⟩ := h
  obtain ⟨m, hn, hl⟩ := I.loc
  obtain ⟨u, r, l⟩ := hl i x v hN e hv
  have fin : EP X pins σ Q u s := ⟨v, H, I, r, h⟩
  rcases l with ⟨hk, hm⟩ | ⟨hk, c, hc, hcell⟩
  · exact wpAny_Name (wpAny_loadName_local I.ok.kind hk hn hm fin) hd
  · rcases hk with hk | hk
    · exact wpAny_Name (wpAny_loadName_cell I.ok.kind hk hc hcell fin) hd
    · exact wpAny_Name (wpAny_loadName_free I.ok.kind hk hc hcell fin hcd) hd
theorem pe_int {i j pos} : PE X (.Constant (.int i) j pos) (tC (.int i)) := fun _ _ _ H _ I h => wpAny_Constant_int ⟨.int i, H, I.tok _, ⟨_, rfl⟩, h⟩
theorem pe_bl {b j pos} : PE X (.Constant (.bool b) j pos) (tC (.bl b)) := fun _ _ _ H _ I h => Constant_bool ⟨.bl b, H, I, rfl, h⟩
theorem pe_non {j pos} : PE X (.Constant .none j pos) (tC .non) := fun _ _ _ H _ I h => Constant_none ⟨.non, H, I, rfl, h⟩
theorem pe_str {x j pos} : PE X (.Constant (.str x) j pos) (tC (.str x)) := fun _ _ _ H _ I h => Calls.Constant_str ⟨.str x, H, I.tok _, ⟨_, rfl⟩, h⟩
def Gl (X : Cx) (x : Str) : Prop := X.env.kindOf x = some .globalImplicit
theorem ld_glob {E : Value → Shared → Prop} {pins : List (Addr × Obj)} {s : Shared} {σ : St} {H : Hp} {x : Str} {u : Value} {pos : Pos} {Q : Value → Shared → Prop} (I : Inv X pins σ H s) (hg : Gl X x) (hm : X.mg x = some u) (h : Q u s)
    (hd : (x == ("__debug__" : Str)) = false := by decide) : wpAny (model X.prog X.w) X.A (eval (.Name x pos) X.env) Q E s :=
  Calls.Name_function_global I.ok.kind hg (Calls.loadGlobal_global (by rw [I.ok.glob]; exact I.mod.glob.keeps I.bk) hm h) hd
theorem ld_blt {E : Value → Shared → Prop} {pins : List (Addr × Obj)} {s : Shared} {σ : St} {H : Hp} {x : Str} {u : Value} {pos : Pos} {Q : Value → Shared → Prop} (I : Inv X pins σ H s) (hg : Gl X x) (hm : X.mg x = none) (hv : bootBuiltins x = some u) (h : Q u s)
    (hn : x ≠ "__name__" := by decide) (hd : (x == ("__debug__" : Str)) = false := by decide) : wpAny (model X.prog X.w) X.A (eval (.Name x pos) X.env) Q E s := by
  obtain ⟨mb, h1, h2⟩ := I.mod.blt
  exact Calls.Name_function_global I.ok.kind hg (Calls.loadGlobal_builtin (by rw [I.ok.glob]; exact I.mod.glob.keeps I.bk) hm (by rw [I.ok.blt]; exact h1.keeps I.bk) ((h2 x hn).trans hv) h) hd
theorem pe_glob {x : Str} {v : V} {u : Value} {pos : Pos} (hg : Gl X x) (hm : X.mg x = some u) (r : RelV v u) (hd : (x == ("__debug__" : Str)) = false := by decide) : PE X (.Name x pos) (tC v) :=
  fun _ _ _ H _ I h => ld_glob I hg hm ⟨v, H, I, r, h⟩ hd
theorem pe_bltn {x : Str} {v : V} {u : Value} {pos : Pos} (hg : Gl X x) (hm : X.mg x = none) (hv : bootBuiltins x = some u) (r : RelV v u) (hn : x ≠ "__name__" := by decide) (hd : (x == ("__debug__" : Str)) = false := by decide) : PE X (.Name x pos) (tC v) :=
  fun _ _ _ H _ I h => ld_blt I hg hm hv ⟨v, H, I, r, h⟩ hn hd
variable {a b : Expr} {ta tb : TE} {pos : Pos}
def PC (X : Cx) (op : CmpOp) (a b : Expr) (t : TE) : Prop :=
  ∀ (pins : List (Addr × Obj)) (s : Shared) (σ : St) (H : Hp) (Q : VK), Inv X pins σ H s → t σ H Q →
    wpAny (model X.prog X.w) X.A (eval a X.env) (fun v s₁ => wpAny (model X.prog X.w) X.A (eval b X.env) (fun u s₂ => wpAny (model X.prog X.w) X.A (compareOp op v u) (EP X pins σ Q) X.xe s₂) X.xe s₁) X.xe s
def tB (t : TE) : TT := fun σ H Q => t σ H fun x H1 => ∃ c, x = .bl c ∧ Q c H1
theorem pt_cmp {op : CmpOp} {t : TE} (h : PC X op a b t) (h1 : behindInMarks op b = false := by first | exact nobehind _ (by decide) (by decide) | rfl) : PT X (.Compare a [op] [b] pos) (tB t) := by
  intro pins s σ H Q I hw
  refine wpAny_isTrue_Compare1 (thn (h pins s σ H _ I hw) fun v s1 h1 => thn h1 fun u s2 h2 => thn h2 fun c s3 ⟨x, H1, I1, r1, q1⟩ => ?_) h1
  obtain ⟨d, rfl, q⟩ := q1
  cases r1
  exact wpAny_truthy_bool ⟨H1, I1, q⟩
theorem pt_val {e : Expr} {t : TE} (h : PE X e t) (he : ∀ whole, isTrue e X.env whole = (do let v ← whole; standAt e.pos; holding [v] (truthy v)) := by intro _; rfl) : PT X e (tB t) := by
  intro pins s σ H Q I hw
  refine isTrue_plain (thn (h pins s σ H _ I hw) fun v s1 ⟨x, H1, I1, r1, q1⟩ => ?_) (he _)
  obtain ⟨d, rfl, q⟩ := q1
  cases r1
  exact wpAny_truthy_bool ⟨H1, I1, q⟩
variable {tA tB' : TT} {rest : List Expr}
def tAnd (t u : TT) : TT := fun σ H Q => t σ H fun c H1 => if c = true then u σ H1 Q else Q false H1
def tOr (t u : TT) : TT := fun σ H Q => t σ H fun c H1 => if c = true then Q true H1 else u σ H1 Q
def tNot (t : TT) : TT := fun σ H Q => t σ H fun c H1 => Q (!c) H1
theorem pw_and1 (ha : PT X a tA) : PW X (.BoolOp .And [a] pos) tA := by
  intro wh pins s σ H Q I h
  refine isTrue_and (thn (ha pins s σ H Q I h) fun c s1 e => ?_)
  cases c with
  | true => exact isTrue_and_nil e
  | false => exact e
theorem pw_or1 (ha : PT X a tA) : PW X (.BoolOp .Or [a] pos) tA := by
  intro wh pins s σ H Q I h
  refine isTrue_or (thn (ha pins s σ H Q I h) fun c s1 e => ?_)
  cases c with
  | false => exact isTrue_or_nil e
  | true => exact e
theorem pw_and (ha : PT X a tA) (hb : PW X (.BoolOp .And (b :: rest) pos) tB') : PW X (.BoolOp .And (a :: b :: rest) pos) (tAnd tA tB') := by
  intro wh pins s σ H Q I h
  refine isTrue_and (thn (ha pins s σ H _ I h) fun c s1 ⟨H1, I1, q1⟩ => ?_)
  cases c with
  | true => exact hb wh pins s1 σ H1 Q I1 q1
  | false => exact ⟨H1, I1, q1⟩
theorem pw_or (ha : PT X a tA) (hb : PW X (.BoolOp .Or (b :: rest) pos) tB') : PW X (.BoolOp .Or (a :: b :: rest) pos) (tOr tA tB') := by
  intro wh pins s σ H Q I h
  refine isTrue_or (thn (ha pins s σ H _ I h) fun c s1 ⟨H1, I1, q1⟩ => ?_)
  cases c with
  | true => exact ⟨H1, I1, q1⟩
  | false => exact hb wh pins s1 σ H1 Q I1 q1
theorem pt_not (ha : PT X a tA) : PT X (.UnaryOp .Not a pos) (tNot tA) := by
  intro pins s σ H Q I h
  exact isTrue_not (ha pins s σ H (fun c H1 => Q (!c) H1) I h)
end
end L2
namespace L2
open PySem PySem.Spec PyProof.Rows
def SqL (K : W.Frag) (H : Hp) (a : Addr) (xs : List V) : Prop :=
  Rd H a (.lst xs) ∨
    ∃ (o : Obj) (its : Array Value) (n : Nat), K.lookup a = some o ∧ o.cls = .type "list" ∧ o.dict = none ∧ o.data = .seq its n ∧ its.size ≤ sizeLine ∧ Vals xs its.toList
def SqT (K : W.Frag) (H : Hp) (a : Addr) (xs : List V) : Prop :=
  Rd H a (.tup xs) ∨
    ∃ (o : Obj) (its : Array Value) (n : Nat), K.lookup a = some o ∧ o.cls = .type "tuple" ∧ o.data = .seq its n ∧ its.size ≤ sizeLine ∧ Vals xs its.toList
def absV : Value → Option V
  | .none => some .non
  | .bool b => some (.bl b)
  | .int i _ => some (.int i)
  | .str x _ => some (.str x)
  | .bytes b _ => some (.byt b)
  | .float b _ => some (.flt b)
  | .ref a => some (.ref a)
  | .type n => some (.ty n)
  | _ => none
theorem RelV.abs {x : V} {u : Value} (r : RelV x u) : absV u = some x := by
  cases x with
  | non => cases r; rfl
  | bl _ => cases r; rfl
  | int _ => obtain ⟨t, rfl⟩ := r; rfl
  | str _ => obtain ⟨t, rfl⟩ := r; rfl
  | byt _ => obtain ⟨t, rfl⟩ := r; rfl
  | flt _ => obtain ⟨t, rfl⟩ := r; rfl
  | ref _ => cases r; rfl
  | ty _ => cases r; rfl
theorem RelV.inj {x y : V} {u : Value} (r : RelV x u) (q : RelV y u) : x = y := Option.some.inj (r.abs.symm.trans q.abs)
theorem Vals.inj : ∀ {xs ys : List V} {us : List Value}, Vals xs us → Vals ys us → xs = ys
  | _, _, _, .nil, .nil => rfl
  | _, _, _, .cons r t, .cons r' t' => by rw [r.inj r', Vals.inj t t']
section
variable {X : Cx} {pins : List (Addr × Obj)} {σ : St} {H : Hp} {s : Shared} {a : Addr} {xs ys : List V}
theorem SqL.of {K : W.Frag} (h : H a = some (.lst xs)) : SqL K H a xs := .inl (.inl h)
theorem SqT.of {K : W.Frag} (h : H a = some (.tup xs)) : SqT K H a xs := .inl (.inl h)
theorem Inv.list (I : Inv X pins σ H s) (h : SqL X.K H a xs) : ∃ its : List Value, Vals xs its ∧ PlainL s.heap a its.toArray ∧ xs.length ≤ sizeLine := by
  rcases h with h | ⟨o, its, n, hk, hc, hd, hs, hz, r⟩
  · obtain ⟨z, its, n, r, e⟩ := h.ok I.hok
    exact ⟨its, r, ⟨_, n, e, rfl, rfl, rfl⟩, z⟩
  · refine ⟨its.toList, r, ⟨o, n, I.kIn a o hk, hc, hd, by simpa using hs⟩, ?_⟩
    have e := r.length
    simp only [Array.length_toList] at e
    omega
theorem Inv.tuple (I : Inv X pins σ H s) (h : SqT X.K H a xs) : ∃ its : List Value, Vals xs its ∧ IsTup s.heap a its.toArray ∧ xs.length ≤ sizeLine := by
  rcases h with h | ⟨o, its, n, hk, hc, hs, hz, r⟩
  · obtain ⟨z, its, r, p⟩ := h.ok I.hok
    exact ⟨its, r, p, z⟩
  · refine ⟨its.toList, r, ⟨o, I.kIn a o hk, hc, n, by simpa using hs⟩, ?_⟩
    have e := r.length
    simp only [Array.length_toList] at e
    omega
theorem Inv.list_inj (I : Inv X pins σ H s) (h : SqL X.K H a xs) (h' : SqL X.K H a ys) : xs = ys := by
  obtain ⟨its, r, ⟨o, n, e, _, _, d⟩, _⟩ := I.list h
  obtain ⟨its', r', ⟨o', n', e', _, _, d'⟩, _⟩ := I.list h'
  rw [e] at e'; cases e'
  rw [d] at d'
  injection d' with d1 _
  have : its = its' := by simpa using congrArg Array.toList d1
  subst this
  exact r.inj r'
theorem Inv.tuple_inj (I : Inv X pins σ H s) (h : SqT X.K H a xs) (h' : SqT X.K H a ys) : xs = ys := by
  obtain ⟨its, r, ⟨o, e, _, n, d⟩, _⟩ := I.tuple h
  obtain ⟨its', r', ⟨o', e', _, n', d'⟩, _⟩ := I.tuple h'
  rw [e] at e'; cases e'
  rw [d] at d'
  injection d' with d1 _
  have : its = its' := by simpa using congrArg Array.toList d1
  subst this
  exact r.inj r'
end
abbrev Cx.wish (X : Cx) (E : Value → Shared → Prop) : Cx := { X with xe := E }
abbrev Cx.nox (X : Cx) : Cx := X.wish fun _ _ => False
theorem Cx.Ok.wish {X : Cx} (ok : X.Ok) (E : Value → Shared → Prop) : (X.wish E).Ok :=
  ⟨ok.mod, ok.kind, ok.glob, ok.blt, ok.above, ok.inj, ok.has, ok.cab, ok.hd, ok.frames, ok.stk, ok.exf, ok.bs, ok.bsz, ok.noex, ok.exfs, ok.funs, ok.frf⟩
theorem Cx.Ok.unwish {X : Cx} {E : Value → Shared → Prop} (ok : (X.wish E).Ok) : X.Ok :=
  ⟨ok.mod, ok.kind, ok.glob, ok.blt, ok.above, ok.inj, ok.has, ok.cab, ok.hd, ok.frames, ok.stk, ok.exf, ok.bs, ok.bsz, ok.noex, ok.exfs, ok.funs, ok.frf⟩
section
variable {X : Cx} {pins : List (Addr × Obj)} {σ : St} {H : Hp} {s : Shared} {E : Value → Shared → Prop}
theorem Inv.wish (I : Inv X pins σ H s) (E : Value → Shared → Prop) : Inv (X.wish E) pins σ H s := ⟨I.ok.wish E, I.os, I.bare, I.base, I.loc, I.cell, I.free, I.freeC, I.pin, I.hok, I.len⟩
theorem Inv.unwish (I : Inv (X.wish E) pins σ H s) : Inv X pins σ H s := ⟨I.ok.unwish, I.os, I.bare, I.base, I.loc, I.cell, I.free, I.freeC, I.pin, I.hok, I.len⟩
theorem SP.unwish {D : Ends} {f : Flow} {s' : Shared} (h : SP (X.wish E) pins D f s') : SP X pins D f s' := by
  cases f with
  | next => obtain ⟨σ', H', I, q⟩ := h; exact ⟨σ', H', I.unwish, q⟩
  | brk => obtain ⟨σ', H', I, q⟩ := h; exact ⟨σ', H', I.unwish, q⟩
  | cont => obtain ⟨σ', H', I, q⟩ := h; exact ⟨σ', H', I.unwish, q⟩
  | ret u => obtain ⟨v, σ', H', I, r, q⟩ := h; exact ⟨v, σ', H', I.unwish, r, q⟩
theorem PSs.nox {st : List Stmt} {t : TS} (h : PSs X.nox st t) : PSs X st t := fun pins s σ H D I hw =>
  wpAny_mono (h pins s σ H D (I.wish _) hw) (fun _ _ q => q.unwish) fun _ _ z => False.elim z
end
section
variable {X : Cx} {st : Stmt} {rest : List Stmt} {t u : TS} {e : Expr} {te : TE} {pos : Pos}
def tNext : TS := fun D σ H => D.nx σ H
def tSeq (t u : TS) : TS := fun D σ H => t { D with nx := u D } σ H
theorem pss_nil : PSs X [] tNext := fun _ _ σ H _ I h => wpAny_execs_nil ⟨σ, H, I, h⟩
theorem pss_cons (h1 : PS X st t) (h2 : PSs X rest u) : PSs X (st :: rest) (tSeq t u) := by
  intro pins s σ H D I h
  refine wpAny_execs_cons (thn (h1 pins s σ H { D with nx := u D } I h) fun f s1 q => ?_)
  cases f with
  | next =>
    obtain ⟨σ', H', I', q⟩ := q
    exact h2 pins s1 σ' H' D I' q
  | ret v => exact q
  | brk => exact q
  | cont => exact q
theorem pss_one (h1 : PS X st t) : PSs X [st] t := by
  intro pins s σ H D I h
  refine wpAny_execs_cons (thn (h1 pins s σ H D I h) fun f s1 q => ?_)
  cases f with
  | next => exact wpAny_execs_nil q
  | ret v => exact q
  | brk => exact q
  | cont => exact q
theorem Inv.quiet {pins : List (Addr × Obj)} {σ : St} {H : Hp} {s : Shared} (I : Inv X pins σ H s) : interactive X.env = false := by simp [interactive, I.ok.kind]
def tDrop (te : TE) : TS := fun D σ H => te σ H fun _ H1 => D.nx σ H1
theorem ps_expr (he : PE X e te) (hs : swapsWith e none pos.line X.env = pure false := by rfl) : PS X (.Expr e pos) (tDrop te) := by
  intro pins s σ H D I h
  exact wpAny_Expr_any (thn (he pins s σ H _ I h) fun v s1 ⟨x, H1, I1, r1, q1⟩ => ⟨σ, H1, I1, q1⟩) I.quiet hs
def tRet (te : TE) : TS := fun D σ H => te σ H D.rt
theorem ps_ret (he : PE X e te) : PS X (.Return (some e) pos) (tRet te) := by
  intro pins s σ H D I h
  exact wpAny_Return_some (thn (he pins s σ H _ I h) fun v s1 ⟨x, H1, I1, r1, q1⟩ => ⟨x, σ, H1, I1, r1, q1⟩)
def tIfS (c : TT) (t u : TS) : TS := fun D σ H => c σ H fun b H1 => if b = true then t D σ H1 else u D σ H1
theorem ps_if {c : Expr} {a b : List Stmt} {tc : TT} (hc : PT X c tc) (ha : PSs X a t) (hb : PSs X b u) : PS X (.If c a b pos) (tIfS tc t u) := by
  intro pins s σ H D I h
  refine wpAny_If (thn (hc pins s σ H _ I h) fun d s1 ⟨H1, I1, q1⟩ => ?_)
  cases d with
  | true => exact ha pins s1 σ H1 D I1 q1
  | false => exact hb pins s1 σ H1 D I1 q1
end
abbrev TG := V → St → Hp → (St → Hp → Prop) → Prop
abbrev TGs := List V → St → Hp → (St → Hp → Prop) → Prop
def PG (X : Cx) (target : Expr) (t : TG) : Prop :=
  ∀ (pins : List (Addr × Obj)) (s : Shared) (σ : St) (H : Hp) (v : V) (u : Value) (Q : St → Hp → Prop), Inv X pins σ H s → RelV v u → t v σ H Q →
    wpAny (model X.prog X.w) X.A (assign target X.env u) (fun _ s' => ∃ σ' H', Inv X pins σ' H' s' ∧ Q σ' H') X.xe s
def PGs (X : Cx) (ts : List Expr) (t : TGs) : Prop :=
  ∀ (pins : List (Addr × Obj)) (s : Shared) (σ : St) (H : Hp) (vs : List V) (us : List Value) (Q : St → Hp → Prop), Inv X pins σ H s → Vals vs us → t vs σ H Q →
    wpAny (model X.prog X.w) X.A (assignInOrder ((assignEach ts X.env).map (·.2)) us) (fun _ s' => ∃ σ' H', Inv X pins σ' H' s' ∧ Q σ' H') X.xe s
abbrev TSet := V → V → V → Hp → (Hp → Prop) → Prop
def PSet (X : Cx) (t : TSet) : Prop :=
  ∀ (pins : List (Addr × Obj)) (s : Shared) (σ : St) (H : Hp) (o i v : V) (ov iv u : Value) (Q : Hp → Prop), Inv X pins σ H s → RelV o ov → RelV i iv → RelV v u → t o i v H Q →
    wpAny (model X.prog X.w) X.A (setItem ov iv u) (fun _ s' => ∃ H', Inv X pins σ H' s' ∧ Q H') X.xe s
section
variable {X : Cx} {pos : Pos}
def gName (i : Nat) : TG := fun v σ H Q => Q (σ.set i (some v)) H
theorem pg_name {i : Nat} {x : Str} (hN : X.N.Nodup) (hi : X.N[i]? = some x) (hx : Loc X.env.scope x) (hf : X.fn x = true ∨ X.env.scope.names.lookup x = some .local := by first | exact .inl rfl | exact .inr rfl | assumption) : PG X (.Name x pos) (gName i) := by
  intro pins s σ H v u Q I r h
  exact wpAny_assign_Name (store_ok I hN hi hx r (fun s' I' => ⟨_, H, I', h⟩) hf)
def gNil : TGs := fun vs σ H Q => vs = [] ∧ Q σ H
def gCons (t : TG) (u : TGs) : TGs := fun vs σ H Q => ∃ v r, vs = v :: r ∧ t v σ H fun σ' H' => u r σ' H' Q
theorem pgs_nil : PGs X [] gNil := by
  intro pins s σ H vs us Q I r h
  obtain ⟨e, h⟩ := h
  subst e
  cases r
  exact assignInOrder_nil ⟨σ, H, I, h⟩
theorem pgs_cons {e : Expr} {es : List Expr} {t : TG} {u : TGs} (h1 : PG X e t) (h2 : PGs X es u)
    (hs : (assignEach (e :: es) X.env).map (·.2) = assign e X.env :: (assignEach es X.env).map (·.2) := by rfl) : PGs X (e :: es) (gCons t u) := by
  intro pins s σ H vs us Q I r h
  obtain ⟨v, vr, e1, h⟩ := h
  subst e1
  cases r with
  | cons r rr =>
    rw [hs]
    refine assignInOrder_cons (thn (h1 pins s σ H _ _ _ I r h) fun _ s1 ⟨σ1, H1, I1, q1⟩ => ?_)
    exact h2 pins s1 σ1 H1 _ _ Q I1 rr q1
def gTup (K : W.Frag) (n : Nat) (t : TGs) : TG := fun v σ H Q => ∃ a xs, v = .ref a ∧ SqT K H a xs ∧ xs.length = n ∧ t xs σ H Q
theorem pg_tup {es : List Expr} {k : Nat} {t : TGs} {n : Nat} (hc : X.calm = true) (h : PGs X es t)
    (hn : (assignEach es X.env).length = n := by rfl) (hst : (assignEach es X.env).findIdx? (·.1) = none := by rfl) : PG X (.Tuple es k pos) (gTup X.K n t) := by
  intro pins s σ H v u Q I r hw
  obtain ⟨a, xs, e1, hq, hl, hw⟩ := hw
  subst e1
  cases r
  obtain ⟨its, rv, ht, hz⟩ := I.tuple hq
  refine assign_Tuple_tuple (I.ok.hd hc) ht (by simp [hn, ← hl, rv.length]) hst fun h' hx => ?_
  have I1 : Inv X pins σ H { s with heap := h' } := I.kept (t' := s.toks) fun b o e => hx b o (Nat.ne_of_lt (Heap.lt_size e)) e
  exact h pins _ σ H xs _ Q I1 (by simpa using rv) hw
def gSub (to ti : TE) (t : TSet) : TG := fun v σ H Q => to σ H fun o H1 => ti σ H1 fun i H2 => t o i v H2 fun H3 => Q σ H3
theorem pg_sub {o i : Expr} {to ti : TE} {t : TSet} (ho : PE X o to) (hi : PE X i ti) (hs : PSet X t)
    (ha : ∀ v, assign (.Subscript o i pos) X.env v = (do
      let ov ← holding [v] (eval o X.env)
      let iv ← holding [v, ov] (eval i X.env)
      standAt pos
      holding [v, ov, iv] (setItem ov iv v)
      release [v, ov, iv] []) := by intro _; rfl) : PG X (.Subscript o i pos) (gSub to ti t) := by
  intro pins s σ H v u Q I r h
  rw [ha]
  refine wpAny_bind (wpAny_holding (thn (ho pins s σ H _ I h) fun ov s1 ⟨x, H1, I1, r1, q1⟩ => ?_))
  refine wpAny_bind (wpAny_holding (thn (hi pins s1 σ H1 _ I1 q1) fun iv s2 ⟨y, H2, I2, r2, q2⟩ => ?_))
  refine wpAny_bind (wpAny_standAt (wpAny_bind (wpAny_holding (thn (hs pins s2 σ H2 x y v ov iv u _ I2 r1 r2 r q2) fun _ s3 ⟨H3, I3, q3⟩ => ?_))))
  exact wpAny_release ⟨σ, H3, I3, q3⟩
def tAsg (te : TE) (g : TG) : TS := fun D σ H => te σ H fun x H1 => g x σ H1 D.nx
theorem ps_asg {tg e : Expr} {te : TE} {g : TG} (he : PE X e te) (hg : PG X tg g) (hs : swapsWithSole [tg] e pos.line X.env = pure false := by rfl) (hw : swappedStores [tg] e X.env = pure none := by rfl)
    (h1 : (assignEach [tg] X.env).map (·.2) = [assign tg X.env] := by rfl) : PS X (.Assign [tg] e pos) (tAsg te g) := by
  intro pins s σ H D I h
  refine wpAny_Assign_stores (thn (he pins s σ H _ I h) fun v s1 ⟨x, H1, I1, r1, q1⟩ => ?_) hs hw
  rw [h1]
  exact thn (hg pins s1 σ H1 x v _ I1 r1 q1) fun _ s2 q => q
theorem ps_set {i : Nat} {x : Str} {e : Expr} {te : TE} {pos' : Pos} (hN : X.N.Nodup) (hi : X.N[i]? = some x) (hx : Loc X.env.scope x) (he : PE X e te) (hs : swapsWith e (some (.Name x pos')) pos.line X.env = pure false := by rfl) (hf : X.fn x = true ∨ X.env.scope.names.lookup x = some .local := by first | exact .inl rfl | exact .inr rfl | assumption) :
    PS X (.Assign [.Name x pos'] e pos) (tAsg te (gName i)) := by
  intro pins s σ H D I h
  refine wpAny_Assign_Name (thn (he pins s σ H _ I h) fun v s1 ⟨y, H1, I1, r1, q1⟩ => ?_) hs
  exact store_ok I1 hN hi hx r1 (fun s2 I2 => ⟨_, H1, I2, q1⟩) hf
end
section
variable {X : Cx} {pos : Pos}
def tWhile (c : TT) (tb : TS) : TS := fun D σ H => ∃ W : Nat → St → Hp → Prop, (∃ m, W m σ H) ∧ ∀ m σ H, W m σ H →
  c σ H fun b H1 => if b = true then ∃ N : St → Hp → Prop, (∀ σ' H', N σ' H' → ∃ m', m' < m ∧ W m' σ' H') ∧ tb { D with nx := N, ct := N, bk := D.nx } σ H1 else D.nx σ H1
theorem ps_while {c : Expr} {body : List Stmt} {tc : TT} {tb : TS} (hp : PassesOwn (model X.prog X.w) X.A X.env X.xe) (hc : PT X c tc) (hb : PSs X body tb) : PS X (.While c body [] pos) (tWhile tc tb) := by
  intro pins s σ H D I h
  obtain ⟨W, ⟨m0, w0⟩, turn⟩ := h
  refine wpAny_While (codeAny_whileLoop (fun n s' => ∃ σ' H', Inv X pins σ' H' s' ∧ W n σ' H') ?_ m0 ⟨σ, H, I, w0⟩)
  rintro n s1 ⟨σ1, H1, I1, w1⟩
  refine wpAny_passesOwn hp (thn (hc pins s1 σ1 H1 _ I1 (turn n σ1 H1 w1)) fun b s2 ⟨H2, I2, q2⟩ => ?_)
  cases b with
  | true =>
    obtain ⟨N, hN, q2⟩ := q2
    rw [if_pos rfl]
    refine wpAny_passesOwn hp (thn (hb pins s2 σ1 H2 _ I2 q2) fun f s3 q3 => ?_)
    cases f with
    | next =>
      obtain ⟨σ3, H3, I3, n3⟩ := q3
      obtain ⟨m', hm, w3⟩ := hN σ3 H3 n3
      exact ⟨m', hm, σ3, H3, I3, w3⟩
    | cont =>
      obtain ⟨σ3, H3, I3, n3⟩ := q3
      obtain ⟨m', hm, w3⟩ := hN σ3 H3 n3
      exact ⟨m', hm, σ3, H3, I3, w3⟩
    | brk => exact q3
    | ret v => exact q3
  | false =>
    rw [if_neg Bool.false_ne_true]
    exact wpAny_execs_nil ⟨σ1, H2, I2, q2⟩
end
structure It where
  go : Nat → Hp → Prop
  yld : Nat → Hp → V → Hp → Prop
  stop : Nat → Hp → Prop
def FpOk (X : Cx) (pins : List (Addr × Obj)) (H : Hp) (b : Addr) : Prop :=
  H b = none ∧ b ≠ X.env.locals ∧ b ∉ X.fs ∧ (b ∈ X.ex ∨ X.s₀.heap.objs.size ≤ b) ∧ (∀ x c, X.env.cells.lookup x = some c → c ≠ b) ∧ ∀ p ∈ X.pn ++ pins, p.1 ≠ b
theorem Inv.fpOk {X : Cx} {pins : List (Addr × Obj)} {σ : St} {H H' : Hp} {s : Shared} {b : Addr} (I : Inv X pins σ H s) (hb : s.heap.objs.size ≤ b) (hn : H' b = none) : FpOk X pins H' b := by
  refine ⟨hn, Nat.ne_of_gt (Nat.lt_of_lt_of_le I.lt hb), I.nofs hb, .inr (Nat.le_trans I.sz hb), fun x c e z => ?_, fun p hp z => ?_⟩
  · obtain ⟨v, q⟩ := I.cell x c e
    exact absurd (Nat.lt_of_lt_of_le q.lt (by rw [z]; exact hb)) (Nat.lt_irrefl _)
  · exact absurd (Nat.lt_of_lt_of_le (Heap.lt_size (I.pin p hp).1) (by rw [z]; exact hb)) (Nat.lt_irrefl _)
structure Turn (P : Program) (w : World) (K : W.Frag) (tg : Expr) (J : It) (fp : List Addr) (it : Addr) (tn : Nat → Heap → Prop) : Prop where
  mem : it ∈ fp
  obj : ∀ i h, tn i h → ∀ b ∈ fp, ∃ o, h.get? b = some o ∧ ∀ v, o.data ≠ .cell v
  keep : ∀ i h h', tn i h → (∀ b ∈ fp, ∀ o, h.get? b = some o → h'.get? b = some o) → tn i h'
  item : ∀ (X : Cx), X.prog = P → X.w = w → X.K = K → X.calm = true → ∀ (i : Nat) (pins : List (Addr × Obj)) (s : Shared) (σ : St) (H : Hp) (E : Value → Shared → Prop), Inv X pins σ H s → (∀ b ∈ fp, FpOk X pins H b) → tn i s.heap → J.go i H →
    wpAny (model P w) X.A (pyNext (.ref it)) (fun r s1 => ∃ u, r = some u ∧
      wpAny (model P w) X.A (letOwnedTupleGo tg (.ref it) u) (fun _ s2 => ∃ x H', Inv X pins σ H' s2 ∧ RelV x u ∧ J.yld i H x H' ∧ tn (i + 1) s2.heap ∧ ∀ b ∈ fp, H' b = none) E s1) E s
  done : ∀ (X : Cx), X.prog = P → X.w = w → X.K = K → X.calm = true → ∀ (i : Nat) (pins : List (Addr × Obj)) (s : Shared) (σ : St) (H : Hp) (E : Value → Shared → Prop), Inv X pins σ H s → (∀ b ∈ fp, FpOk X pins H b) → tn i s.heap → J.stop i H →
    wpAny (model P w) X.A (pyNext (.ref it)) (fun r s1 => r = none ∧ Inv X pins σ H s1) E s
  self : ∀ (A : Around) (i : Nat) (s : Shared) (Q : Value → Shared → Prop) (E : Value → Shared → Prop), tn i s.heap → Q (.ref it) s → wpAny (model P w) A (pyIter (.ref it)) Q E s
abbrev TI := St → Hp → (It → Hp → Prop) → Prop
def PIE (X : Cx) (pins : List (Addr × Obj)) (σ : St) (tg : Expr) (R : It → Hp → Prop) (itv : Value) (s2 : Shared) : Prop :=
  ∃ (it : Addr) (fp : List Addr) (tn : Nat → Heap → Prop) (J : It) (H' : Hp), itv = .ref it ∧ Inv X pins σ H' s2 ∧ Turn X.prog X.w X.K tg J fp it tn ∧ tn 0 s2.heap ∧ (∀ b ∈ fp, FpOk X pins H' b) ∧ R J H'
def PI (X : Cx) (tg iter : Expr) (wi : TI) : Prop :=
  ∀ (pins : List (Addr × Obj)) (s : Shared) (σ : St) (H : Hp) (R : It → Hp → Prop), Inv X pins σ H s → wi σ H R →
    wpAny (model X.prog X.w) X.A (eval iter X.env) (fun v s1 => wpAny (model X.prog X.w) X.A (pyIter v) (PIE X pins σ tg R) X.xe s1) X.xe s
theorem go_of {M : Model} {A : Around} {E : Value → Shared → Prop} {s : Shared} {tg : Expr} {it : Addr} {u : Value} {o : Obj} {n : String} {vs : Array Value} {Q : Unit → Shared → Prop} (ho : s.heap.get? it = some o) (hc : o.cls = .type n) (hd : o.data = .fields vs)
    (hn : ["enumerate", "zip", "dict_itemiterator", "dict_reverseitemiterator", "odict_iterator", "itertools.zip_longest", "itertools.pairwise"].contains n = false) (hQ : Q () s) : wpAny M A (letOwnedTupleGo tg (.ref it) u) Q E s := by
  unfold letOwnedTupleGo
  cases tg <;> first
    | exact wpAny_pure hQ
    | (cases u <;> first
        | exact wpAny_pure hQ
        | (refine wpAny_bind (wpAny_load ho ?_)
           rw [hc, hd]
           show wpAny M A (if (["enumerate", "zip", "dict_itemiterator", "dict_reverseitemiterator", "odict_iterator", "itertools.zip_longest", "itertools.pairwise"].contains n && vs[0]? == some (rawInt _)) = true then _ else _) Q E s
           rw [if_neg (by intro h; rw [hn, Bool.false_and] at h; cases h)]
           exact wpAny_pure hQ))
def Itl (K : W.Frag) (a : Addr) : It :=
  ⟨fun i H => ∃ xs x, SqL K H a xs ∧ xs[i]? = some x, fun i H x H' => H' = H ∧ ∀ xs, SqL K H a xs → xs[i]? = some x, fun i H => ∃ xs, SqL K H a xs ∧ xs.length ≤ i⟩
def Itt (K : W.Frag) (a : Addr) : It :=
  ⟨fun i H => ∃ xs x, SqT K H a xs ∧ xs[i]? = some x, fun i H x H' => H' = H ∧ ∀ xs, SqT K H a xs → xs[i]? = some x, fun i H => ∃ xs, SqT K H a xs ∧ xs.length ≤ i⟩
def Itr (lo : Int) (n : Nat) : It := ⟨fun i _ => i < n, fun i H x H' => H' = H ∧ x = .int (lo + i), fun i _ => n ≤ i⟩
theorem turn_list {P : Program} {w : World} {K : W.Frag} {tg : Expr} (a it : Addr) : Turn P w K tg (Itl K a) [it] it (fun i h => h.IsListIter it a i) where
  mem := by simp
  obj := fun i h st b hb => by
    have e : b = it := by simpa using hb
    subst e
    obtain ⟨o, e, c, d⟩ := st
    exact ⟨o, e, fun v z => by rw [d] at z; cases z⟩
  keep := fun i h h' st k => st.at fun o e => k it (by simp) o e
  item := by
    intro X hP hw hK hc i pins s σ H E I hf st hg
    subst hP hw hK
    obtain ⟨xs, x, hq, hx⟩ := hg
    obtain ⟨its, rv, p, hz⟩ := I.list hq
    obtain ⟨u, hu, ru⟩ := rv.get hx
    obtain ⟨f0, f1, f2, f3, f4, f5⟩ := hf it (by simp)
    refine wpAny_pyNext_list_item st p.isList (x := u) (by simpa using hu) fun h' st' sb => ?_
    have I1 : Inv X pins σ H { s with heap := h' } := I.turned (t' := s.toks) (fun b o hb e => (sb.2 b hb).trans e) f0 f1 f3 f4 f5
    obtain ⟨o, e, c, d⟩ := id st'
    exact ⟨u, rfl, go_of (s := { s with heap := h' }) e c d (by decide) ⟨x, H, I1, ru, ⟨rfl, fun ys hy => by rw [I.list_inj hy hq]; exact hx⟩, st', fun b hb => (hf b hb).1⟩⟩
  done := by
    intro X hP hw hK hc i pins s σ H E I hf st hg
    subst hP hw hK
    obtain ⟨xs, hq, hx⟩ := hg
    obtain ⟨its, rv, p, hz⟩ := I.list hq
    obtain ⟨f0, f1, f2, f3, f4, f5⟩ := hf it (by simp)
    have hl := rv.length
    exact wpAny_pyNext_list_end (I.ok.hd hc) st p.isList (by simp; omega) fun h' eb => ⟨rfl, I.turned (t' := s.toks) (fun b o hb e => eb b o hb e) f0 f1 f3 f4 f5⟩
  self := fun _ _ _ _ _ st h => wpAny_pyIter_listiter st h
theorem turn_tuple {P : Program} {w : World} {K : W.Frag} {tg : Expr} (a it : Addr) : Turn P w K tg (Itt K a) [it] it (fun i h => h.IsTupleIter it a i) where
  mem := by simp
  obj := fun i h st b hb => by
    have e : b = it := by simpa using hb
    subst e
    obtain ⟨o, e, c, d⟩ := st
    exact ⟨o, e, fun v z => by rw [d] at z; cases z⟩
  keep := fun i h h' st k => st.at fun o e => k it (by simp) o e
  item := by
    intro X hP hw hK hc i pins s σ H E I hf st hg
    subst hP hw hK
    obtain ⟨xs, x, hq, hx⟩ := hg
    obtain ⟨its, rv, p, hz⟩ := I.tuple hq
    obtain ⟨u, hu, ru⟩ := rv.get hx
    obtain ⟨f0, f1, f2, f3, f4, f5⟩ := hf it (by simp)
    refine wpAny_pyNext_tuple_item st (show s.heap.IsTuple a its.toArray from p) (x := u) (by simpa using hu) fun h' st' sb => ?_
    have I1 : Inv X pins σ H { s with heap := h' } := I.turned (t' := s.toks) (fun b o hb e => (sb.2 b hb).trans e) f0 f1 f3 f4 f5
    obtain ⟨o, e, c, d⟩ := id st'
    exact ⟨u, rfl, go_of (s := { s with heap := h' }) e c d (by decide) ⟨x, H, I1, ru, ⟨rfl, fun ys hy => by rw [I.tuple_inj hy hq]; exact hx⟩, st', fun b hb => (hf b hb).1⟩⟩
  done := by
    intro X hP hw hK hc i pins s σ H E I hf st hg
    subst hP hw hK
    obtain ⟨xs, hq, hx⟩ := hg
    obtain ⟨its, rv, p, hz⟩ := I.tuple hq
    obtain ⟨f0, f1, f2, f3, f4, f5⟩ := hf it (by simp)
    have hl := rv.length
    exact wpAny_pyNext_tuple_end (I.ok.hd hc) st (show s.heap.IsTuple a its.toArray from p) (by simp; omega) fun h' eb => ⟨rfl, I.turned (t' := s.toks) (fun b o hb e => eb b o hb e) f0 f1 f3 f4 f5⟩
  self := fun _ _ _ _ _ st h => wpAny_pyIter_tupleiter st h
theorem turn_range {P : Program} {w : World} {K : W.Frag} {tg : Expr} (it : Addr) (lo : Int) (n : Nat) : Turn P w K tg (Itr lo n) [it] it (fun i h => IsRangeIter h it (lo + (i : Nat) * 1) ((n : Int) - (i : Nat)) 1) where
  mem := by simp
  obj := fun i h st b hb => by
    have e : b = it := by simpa using hb
    subst e
    exact ⟨_, st, fun v z => by
      have z' : Data.fields _ = Data.cell v := z
      cases z'⟩
  keep := fun i h h' st k => k it (by simp) _ st
  item := by
    intro X hP hw hK hc i pins s σ H E I hf st hg
    subst hP hw hK
    obtain ⟨f0, f1, f2, f3, f4, f5⟩ := hf it (by simp)
    have W := Walks.range (prog := X.prog) (w := X.w) (I.ok.hd hc) it lo 1 n
    refine W.item i s _ _ hg st fun v h' tk hv st' kk => ?_
    obtain ⟨t, rfl⟩ := hv
    have I1 : Inv X pins σ H { s with heap := h', toks := tk } := I.turned (fun b o hb e => kk b o (by simpa using hb) e) f0 f1 f3 f4 f5
    refine ⟨_, rfl, go_of (s := { s with heap := h', toks := tk }) (n := "range_iterator") st' rfl rfl (by decide) ⟨.int (lo + i), H, I1, ⟨t, ?_⟩, ⟨rfl, rfl⟩, st', fun b hb => (hf b hb).1⟩⟩
    rw [Int.mul_one]
  done := by
    intro X hP hw hK hc i pins s σ H E I hf st hg
    subst hP hw hK
    obtain ⟨f0, f1, f2, f3, f4, f5⟩ := hf it (by simp)
    exact wpAny_pyNext_range_end (I.ok.hd hc) st (by have : n ≤ i := hg; omega) fun h' eb => ⟨rfl, I.turned (t' := s.toks) (fun b o hb e => eb b o hb e) f0 f1 f3 f4 f5⟩
  self := fun _ _ _ _ _ st h => wpAny_pyIter_rangeiter st h
end L2
namespace L2
open PySem PySem.Spec PyProof.Rows
section
variable {X : Cx} {tg : Expr}
def iList (K : W.Frag) (tl : TE) : TI := fun σ H R => tl σ H fun x H1 => ∃ a, x = .ref a ∧ (∃ xs, SqL K H1 a xs) ∧ R (Itl K a) H1
theorem pi_list {l : Expr} {tl : TE} (hl : PE X l tl) : PI X tg l (iList X.K tl) := by
  intro pins s σ H R I h
  refine thn (hl pins s σ H _ I h) fun v s1 ⟨x, H1, I1, r1, q1⟩ => ?_
  obtain ⟨a, e, ⟨xs, hq⟩, q⟩ := q1
  subst e
  cases r1
  obtain ⟨its, rv, p, hz⟩ := I1.list hq
  refine wpAny_pyIter_list p.isList ?_
  refine ⟨s1.heap.objs.size, [s1.heap.objs.size], _, _, H1, rfl, I1.kept (t' := s1.toks) fun b o e => Heap.get?_push_of_some _ e, turn_list a _, ⟨_, Heap.get?_push_size _ rfl, rfl, rfl⟩, fun b hb => ?_, q⟩
  have e : b = s1.heap.objs.size := by simpa using hb
  subst e
  exact I1.fpOk (Nat.le_refl _) (I1.hok.fresh (Nat.le_refl _))
theorem range_it {pins : List (Addr × Obj)} {σ : St} {H : Hp} {s : Shared} {R : It → Hp → Prop} {E : Value → Shared → Prop} {lo hi : Int} {t u v : Tok} {tk : Nat} (I : Inv X pins σ H s) (h1 : -(2 ^ 62) ≤ lo) (h2 : lo < 2 ^ 62) (h3 : -(2 ^ 62) ≤ hi) (h4 : hi < 2 ^ 62)
    (q : R (Itr lo (hi - lo).toNat) H) : wpAny (model X.prog X.w) X.A (pyIter (.ref s.heap.objs.size)) (PIE X pins σ tg R) E { s with heap := s.heap.push { cls := .type "range", data := .fields #[.int lo t, .int hi u, .int 1 v] }, toks := tk } := by
  refine wpAny_pyIter_range (IsRange.new ..) (small_one h1 h2 h3 h4) ?_
  have I1 : Inv X pins σ H { s with heap := s.heap.push { cls := .type "range", data := .fields #[.int lo t, .int hi u, .int 1 v] }, toks := tk } := I.kept fun b o e => Heap.get?_push_of_some _ e
  refine ⟨(s.heap.push { cls := .type "range", data := .fields #[.int lo t, .int hi u, .int 1 v] }).objs.size, [(s.heap.push { cls := .type "range", data := .fields #[.int lo t, .int hi u, .int 1 v] }).objs.size], _, _, H, rfl,
    I1.kept (t' := tk) fun b o e => Heap.get?_push_of_some _ e, turn_range _ lo (hi - lo).toNat, ?_, fun b hb => ?_, q⟩
  · have e1 : lo + ((0 : Nat) : Int) * 1 = lo := by simp
    have e2 : (((hi - lo).toNat : Nat) : Int) - ((0 : Nat) : Int) = Builtin.Range.rangeSize lo hi 1 := by rw [rangeSize_one]; split <;> omega
    show IsRangeIter _ _ (lo + ((0 : Nat) : Int) * 1) ((((hi - lo).toNat : Nat) : Int) - ((0 : Nat) : Int)) 1
    rw [e1, e2]
    exact Heap.get?_push_size _ rfl
  · have e : b = (s.heap.push { cls := .type "range", data := .fields #[.int lo t, .int hi u, .int 1 v] }).objs.size := by simpa using hb
    subst e
    exact I1.fpOk (Nat.le_refl _) (I1.hok.fresh (Nat.le_refl _))
def iRng1 (ta : TA) : TI := fun σ H R => ta σ H fun vs H1 => ∃ j : Int, vs = [.int j] ∧ -(2 ^ 62) ≤ j ∧ j < 2 ^ 62 ∧ R (Itr 0 j.toNat) H1
theorem pi_range1 {a : Expr} {ta : TA} {p pos : Pos} (hg : Gl X "range") (hm : X.mg "range" = none) (ha : PA X [a] ta) (hs : starEach [a] X.env = [(false, eval a X.env)] := by rfl) : PI X tg (.Call (.Name "range" p) [a] [] pos) (iRng1 ta) := by
  intro pins s σ H R I h
  refine Call_ (ld_blt I hg hm boot_range (PyProof.Rows.callWith_type1 (thn (ha pos pins s σ H _ I h) fun us s1 ⟨vs, H1, I1, r1, q1⟩ => ?_) hs rfl))
  obtain ⟨j, e, q1, q2, q⟩ := q1
  subst e
  cases r1 with
  | cons r rr =>
    cases rr
    obtain ⟨t, rfl⟩ := r
    exact call_range_1 (range_it I1 (by omega) (by omega) q1 q2 (by simpa using q))
def tFor (wi : TI) (g : TG) (tb : TS) : TS := fun D σ H => wi σ H fun J H1 => ∃ W : Nat → Nat → St → Hp → Prop, (∃ m, W 0 m σ H1) ∧ ∀ i m σ H, W i m σ H →
  (J.stop i H ∧ D.nx σ H) ∨ (J.go i H ∧ ∃ N : St → Hp → Prop, (∀ σ' H', N σ' H' → ∃ m', m' < m ∧ W (i + 1) m' σ' H') ∧ ∀ x H', J.yld i H x H' → g x σ H' fun σ2 H2 => tb { D with nx := N, ct := N, bk := D.nx } σ2 H2)
def pinsAt (fp : List Addr) (h : Heap) : List (Addr × Obj) := fp.filterMap fun b => (h.get? b).map fun o => (b, o)
theorem mem_pinsAt {fp : List Addr} {h : Heap} {b : Addr} {o : Obj} (hb : b ∈ fp) (e : h.get? b = some o) : (b, o) ∈ pinsAt fp h := List.mem_filterMap.mpr ⟨b, hb, by rw [e]; rfl⟩
theorem of_pinsAt {fp : List Addr} {h : Heap} {p : Addr × Obj} (hp : p ∈ pinsAt fp h) : p.1 ∈ fp ∧ h.get? p.1 = some p.2 := by
  obtain ⟨b, hb, e⟩ := List.mem_filterMap.mp hp
  cases q : h.get? b with
  | none => rw [q] at e; cases e
  | some o =>
    rw [q] at e
    have e' : (b, o) = p := Option.some.inj e
    subst e'
    exact ⟨hb, q⟩
theorem Inv.pinned {pins : List (Addr × Obj)} {σ : St} {H : Hp} {s : Shared} {fp : List Addr} (I : Inv X pins σ H s) (hf : ∀ b ∈ fp, FpOk X pins H b) (ho : ∀ b ∈ fp, ∃ o, s.heap.get? b = some o ∧ ∀ v, o.data ≠ .cell v) : Inv X (pins ++ pinsAt fp s.heap) σ H s :=
  I.pins_of fun p hp => (List.mem_append.mp hp).elim (fun z => I.pin p (List.mem_append_right _ z)) fun z => by
    obtain ⟨hb, e⟩ := of_pinsAt z
    obtain ⟨f0, f1, f2, _⟩ := hf p.1 hb
    obtain ⟨o, e', d⟩ := ho p.1 hb
    rw [e] at e'; cases e'
    exact ⟨e, f0, f1, f2, d⟩
theorem Inv.unpinned {pins pl : List (Addr × Obj)} {σ : St} {H : Hp} {s : Shared} (I : Inv X (pins ++ pl) σ H s) : Inv X pins σ H s := I.pins_of fun p hp => I.pin p (List.mem_append_right _ (List.mem_append_left _ hp))
theorem ps_for {iter : Expr} {body : List Stmt} {wi : TI} {g : TG} {tb : TS} {pos : Pos} (hp : PassesOwn (model X.prog X.w) X.A X.env X.xe) (hc : X.calm = true) (hi : PI X tg iter wi) (hg : PG X tg g) (hb : PSs X body tb)
    (hs : ∀ x, foldedSetIterable iter X.env x = pure x := by intro _; rfl) : PS X (.For tg iter body [] pos) (tFor wi g tb) := by
  intro pins s σ H D I h
  refine wpAny_For (thn (hi pins s σ H _ I h) fun v s1 h1 => thn h1 fun itv s2 h2 => ?_) hs
  obtain ⟨it, fp, tn, J, H2, e, I2, T, st2, f2, W, ⟨m0, w0⟩, turn⟩ := h2
  subst e
  have stat : ∀ {H' : Hp}, (∀ b ∈ fp, H' b = none) → ∀ b ∈ fp, FpOk X pins H' b := fun hn b hb => ⟨hn b hb, (f2 b hb).2⟩
  refine codeAny_forLoop_any (fun n s' => ∃ i σ' H', Inv X pins σ' H' s' ∧ tn i s'.heap ∧ (∀ b ∈ fp, H' b = none) ∧ W i n σ' H') ?_ m0 ⟨0, σ, H2, I2, st2, fun b hb => (f2 b hb).1, w0⟩
  rintro n s3 ⟨i, σ3, H3, I3, st3, fr3, w3⟩
  rcases turn i n σ3 H3 w3 with ⟨stop, qn⟩ | ⟨go, N, hN, step⟩
  · refine wpAny_passesOwn hp (thn (T.done X rfl rfl rfl hc i pins s3 σ3 H3 X.xe I3 (stat fr3) st3 stop) fun r s4 ⟨hr, I4⟩ => ?_)
    subst hr
    exact wpAny_execs_nil ⟨σ3, H3, I4, qn⟩
  · refine wpAny_passesOwn hp (thn (T.item X rfl rfl rfl hc i pins s3 σ3 H3 X.xe I3 (stat fr3) st3 go) fun r s4 ⟨u, hr, h4⟩ => ?_)
    subst hr
    refine wpAny_passesOwn hp (thn h4 fun _ s5 ⟨x, H5, I5, r5, y5, st5, fr5⟩ => ?_)
    have I5' := I5.pinned (stat fr5) (T.obj _ _ st5)
    refine wpAny_passesOwn hp (thn (hg _ s5 σ3 H5 x u _ I5' r5 (step x H5 y5)) fun _ s6 ⟨σ6, H6, I6, q6⟩ => ?_)
    refine wpAny_passesOwn hp (thn (hb _ s6 σ6 H6 _ I6 q6) fun f s7 q7 => ?_)
    have again : ∀ {σ7 : St} {H7 : Hp}, Inv X (pins ++ pinsAt fp s5.heap) σ7 H7 s7 → N σ7 H7 → ∃ m, m < n ∧ ∃ i σ' H', Inv X pins σ' H' s7 ∧ tn i s7.heap ∧ (∀ b ∈ fp, H' b = none) ∧ W i m σ' H' := fun {σ7 H7} I7 n7 => by
      obtain ⟨m', hm, w7⟩ := hN σ7 H7 n7
      refine ⟨m', hm, i + 1, σ7, H7, I7.unpinned, T.keep _ _ _ st5 fun b hb o e => (I7.pin (b, o) (List.mem_append_right _ (List.mem_append_right _ (mem_pinsAt hb e)))).1, fun b hb => ?_, w7⟩
      obtain ⟨o, e, d⟩ := T.obj _ _ st5 b hb
      exact (I7.pin (b, o) (List.mem_append_right _ (List.mem_append_right _ (mem_pinsAt hb e)))).2.1
    cases f with
    | next => obtain ⟨σ7, H7, I7, n7⟩ := q7; exact again I7 n7
    | cont => obtain ⟨σ7, H7, I7, n7⟩ := q7; exact again I7 n7
    | brk => obtain ⟨σ7, H7, I7, q7⟩ := q7; exact ⟨σ7, H7, I7.unpinned, q7⟩
    | ret v => obtain ⟨x7, σ7, H7, I7, r7, q7⟩ := q7; exact ⟨x7, σ7, H7, I7.unpinned, r7, q7⟩
end
end L2
namespace L2
open PySem PySem.Spec PyProof.Rows
abbrev R2 := V → V → Hp → VK → Prop
def OpR (X : Cx) (f : Value → Value → Sem Value) (r : R2) : Prop :=
  ∀ (pins : List (Addr × Obj)) (s : Shared) (σ : St) (H : Hp) (x y : V) (v u : Value) (Q : VK), Inv X pins σ H s → RelV x v → RelV y u → r x y H Q →
    wpAny (model X.prog X.w) X.A (f v u) (EP X pins σ Q) X.xe s
def CallR (X : Cx) (f : Value) (r : List V → Hp → VK → Prop) : Prop :=
  ∀ (pins : List (Addr × Obj)) (s : Shared) (σ : St) (H : Hp) (xs : List V) (us : List Value) (Q : VK), Inv X pins σ H s → Vals xs us → r xs H Q →
    wpAny (model X.prog X.w) X.A (call f us) (EP X pins σ Q) X.xe s
def tOp (r : R2) (ta tb : TE) : TE := fun σ H Q => ta σ H fun x H1 => tb σ H1 fun y H2 => r x y H2 Q
def rI (C : Int → Int → Prop) (g : Int → Int → V) : R2 := fun x y H Q => ∃ i j, x = .int i ∧ y = .int j ∧ C i j ∧ Q (g i j) H
def rI0 (g : Int → Int → V) : R2 := fun x y H Q => ∃ i j, x = .int i ∧ y = .int j ∧ Q (g i j) H
section
variable {X : Cx} {a b c : Expr} {ta tb tc : TE} {pos : Pos}
theorem binT (ha : PE X a ta) (hb : PE X b tb) {pins : List (Addr × Obj)} {s : Shared} {σ : St} {H : Hp} {R : V → V → Hp → Prop} (I : Inv X pins σ H s)
    (h : ta σ H fun x H1 => tb σ H1 fun y H2 => R x y H2) {Q : Value → Shared → Prop} {f : Value → Value → Sem Value}
    (hf : ∀ v u s2 x y H2, Inv X pins σ H2 s2 → RelV x v → RelV y u → R x y H2 → wpAny (model X.prog X.w) X.A (f v u) Q X.xe s2) :
    wpAny (model X.prog X.w) X.A (eval a X.env) (fun v s₁ => wpAny (model X.prog X.w) X.A (eval b X.env) (fun u s₂ => wpAny (model X.prog X.w) X.A (f v u) Q X.xe s₂) X.xe s₁) X.xe s := by
  refine thn (ha pins s σ H _ I h) fun v s1 ⟨x, H1, I1, r1, q1⟩ => ?_
  refine thn (hb pins s1 σ H1 _ I1 q1) fun u s2 ⟨y, H2, I2, r2, q2⟩ => ?_
  exact hf v u s2 x y H2 I2 r1 r2 q2
theorem pe_op {op : Operator} {r : R2} (ho : OpR X (binaryOp op) r) (ha : PE X a ta) (hb : PE X b tb) : PE X (.BinOp a op b pos) (tOp r ta tb) := by
  intro pins s σ H Q I h
  exact wpAny_BinOp (binT ha hb I h fun v u s2 x y H2 I2 rx ry q => ho pins s2 σ H2 x y v u Q I2 rx ry q)
theorem opI {f : Value → Value → Sem Value} {C : Int → Int → Prop} {g : Int → Int → Int}
    (rule : ∀ (i j : Int) (t u : Tok) (s : Shared) (Q : Value → Shared → Prop) (E : Value → Shared → Prop), C i j → Q (.int (g i j) s.toks) { s with toks := s.toks + 1 } → wpAny (model X.prog X.w) X.A (f (.int i t) (.int j u)) Q E s) :
    OpR X f (rI C fun i j => .int (g i j)) := by
  intro pins s σ H x y v u Q I rx ry h
  obtain ⟨i, j, rfl, rfl, hc, q⟩ := h
  obtain ⟨t, rfl⟩ := rx
  obtain ⟨t', rfl⟩ := ry
  exact rule i j t t' s _ _ hc ⟨.int (g i j), H, I.tok _, ⟨_, rfl⟩, q⟩
theorem opI0 {f : Value → Value → Sem Value} {g : Int → Int → Int}
    (rule : ∀ (i j : Int) (t u : Tok) (s : Shared) (Q : Value → Shared → Prop) (E : Value → Shared → Prop), Q (.int (g i j) s.toks) { s with toks := s.toks + 1 } → wpAny (model X.prog X.w) X.A (f (.int i t) (.int j u)) Q E s) :
    OpR X f (rI0 fun i j => .int (g i j)) := by
  intro pins s σ H x y v u Q I rx ry h
  obtain ⟨i, j, rfl, rfl, q⟩ := h
  obtain ⟨t, rfl⟩ := rx
  obtain ⟨t', rfl⟩ := ry
  exact rule i j t t' s _ _ ⟨.int (g i j), H, I.tok _, ⟨_, rfl⟩, q⟩
theorem opB0 {f : Value → Value → Sem Value} {g : Int → Int → Bool}
    (rule : ∀ (i j : Int) (t u : Tok) (s : Shared) (Q : Value → Shared → Prop) (E : Value → Shared → Prop), Q (.bool (g i j)) s → wpAny (model X.prog X.w) X.A (f (.int i t) (.int j u)) Q E s) :
    OpR X f (rI0 fun i j => .bl (g i j)) := by
  intro pins s σ H x y v u Q I rx ry h
  obtain ⟨i, j, rfl, rfl, q⟩ := h
  obtain ⟨t, rfl⟩ := rx
  obtain ⟨t', rfl⟩ := ry
  exact rule i j t t' s _ _ ⟨.bl (g i j), H, I, rfl, q⟩
def CDiv (i j : Int) : Prop := 0 < j ∧ j < 1073741824
def CPow (i j : Int) : Prop := 0 ≤ j ∧ j ≤ 1000000 ∧ i.natAbs < 2 ^ 64
def CMul (i j : Int) : Prop := (-(2 ^ 64) < i ∧ i < 2 ^ 64) ∨ (-(2 ^ 64) < j ∧ j < 2 ^ 64)
theorem CMul.ok {i j : Int} (h : CMul i j) : IntMulOk i j := by
  rcases h with ⟨h1, h2⟩ | ⟨h1, h2⟩
  · exact .of_left (intBits_le_64 h1 h2)
  · exact .of_right (intBits_le_64 h1 h2)
theorem op_add : OpR X (binaryOp .Add) (rI0 fun i j => .int (i + j)) := opI0 fun _ _ _ _ _ _ _ q => add_int q
theorem op_sub : OpR X (binaryOp .Sub) (rI0 fun i j => .int (i - j)) := opI0 fun _ _ _ _ _ _ _ q => sub_int q
theorem op_mul : OpR X (binaryOp .Mult) (rI CMul fun i j => .int (i * j)) := opI fun _ _ _ _ _ _ _ hc q => mul_int q hc.ok
theorem op_fdiv : OpR X (binaryOp .FloorDiv) (rI CDiv fun i j => .int (i / j)) := opI fun i j _ _ _ _ _ hc q => by
  have h1 : (0 : Int) < j := hc.1
  have h2 : j < 1073741824 := hc.2
  exact floordiv_int (by omega) (by rw [Int.fdiv_eq_ediv_of_nonneg i (by omega)]; exact q) (.inl (PyProof.noPylong_small (by omega)))
theorem op_mod : OpR X (binaryOp .Mod) (rI (fun _ j => 0 < j) fun i j => .int (i % j)) := opI fun i j _ _ _ _ _ hc q => by
  have h1 : (0 : Int) < j := hc
  exact mod_int' (by omega) (by rw [Int.fmod_eq_emod_of_nonneg i (by omega)]; exact q)
theorem op_pow : OpR X (binaryOp .Pow) (rI CPow fun i j => .int (i ^ j.toNat)) := opI fun _ _ _ _ _ _ _ hc q => pow_int_small hc.1 hc.2.1 hc.2.2 q
end
def scal : V → V → Bool
  | .non, .non => true | .non, .int _ => true | .int _, .non => true | .non, .bl _ => true | .bl _, .non => true | .non, .str _ => true | .str _, .non => true
  | .int _, .int _ => true | .bl _, .bl _ => true | .str _, .str _ => true | .byt _, .byt _ => true
  | .int _, .str _ => true | .str _, .int _ => true | .bl _, .str _ => true | .str _, .bl _ => true
  | _, _ => false
def rEq : R2 := fun x y H Q => scal x y = true ∧ Q (.bl (decide (x = y))) H
def rNe : R2 := fun x y H Q => scal x y = true ∧ Q (.bl (!decide (x = y))) H
theorem dec_int {i j : Int} : decide (V.int i = V.int j) = (i == j) := by
  rw [Bool.eq_iff_iff]
  simp
theorem dec_bl {i j : Bool} : decide (V.bl i = V.bl j) = (i == j) := by
  rw [Bool.eq_iff_iff]
  simp
theorem dec_str {i j : Str} : decide (V.str i = V.str j) = (i == j) := by
  rw [Bool.eq_iff_iff]
  simp
theorem dec_byt {i j : Array UInt8} : decide (V.byt i = V.byt j) = (i.toList == j.toList) := by
  rw [Bool.eq_iff_iff]
  cases i
  cases j
  simp
section
variable {X : Cx} {a b c : Expr} {ta tb tc : TE} {pos : Pos}
theorem fin_bl {pins : List (Addr × Obj)} {σ : St} {H : Hp} {s : Shared} {Q : VK} {k k' : Bool} (I : Inv X pins σ H s) (q : Q (.bl k) H) (e : k = k') : EP X pins σ Q (.bool k') s := by
  subst e
  exact ⟨.bl k, H, I, rfl, q⟩
theorem op_eq : OpR X (compareOp .Eq) rEq := by
  intro pins s σ H x y v u Q I rx ry h
  obtain ⟨hs, q⟩ := h
  cases x with
  | non =>
    cases rx
    cases y with
    | non => cases ry; exact PySem.EqNone.eq_none_none (fin_bl I q (by simp))
    | bl j => cases ry; exact PySem.EqNone.eq_none_bool (fin_bl I q (by simp))
    | int j => obtain ⟨t', rfl⟩ := ry; exact PySem.EqNone.eq_none_int (fin_bl I q (by simp))
    | str j => obtain ⟨t', rfl⟩ := ry; exact PySem.EqNone.eq_none_str (fin_bl I q (by simp))
    | _ => exact absurd (show false = true from hs) Bool.false_ne_true
  | bl i =>
    cases rx
    cases y with
    | non => cases ry; exact PySem.EqNone.eq_bool_none (fin_bl I q (by simp))
    | bl j => cases ry; exact eq_bool (fin_bl I q dec_bl)
    | str j => obtain ⟨t', rfl⟩ := ry; exact PySem.EqMixed.eq_bool_str (fin_bl I q (by simp))
    | _ => exact absurd (show false = true from hs) Bool.false_ne_true
  | int i =>
    obtain ⟨t, rfl⟩ := rx
    cases y with
    | non => cases ry; exact PySem.EqNone.eq_int_none (fin_bl I q (by simp))
    | int j => obtain ⟨t', rfl⟩ := ry; exact eq_int (fin_bl I q dec_int)
    | str j => obtain ⟨t', rfl⟩ := ry; exact PySem.EqMixed.eq_int_str (fin_bl I q (by simp))
    | _ => exact absurd (show false = true from hs) Bool.false_ne_true
  | str i =>
    obtain ⟨t, rfl⟩ := rx
    cases y with
    | non => cases ry; exact PySem.EqNone.eq_str_none (fin_bl I q (by simp))
    | bl j => cases ry; exact PySem.EqMixed.eq_str_bool (fin_bl I q (by simp))
    | int j => obtain ⟨t', rfl⟩ := ry; exact PySem.EqMixed.eq_str_int (fin_bl I q (by simp))
    | str j => obtain ⟨t', rfl⟩ := ry; exact eq_str (fin_bl I q dec_str)
    | _ => exact absurd (show false = true from hs) Bool.false_ne_true
  | byt i =>
    obtain ⟨t, rfl⟩ := rx
    cases y with
    | byt j => obtain ⟨t', rfl⟩ := ry; exact W.eq_bytes (fin_bl I q dec_byt)
    | _ => exact absurd (show false = true from hs) Bool.false_ne_true
  | _ => cases y <;> exact absurd (show false = true from hs) Bool.false_ne_true
theorem op_ne : OpR X (compareOp .NotEq) rNe := by
  intro pins s σ H x y v u Q I rx ry h
  obtain ⟨hs, q⟩ := h
  cases x with
  | non =>
    cases rx
    cases y with
    | non => cases ry; exact PySem.EqNone.ne_none_none (fin_bl I q (by simp))
    | bl j => cases ry; exact PySem.EqNone.ne_none_bool (fin_bl I q (by simp))
    | int j => obtain ⟨t', rfl⟩ := ry; exact PySem.EqNone.ne_none_int (fin_bl I q (by simp))
    | str j => obtain ⟨t', rfl⟩ := ry; exact PySem.EqNone.ne_none_str (fin_bl I q (by simp))
    | _ => exact absurd (show false = true from hs) Bool.false_ne_true
  | bl i =>
    cases rx
    cases y with
    | non => cases ry; exact PySem.EqNone.ne_bool_none (fin_bl I q (by simp))
    | bl j => cases ry; exact ne_bool (fin_bl I q (congrArg not dec_bl))
    | str j => obtain ⟨t', rfl⟩ := ry; exact PySem.EqMixed.ne_bool_str (fin_bl I q (by simp))
    | _ => exact absurd (show false = true from hs) Bool.false_ne_true
  | int i =>
    obtain ⟨t, rfl⟩ := rx
    cases y with
    | non => cases ry; exact PySem.EqNone.ne_int_none (fin_bl I q (by simp))
    | int j => obtain ⟨t', rfl⟩ := ry; exact ne_int (fin_bl I q (congrArg not dec_int))
    | str j => obtain ⟨t', rfl⟩ := ry; exact PySem.EqMixed.ne_int_str (fin_bl I q (by simp))
    | _ => exact absurd (show false = true from hs) Bool.false_ne_true
  | str i =>
    obtain ⟨t, rfl⟩ := rx
    cases y with
    | non => cases ry; exact PySem.EqNone.ne_str_none (fin_bl I q (by simp))
    | bl j => cases ry; exact PySem.EqMixed.ne_str_bool (fin_bl I q (by simp))
    | int j => obtain ⟨t', rfl⟩ := ry; exact PySem.EqMixed.ne_str_int (fin_bl I q (by simp))
    | str j => obtain ⟨t', rfl⟩ := ry; exact ne_str (fin_bl I q (congrArg not dec_str))
    | _ => exact absurd (show false = true from hs) Bool.false_ne_true
  | byt i =>
    obtain ⟨t, rfl⟩ := rx
    cases y with
    | byt j => obtain ⟨t', rfl⟩ := ry; exact W.ne_bytes (fin_bl I q (congrArg not dec_byt))
    | _ => exact absurd (show false = true from hs) Bool.false_ne_true
  | _ => cases y <;> exact absurd (show false = true from hs) Bool.false_ne_true
theorem op_lt : OpR X (compareOp .Lt) (rI0 fun i j => .bl (decide (i < j))) := opB0 fun _ _ _ _ _ _ _ q => lt_int q
theorem op_le : OpR X (compareOp .LtE) (rI0 fun i j => .bl (decide (i ≤ j))) := opB0 fun _ _ _ _ _ _ _ q => le_int q
theorem op_gt : OpR X (compareOp .Gt) (rI0 fun i j => .bl (decide (j < i))) := opB0 fun _ _ _ _ _ _ _ q => gt_int q
theorem op_isN : OpR X (compareOp .Is) (fun x y H Q => y = .non ∧ Q (.bl (decide (x = .non))) H) := by
  intro pins s σ H x y v u Q I rx ry h
  obtain ⟨rfl, q⟩ := h
  cases ry
  refine is_none_gen (fin_bl I q ?_)
  cases x <;> first
    | (cases rx; rfl)
    | (obtain ⟨t, rfl⟩ := rx; rfl)
theorem op_notN : OpR X (compareOp .IsNot) (fun x y H Q => y = .non ∧ Q (.bl (!decide (x = .non))) H) := by
  intro pins s σ H x y v u Q I rx ry h
  obtain ⟨rfl, q⟩ := h
  cases ry
  refine isnot_none_gen (fin_bl I q ?_)
  cases x <;> first
    | (cases rx; rfl)
    | (obtain ⟨t, rfl⟩ := rx; rfl)
theorem nomark (b : Expr) {op : CmpOp} (h : op ≠ .In := by decide) (h2 : op ≠ .NotIn := by decide) : behindInMarks op b = false := by
  have e1 : (op == CmpOp.In) = false := by cases op <;> first | rfl | exact absurd rfl h
  have e2 : (op == CmpOp.NotIn) = false := by cases op <;> first | rfl | exact absurd rfl h2
  cases b <;> simp [behindInMarks, e1, e2]
theorem pe_cmpR {op : CmpOp} {r : R2} (ho : OpR X (compareOp op) r) (ha : PE X a ta) (hb : PE X b tb) (hm : behindInMarks op b = false) : PE X (.Compare a [op] [b] pos) (tOp r ta tb) := by
  intro pins s σ H Q I h
  exact wpAny_Compare1 (binT ha hb I h fun v u s2 x y H2 I2 rx ry q => ho pins s2 σ H2 x y v u Q I2 rx ry q) hm
def tTest (t : TE) : TT := fun σ H Q => t σ H fun x H' => ∃ k, x = .bl k ∧ Q k H'
theorem pt_cmpR {op : CmpOp} {r : R2} (ho : OpR X (compareOp op) r) (ha : PE X a ta) (hb : PE X b tb) (hm : behindInMarks op b = false) : PT X (.Compare a [op] [b] pos) (tTest (tOp r ta tb)) := by
  intro pins s σ H Q I h
  refine wpAny_isTrue_Compare1 (thn (ha pins s σ H _ I h) fun v s1 ⟨x, H1, I1, r1, q1⟩ => thn (hb pins s1 σ H1 _ I1 q1) fun u s2 ⟨y, H2, I2, r2, q2⟩ =>
    thn (ho pins s2 σ H2 x y v u _ I2 r1 r2 q2) fun c s3 ⟨z, H3, I3, r3, k, e, q3⟩ => ?_) hm
  subst e
  cases r3
  exact wpAny_truthy_bool ⟨H3, I3, q3⟩
def tChain (r r' : R2) (ta tb tc : TE) : TE := fun σ H Q => ta σ H fun x H1 => tb σ H1 fun y H2 => r x y H2 fun z H3 => ∃ k, z = .bl k ∧
  (if k = true then tc σ H3 fun w' H4 => r' y w' H4 Q else Q (.bl false) H3)
theorem pt_chain {op op' : CmpOp} {r r' : R2} (ho : OpR X (compareOp op) r) (ho' : OpR X (compareOp op') r') (ha : PE X a ta) (hb : PE X b tb) (hc : PE X c tc)
    (hm : lastMarks [op, op'] [b, c] = false := by with_unfolding_all rfl) : PT X (.Compare a [op, op'] [b, c] pos) (tTest (tChain r r' ta tb tc)) := by
  intro pins s σ H Q I h
  refine isTrue_chain (thn (ha pins s σ H _ I h) fun v s1 ⟨x, H1, I1, r1, q1⟩ => test_link (thn (hb pins s1 σ H1 _ I1 q1) fun u s2 ⟨y, H2, I2, r2, q2⟩ =>
    thn (ho pins s2 σ H2 x y v u _ I2 r1 r2 q2) fun d s3 ⟨z, H3, I3, r3, k, e, q3⟩ => ?_)) hm
  subst e
  cases r3
  refine wpAny_truthy_bool ?_
  cases k with
  | false =>
    obtain ⟨k', e', q'⟩ := q3
    cases e'
    exact ite_ff ⟨H3, I3, q'⟩
  | true =>
    refine ite_tt (test_last (thn (hc pins s3 σ H3 _ I3 q3) fun w' s4 ⟨z', H4, I4, r4, q4⟩ => thn (ho' pins s4 σ H4 y z' u w' _ I4 r2 r4 q4) fun d' s5 ⟨z2, H5, I5, r5, k2, e2, q5⟩ => ?_))
    subst e2
    cases r5
    exact wpAny_truthy_bool ⟨H5, I5, q5⟩
theorem line63 : (sizeLine : Nat) < 2 ^ 63 := by rw [sizeLine_eq]; decide
theorem op_add_str : OpR X (binaryOp .Add) (fun x y H Q => ∃ i j, x = .str i ∧ y = .str j ∧ i.length + j.length ≤ sizeLine ∧ Q (.str (i ++ j)) H) := by
  intro pins s σ H x y v u Q I rx ry h
  obtain ⟨i, j, rfl, rfl, hz, q⟩ := h
  obtain ⟨t, rfl⟩ := rx
  obtain ⟨t', rfl⟩ := ry
  exact add_str (fun t' tk => ⟨.str (i ++ j), H, I.tok _, ⟨_, rfl⟩, q⟩) hz
theorem vals1 {x : V} {us : List Value} (r : Vals [x] us) : ∃ u, us = [u] ∧ RelV x u := by
  cases r with
  | cons r1 r2 => cases r2; exact ⟨_, rfl, r1⟩
theorem vals2 {x y : V} {us : List Value} (r : Vals [x, y] us) : ∃ u w', us = [u, w'] ∧ RelV x u ∧ RelV y w' := by
  cases r with
  | cons r1 r2 =>
    cases r2 with
    | cons r3 r4 => cases r4; exact ⟨_, _, rfl, r1, r3⟩
theorem call_max2 (hc : X.calm = true) : CallR X (.builtin "max") (fun xs H Q => ∃ i j, xs = [.int i, .int j] ∧ Q (.int (if j > i then j else i)) H) := by
  intro pins s σ H xs us Q I r h
  obtain ⟨i, j, rfl, q⟩ := h
  obtain ⟨u, w', rfl, ⟨t, rfl⟩, ⟨t', rfl⟩⟩ := vals2 r
  refine max_two_ints (I.ok.hd hc) fun h' tk k => ⟨_, H, I.kept k, ?_, q⟩
  by_cases hj : j > i
  · rw [if_pos hj, if_pos hj]; exact ⟨_, rfl⟩
  · rw [if_neg hj, if_neg hj]; exact ⟨_, rfl⟩
theorem call_int1 : CallR X (.type "int") (fun xs H Q => (∃ i, xs = [.int i] ∧ Q (.int i) H) ∨ ∃ k, xs = [.bl k] ∧ Q (.int (if k then 1 else 0)) H) := by
  intro pins s σ H xs us Q I r h
  rcases h with ⟨i, rfl, q⟩ | ⟨k, rfl, q⟩
  · obtain ⟨u, rfl, t, rfl⟩ := vals1 r
    exact call_int_int ⟨.int i, H, I, ⟨_, rfl⟩, q⟩
  · obtain ⟨u, rfl, r1⟩ := vals1 r
    cases r1
    exact call_int_bool ⟨.int (if k then 1 else 0), H, I.tok _, ⟨_, rfl⟩, q⟩
end
end L2
namespace L2
open PySem PySem.Spec PyProof.Rows
structure ObjM (h : Heap) (x dx C : Addr) (mA : Str → Option Value) : Prop where
  obj : h.get? x = some (W.instObj C dx)
  ns : h.Ns1 dx mA
  ne : dx ≠ x
theorem lookIn_ns {h : Heap} {dx : Addr} {mA : Str → Option Value} (n : h.Ns1 dx mA) : ∃ od, h.get? dx = some od ∧ ∀ name, W.lookIn name od = some (mA name) := by
  obtain ⟨o, es, ep, ho, hd, hk, _, hm⟩ := n
  refine ⟨o, ho, fun name => ?_⟩
  have e := hm name
  unfold nsFind findBy at e
  rw [← Array.find?_toList] at e
  unfold W.lookIn
  rw [hd]
  dsimp only
  split
  · rename_i y q
    rw [q] at e
    exact congrArg some e
  · rename_i q
    rw [q] at e
    have a : es.toList.any (·.refKey) = false := by
      rw [List.any_eq_false]
      intro y hy
      obtain ⟨z, t, hkey⟩ := hk y (Array.mem_toList_iff.mp hy)
      simp [DictEntry.refKey, hkey]
    have a' : ¬ es.toList.any (·.refKey) = true := by rw [a]; exact Bool.false_ne_true
    rw [if_neg a']
    exact congrArg some e
theorem ObjM.look {h : Heap} {x dx C : Addr} {mA : Str → Option Value} (I : ObjM h x dx C mA) : ∃ od, W.InstAt h x (W.instObj C dx) C (some od) ∧ ∀ name, W.lookIn name od = some (mA name) :=
  let ⟨od, ho, hl⟩ := lookIn_ns I.ns
  ⟨od, ⟨I.obj, rfl, rfl, ho⟩, hl⟩
section
variable {prog : Program} {w : World} {A : Around} {E : Value → Shared → Prop} {s : Shared} {K : W.Frag} {x dx C f : Addr} {mA : Str → Option Value} {name : Str} {v : Value}
theorem get_map {expr : Bool} {Q : Value → Shared → Prop} (X : K.In s.heap) (I : ObjM s.heap x dx C mA) (hg : W.plainGet K C name = true) (hh : W.hasDictIn K C = true)
    (ha : W.findIn K (.ref C) name = some none) (hv : mA name = some v) (hv' : W.handedIn v = true) (h : Q v { s with toks := s.toks + 1 }) :
    wpAny (model prog w) A (getAttr (.ref x) name expr) Q E s := by
  obtain ⟨od, J, hl⟩ := I.look
  exact W.get_value X J (W.plainGet_of hg).1 (W.findObj_own hh ha rfl (by rw [hl, hv])) hv' h
theorem get_meth {pl : Sem Bool} {Q : Value × List Value → Shared → Prop} (X : K.In s.heap) (I : ObjM s.heap x dx C mA) (hg : W.plainGet K C name = true)
    (hf : W.findIn K (.ref C) name = some (some (.ref f))) (ht : W.isFn K (.ref f) = true) (hv : mA name = none) (h : Q (.ref f, [.ref x]) s) :
    wpAny (model prog w) A (getMethod (.ref x) name pl) Q E s := by
  obtain ⟨od, J, hl⟩ := I.look
  exact W.method_fn X J (W.plainGet_of hg).1 (W.plainGet_of hg).2 hf (beq_iff_eq.mp ht) (by show (W.lookIn name od).map (·.isSome) = some false; rw [hl, hv]; rfl) h
theorem set_map {ns : List Str} {Q : Unit → Shared → Prop} (X : K.In s.heap) (I : ObjM s.heap x dx C mA)
    (hs : W.findIn K (.ref C) "__setattr__" = some (some (.builtin "object.__setattr__"))) (hp : W.plainOver K C = true) (ht : W.takerIn K C name = some none) (hh : W.hasDictIn K C = true)
    (hw : PySem.Within mA ns) (hsz : ns.length ≤ sizeLine)
    (h : ∀ h', ObjM h' x dx C (fun y => if y = name then some v else mA y) → Heap.SameBut dx s.heap h' → Q () { s with heap := h', toks := s.toks + 2 }) :
    wpAny (model prog w) A (setAttr (.ref x) name v) Q E s := by
  obtain ⟨od, J, hl⟩ := I.look
  refine W.set_plain X J hs (W.osa_open (s := { s with toks := s.toks + 1 }) (r := none) X J hp ht fun b => ?_)
  obtain ⟨cd, hc, hd'⟩ := W.any_some hh
  have hx : s.heap.get? x = some ⟨.ref C, some dx, .plain, #[]⟩ := I.obj
  refine wpAny_bind (wpAny_pure (wpAny_bind (wpAny_bind (wpAny_loadPart hx (wpAny_bind (W.Looks.here (s := { s with toks := s.toks + 1 }) (W.looks_clsIn X hc) ?_))))))
  rw [hd']
  refine wpAny_pure (a := some dx) (wpAny_bind (wpAny_pure (wpAny_bind ?_)))
  refine wpAny_nsSet1 (s := { s with toks := s.toks + 1 }) I.ns fun h' hn2 hs2 => ?_
  obtain ⟨oD, esD, epD, hoD, hdD, hcD⟩ := hn2.count (PySem.Within.cons name v hw)
  refine wpAny_bind (wpAny_lookBehind hoD (by rw [hdD]; exact pastItsLine_dict (Nat.le_trans hcD (by rw [List.length_cons]; omega))) ?_)
  exact wpAny_pure (h _ ⟨(hs2.2 _ (Ne.symm I.ne)).trans I.obj, hn2, I.ne⟩ hs2)
theorem make_map {R : Result → Shared → Prop} {vs : List Value} {kw : List (Str × Value)} (X : K.In s.heap) (hm : W.makesIn K C = true)
    (hi : W.findIn K (.ref C) "__init__" = some (some (.ref f))) (hf : W.typeIn K (.ref f) = some (.type "function"))
    (h : codeAny (model prog w) (A.under (.builtin "type.__call__" ⟨.ref C :: vs, kw⟩)) (.call (.ref f) ⟨.ref (s.heap.objs.size + 1) :: vs, kw⟩) (W.InitBack (s.heap.objs.size + 1) R)
      { s with heap := (s.heap.push W.emptyDict).push (W.instObj C s.heap.objs.size) }) :
    codeAny (model prog w) A (.call (.ref C) ⟨vs, kw⟩) R s := by
  obtain ⟨hh, g, d, t, os⟩ := s
  exact W.make_core (W.makes_of X hm) (W.looks_findIn X hi) (fun self => W.bind_fn X self hf) (.inl rfl) h
end
def putF (f : Str) (v : V) : List (Str × V) → List (Str × V)
  | [] => [(f, v)]
  | (g, x) :: r => if g = f then (g, v) :: r else (g, x) :: putF f v r
theorem lookup_putF (f g : Str) (v : V) : ∀ fs : List (Str × V), (putF f v fs).lookup g = if g = f then some v else fs.lookup g
  | [] => by
    show List.lookup g [(f, v)] = _
    by_cases h : g = f
    · have hb : (g == f) = true := beq_iff_eq.mpr h
      simp only [List.lookup, hb, if_pos h]
    · have hb : (g == f) = false := beq_eq_false_iff_ne.mpr h
      simp only [List.lookup, hb, if_neg h]
  | (k, x) :: r => by
    have ih := lookup_putF f g v r
    rw [show putF f v ((k, x) :: r) = (if k = f then (k, v) :: r else (k, x) :: putF f v r) from rfl]
    by_cases hk : k = f
    · rw [if_pos hk]
      by_cases h : g = k
      · have hb : (g == k) = true := beq_iff_eq.mpr h
        simp only [List.lookup, hb, if_pos (h.trans hk)]
      · have hb : (g == k) = false := beq_eq_false_iff_ne.mpr h
        simp only [List.lookup, hb, if_neg (fun e : g = f => h (e.trans hk.symm))]
    · rw [if_neg hk]
      by_cases h : g = k
      · have hb : (g == k) = true := beq_iff_eq.mpr h
        simp only [List.lookup, hb, if_neg (fun e : g = f => hk (h.symm.trans e))]
      · have hb : (g == k) = false := beq_eq_false_iff_ne.mpr h
        simp only [List.lookup, hb]
        exact ih
theorem keys_putF (f : Str) (v : V) : ∀ fs : List (Str × V), f ∈ (putF f v fs).map (·.1) ∧ ∀ g, g ∈ fs.map (·.1) → g ∈ (putF f v fs).map (·.1)
  | [] => ⟨by simp [putF], fun g h => by simp at h⟩
  | (k, x) :: r => by
    obtain ⟨i1, i2⟩ := keys_putF f v r
    rw [show putF f v ((k, x) :: r) = (if k = f then (k, v) :: r else (k, x) :: putF f v r) from rfl]
    by_cases hk : k = f
    · rw [if_pos hk]
      subst hk
      exact ⟨by simp, fun g h => by simpa using h⟩
    · rw [if_neg hk]
      refine ⟨?_, fun g h => ?_⟩
      · rw [List.map_cons]
        exact List.mem_cons_of_mem _ i1
      · rw [List.map_cons] at h ⊢
        rcases List.mem_cons.mp h with e | e
        · exact List.mem_cons.mpr (.inl e)
        · exact List.mem_cons_of_mem _ (i2 g e)
theorem length_putF (f : Str) (v : V) : ∀ fs : List (Str × V), (putF f v fs).length ≤ fs.length + 1
  | [] => by simp [putF]
  | (k, x) :: r => by
    have ih := length_putF f v r
    rw [show putF f v ((k, x) :: r) = (if k = f then (k, v) :: r else (k, x) :: putF f v r) from rfl]
    by_cases hk : k = f
    · rw [if_pos hk, List.length_cons, List.length_cons]; omega
    · rw [if_neg hk, List.length_cons, List.length_cons]; omega
theorem RelO.some_of {v : V} {o : Option Value} (r : RelO (some v) o) : ∃ u, o = some u ∧ RelV v u := by
  cases o with
  | none => exact (show False from r).elim
  | some u => exact ⟨u, rfl, r⟩
theorem RelO.none_of {o : Option Value} (r : RelO none o) : o = none := by
  cases o with
  | none => rfl
  | some u => exact (show False from r).elim
theorem handed_of {v : V} {u : Value} (r : RelV v u) : W.handedIn u = true := by
  cases v with
  | non => cases (show u = Value.none from r); rfl
  | bl b => cases (show u = Value.bool b from r); rfl
  | int i => obtain ⟨t, e⟩ := (show ∃ t, u = Value.int i t from r); cases e; rfl
  | str x => obtain ⟨t, e⟩ := (show ∃ t, u = Value.str x t from r); cases e; rfl
  | byt b => obtain ⟨t, e⟩ := (show ∃ t, u = Value.bytes b t from r); cases e; rfl
  | flt b => obtain ⟨t, e⟩ := (show ∃ t, u = Value.float b t from r); cases e; rfl
  | ref a => cases (show u = Value.ref a from r); rfl
  | ty n => cases (show u = Value.type n from r); rfl
section
variable {P : Program} {w : World} {H H' : Hp} {h h' : Heap} {a C dx : Addr} {fs fs' : List (Str × V)}
theorem ins_get (hok : HOk P w H h) (e : H a = some (.ins C dx fs)) : ∃ mA, ObjM h a dx C mA ∧ (∀ f, RelO (fs.lookup f) (mA f)) ∧ PySem.Within mA (fs.map (·.1)) ∧ fs.length ≤ 1000 ∧ H dx = some (.own a) := by
  obtain ⟨d, z, ne, ob, mA, n, r, q⟩ := (show ObjOk P w H h a (.ins C dx fs) from hok a _ e)
  exact ⟨mA, ⟨ob, n, ne⟩, r, q, z, d⟩
end
structure Cls (K : W.Frag) (C : Addr) : Prop where
  pg : W.plainGet K C Str.empty = true
  hd : W.hasDictIn K C = true
  po : W.plainOver K C = true
  sa : W.findIn K (.ref C) "__setattr__" = some (some (.builtin "object.__setattr__"))
theorem Cls.get {K : W.Frag} {C : Addr} (c : Cls K C) (f : Str) : W.plainGet K C f = true := c.pg
def NoAttr (K : W.Frag) (C : Addr) (f : Str) : Prop := W.findIn K (.ref C) f = some none
theorem NoAttr.taker {K : W.Frag} {C : Addr} {f : Str} (n : NoAttr K C f) : W.takerIn K C f = some none := by
  unfold W.takerIn
  rw [show W.findIn K (.ref C) f = some none from n]
  rfl
structure Meth (K : W.Frag) (C : Addr) (m : Str) (f : Addr) : Prop where
  at_ : W.findIn K (.ref C) m = some (some (.ref f))
  fn : W.isFn K (.ref f) = true
  kp : W.keepIn K (.ref f) = true
section
variable {X : Cx} {pins : List (Addr × Obj)} {σ : St} {H : Hp} {s : Shared} {a C dx : Addr} {fs : List (Str × V)} {f : Str} {v : V} {A : Around} {E : Value → Shared → Prop}
theorem getattr_ok {b : Bool} {Q : Value → Shared → Prop} (I : Inv X pins σ H s) (e : H a = some (.ins C dx fs)) (c : Cls X.K C) (n : NoAttr X.K C f) (l : fs.lookup f = some v)
    (h : ∀ u s', Inv X pins σ H s' → RelV v u → Q u s') : wpAny (model X.prog X.w) A (getAttr (.ref a) f b) Q E s := by
  obtain ⟨mA, O, r, _, _, _⟩ := ins_get I.hok e
  obtain ⟨u, hu, ru⟩ := RelO.some_of (v := v) (o := mA f) (by rw [← l]; exact r f)
  exact get_map I.kIn O (c.get f) c.hd n hu (handed_of ru) (h u _ (I.tok _) ru)
theorem getmeth_ok {m : Str} {g : Addr} {pl : Sem Bool} {Q : Value × List Value → Shared → Prop} (I : Inv X pins σ H s) (e : H a = some (.ins C dx fs)) (c : Cls X.K C) (k : Meth X.K C m g) (l : fs.lookup m = none)
    (h : Q (.ref g, [.ref a]) s) : wpAny (model X.prog X.w) A (getMethod (.ref a) m pl) Q E s := by
  obtain ⟨mA, O, r, _, _, _⟩ := ins_get I.hok e
  have hn : mA m = none := RelO.none_of (by rw [← l]; exact r m)
  exact get_meth I.kIn O (c.get m) k.at_ k.fn hn h
theorem setattr_ok {y : V} {u : Value} {Q : Unit → Shared → Prop} (I : Inv X pins σ H s) (e : H a = some (.ins C dx fs)) (c : Cls X.K C) (n : NoAttr X.K C f) (hl : fs.length < 1000) (ry : RelV y u)
    (h : ∀ s', Inv X pins σ (upd H a (.ins C dx (putF f y fs))) s' → Q () s') : wpAny (model X.prog X.w) A (setAttr (.ref a) f u) Q E s := by
  obtain ⟨mA, O, r, wi, _, ho⟩ := ins_get I.hok e
  have hz : (fs.map (·.1)).length ≤ sizeLine := by rw [List.length_map, sizeLine_eq]; omega
  refine set_map I.kIn O c.sa c.po n.taker c.hd wi hz fun h' O' sb => h _ ?_
  have hd : ∃ o, h'.get? dx = some o := let ⟨o, _, _, e', _⟩ := O'.ns; ⟨o, e'⟩
  refine I.write (x := a) (e := dx) (by rw [e]; exact True.intro) (.inr ho) (fun b q hb z => (sb.2 b hb).trans z) hd ?_
  refine ⟨by rw [upd_ne O.ne]; exact ho, ?_, O.ne, O'.obj, _, O'.ns, fun g => ?_, fun g hg => ?_⟩
  · have := length_putF f y fs; omega
  · show RelO ((putF f y fs).lookup g) (if g = f then some u else mA g)
    rw [lookup_putF]
    by_cases q : g = f
    · rw [if_pos q, if_pos q]; exact ry
    · rw [if_neg q, if_neg q]; exact r g
  · by_cases q : g = f
    · rw [q]; exact (keys_putF f y fs).1
    · refine (keys_putF f y fs).2 g (wi g fun z => hg ?_)
      show (if g = f then some u else mA g) = none
      rw [if_neg q]; exact z
theorem Inv.made (I : Inv X pins σ H s) : Inv X pins σ (upd (upd H s.heap.objs.size (.own (s.heap.objs.size + 1))) (s.heap.objs.size + 1) (.ins C s.heap.objs.size []))
    { s with heap := (s.heap.push W.emptyDict).push (W.instObj C s.heap.objs.size) } := by
  have e1 : (s.heap.push W.emptyDict).get? s.heap.objs.size = some W.emptyDict := Heap.get?_push_size s.heap rfl
  have e2 : ((s.heap.push W.emptyDict).push (W.instObj C s.heap.objs.size)).get? (s.heap.objs.size + 1) = some (W.instObj C s.heap.objs.size) := by
    have := Heap.get?_push_size (s.heap.push W.emptyDict) (o := W.instObj C s.heap.objs.size) rfl
    rwa [Heap.size_push] at this
  have e3 : (s.heap.push W.emptyDict).Ns s.heap.objs.size (fun _ => none) := ⟨W.emptyDict, #[], _, e1, rfl, (fun e he => absurd he (by simp)), fun _ => rfl⟩
  have I1 := I.laid (a := s.heap.objs.size) (o := .own (s.heap.objs.size + 1)) (h' := s.heap.push W.emptyDict) (t' := s.toks) (fun b u q => Heap.get?_push_of_some _ q) (Nat.le_refl _) ⟨_, e1⟩
  refine I1.laid (a := s.heap.objs.size + 1) (o := .ins C s.heap.objs.size []) (t' := s.toks) (fun b u q => Heap.get?_push_of_some _ q) (Nat.le_of_eq (Heap.size_push _ _)) ?_
  have ne : s.heap.objs.size ≠ s.heap.objs.size + 1 := Nat.ne_of_lt (Nat.lt_succ_self _)
  refine ⟨by rw [upd_ne ne, upd_same], Nat.zero_le _, ne, e2, fun _ => none, (Heap.Ns1.of_empty e3).at fun o q => Heap.get?_push_of_some _ q, fun _ => True.intro, fun y hy => absurd rfl hy⟩
theorem attr_of {prog : Program} {w : World} {env : Env} {e : Expr} {f : Str} {pos : Pos} {s : Shared} {Q : Value → Shared → Prop} (hb : attributeBase e f env (eval e env) = eval e env)
    (h : wpAny (model prog w) A (eval e env) (fun o s₁ => wpAny (model prog w) A (getAttr o f true) Q E s₁) E s) : wpAny (model prog w) A (eval (.Attribute e f pos) env) Q E s :=
  Attribute_any_ h (by rw [arm_eval_Attribute, hb])
end
section
variable {X : Cx} {o e value : Expr} {f : Str} {pos pos' tpos : Pos} {ta tv : TE}
end
section
variable {X : Cx} {pins : List (Addr × Obj)} {σ : St} {H : Hp} {s : Shared} {A : Around} {E : Value → Shared → Prop} {Q : Value → Shared → Prop} {c : Value} {b : Bool}
inductive TyOf (K : W.Frag) (H : Hp) : V → Value → Prop where
  | non : TyOf K H .non (.type "NoneType")
  | bl (x : Bool) : TyOf K H (.bl x) (.type "bool")
  | int (i : Int) : TyOf K H (.int i) (.type "int")
  | str (x : Str) : TyOf K H (.str x) (.type "str")
  | flt (x : UInt64) : TyOf K H (.flt x) (.type "float")
  | lst {a : Addr} {xs : List V} (e : H a = some (.lst xs)) : TyOf K H (.ref a) (.type "list")
  | frz {a : Addr} {o : Obj} {xs : List V} (e : H a = some (.frz o (.lst xs))) : TyOf K H (.ref a) (.type "list")
  | tup {a : Addr} {xs : List V} (e : H a = some (.tup xs)) : TyOf K H (.ref a) (.type "tuple")
  | dK {a : Addr} {kvs : List (Key × V)} (e : H a = some (.dK kvs)) : TyOf K H (.ref a) (.type "dict")
  | dT {a : Addr} {kvs : List (List Key × V)} (e : H a = some (.dT kvs)) : TyOf K H (.ref a) (.type "dict")
  | ins {a C dx : Addr} {fs : List (Str × V)} (e : H a = some (.ins C dx fs)) (cl : Cls K C) (ha : W.findIn K (.ref C) "__class__" = some (some (.builtin "object.__class__")))
      (hn : W.specialIn K (.builtin "object.__class__") "__get__" = some (some (.builtin "getset_descriptor.__get__"))) (htk : W.takesIn K (.builtin "object.__class__") = some true)
      (hm : W.mroIn K C (.type "object") = some true) : TyOf K H (.ref a) (.ref C)
theorem isinst_ok {x : V} {u t : Value} (I : Inv X pins σ H s) (rx : RelV x u) (ty : TyOf X.K H x t) (e : W.kitOne X.K t c = some b) (h : ∀ tk, Q (.bool b) { s with toks := tk }) :
    wpAny (model X.prog X.w) A (call (.builtin "isinstance") [u, c]) Q E s := by
  cases ty with
  | non => cases (show u = Value.none from rx); exact W.kia_one W.kitx_none I.kIn True.intro e (fun z => nomatch z) h
  | bl y => cases (show u = Value.bool y from rx); exact W.kia_one W.kitx_bool I.kIn True.intro e (fun z => nomatch z) h
  | int i => obtain ⟨t, q⟩ := (show ∃ t, u = Value.int i t from rx); cases q; exact W.kia_one W.kitx_int I.kIn True.intro e (fun z => nomatch z) h
  | str y => obtain ⟨t, q⟩ := (show ∃ t, u = Value.str y t from rx); cases q; exact W.kia_one W.kitx_str I.kIn True.intro e (fun z => nomatch z) h
  | flt y => obtain ⟨t, q⟩ := (show ∃ t, u = Value.float y t from rx); cases q; exact W.kia_one W.kitx_float I.kIn True.intro e (fun z => nomatch z) h
  | @lst a xs ea =>
    cases (show u = Value.ref a from rx)
    obtain ⟨_, _, n, _, h1⟩ := (show ObjOk X.prog X.w H s.heap a (.lst xs) from I.hok a _ ea)
    exact W.kia_one W.kitx_list I.kIn ⟨_, h1, rfl⟩ e (fun z => nomatch z) h
  | @frz a ob xs ea =>
    cases (show u = Value.ref a from rx)
    obtain ⟨_, _, _, n, _, h1⟩ := (show ObjOk X.prog X.w H s.heap a (.frz ob (.lst xs)) from I.hok a _ ea)
    exact W.kia_one W.kitx_list I.kIn ⟨_, h1, rfl⟩ e (fun z => nomatch z) h
  | @tup a xs ea =>
    cases (show u = Value.ref a from rx)
    obtain ⟨_, _, _, p⟩ := (show ObjOk X.prog X.w H s.heap a (.tup xs) from I.hok a _ ea)
    obtain ⟨o, h1, h2, _⟩ := p
    exact W.kia_one W.kitx_tuple I.kIn ⟨o, h1, h2⟩ e (fun z => nomatch z) h
  | @dK a kvs ea =>
    cases (show u = Value.ref a from rx)
    obtain ⟨_, _, vs, _, p⟩ := (show ObjOk X.prog X.w H s.heap a (.dK kvs) from I.hok a _ ea)
    obtain ⟨o, es, ep, h1, h2, _⟩ := p
    exact W.kia_one W.kitx_dict I.kIn ⟨o, h1, h2.1⟩ e (fun z => nomatch z) h
  | @dT a kvs ea =>
    cases (show u = Value.ref a from rx)
    obtain ⟨_, _, xs, _, o, es, ep, h1, h2, _⟩ := (show ObjOk X.prog X.w H s.heap a (.dT kvs) from I.hok a _ ea)
    exact W.kia_one W.kitx_dict I.kIn ⟨o, h1, h2.1⟩ e (fun z => nomatch z) h
  | @ins a C dx fs ea cl ha hn htk hm =>
    cases (show u = Value.ref a from rx)
    obtain ⟨mA, O, _⟩ := ins_get I.hok ea
    obtain ⟨od, J, _⟩ := O.look
    exact W.kia_one (W.kitx_own (cl.get _) cl.hd ha hn htk hm) I.kIn J e (fun z => nomatch z) h
end
end L2
namespace L2
open PySem PySem.Spec PyProof.Rows
structure Room (k : Nat) (A : Around) : Prop where
  hd : A.handled = none
  dp : A.depth + 3 * k + 5 < recursionLimit
  un : A.units + 16 * k + 200 < cLine
theorem Room.mono {j k : Nat} {A : Around} (r : Room k A) (h : j ≤ k) : Room j A := ⟨r.hd, by have := r.dp; omega, by have := r.un; omega⟩
theorem Room.deeper {k : Nat} {A : Around} (r : Room (k + 1) A) (env : Env) : Room k (A.deeper env) :=
  ⟨r.hd, by have := r.dp; show A.depth + 1 + 3 * k + 5 < _; omega, by have := r.un; show A.units + 3 + 16 * k + 200 < _; omega⟩
theorem make_depth {A : Around} {C : Addr} {us : List Value} {kw : List (Str × Value)} : (A.under (.builtin "type.__call__" ⟨.ref C :: us, kw⟩)).depth = A.depth + 1 := by
  first | rfl | simp [Around.under, Code.weight, Code.isCreation, Code.isGuard, Code.isCaller, Code.frames, Code.isFrame, guardIds]
theorem make_units {A : Around} {C : Addr} {us : List Value} {kw : List (Str × Value)} : (A.under (.builtin "type.__call__" ⟨.ref C :: us, kw⟩)).units = A.units + 1 := by
  first | rfl | simp [Around.under, Code.cUnits, Code.frames, Code.isFrame]
theorem Room.make {k : Nat} {A : Around} (r : Room (k + 1) A) (C : Addr) (us : List Value) (kw : List (Str × Value)) : Room k (A.under (.builtin "type.__call__" ⟨.ref C :: us, kw⟩)) :=
  ⟨r.hd, by have := r.dp; rw [make_depth]; omega, by have := r.un; rw [make_units]; omega⟩
theorem Room.depth {k : Nat} {A : Around} (r : Room k A) : A.depth < recursionLimit := by have := r.dp; omega
theorem Room.units {k : Nat} {A : Around} (r : Room k A) : A.units + 64 < cLine := by have := r.un; omega
theorem Room.units0 {k : Nat} {A : Around} (r : Room k A) : A.units < cLine := by have := r.un; omega
def tNil : TA := fun _ H Q => Q [] H
def tCons (ta : TE) (tr : TA) : TA := fun σ H Q => ta σ H fun x H1 => tr σ H1 fun xs H2 => Q (x :: xs) H2
section
variable {X : Cx} {e : Expr} {es : List Expr} {te : TE} {t : TA} {pos : Pos}
theorem pa_nil : PA X [] tNil := fun _ _ _ _ H Q I h => Calls.spliced_nil ⟨[], H, I, .nil, h⟩
theorem pa_cons (ha : PE X e te) (hr : PA X es t) (hs : starEach (e :: es) X.env = (false, eval e X.env) :: starEach es X.env := by rfl) : PA X (e :: es) (tCons te t) := by
  intro pos pins s σ H Q I h
  rw [hs]
  show wpAny _ _ (spliced ((false, eval e X.env) :: backTo pos (starEach es X.env))) _ _ s
  refine Calls.spliced_cons (thn (ha pins s σ H _ I h) fun u s1 ⟨x, H1, I1, r1, q1⟩ => ?_)
  exact thn (hr pos pins s1 σ H1 _ I1 q1) fun us s2 ⟨xs, H2, I2, r2, q2⟩ => ⟨x :: xs, H2, I2, .cons r1 r2, q2⟩
def tTup (t : TA) : TE := fun σ H Q => t σ H fun xs H1 => xs.length ≤ sizeLine ∧ ∀ p, H1 p = none → Q (.ref p) (upd H1 p (.tup xs))
def tLst (t : TA) : TE := fun σ H Q => t σ H fun xs H1 => xs.length ≤ sizeLine ∧ ∀ p, H1 p = none → Q (.ref p) (upd H1 p (.lst xs))
theorem pe_tup {x1} (h : PA X es t) : PE X (.Tuple es x1 pos) (tTup t) := by
  intro pins s σ H Q I hq
  refine wpAny_Tuple_spliced (thn (h pos pins s σ H _ I hq) fun us s1 ⟨xs, H1, I1, r, z, q⟩ => ⟨by rw [← r.length]; exact z, ?_⟩)
  have hf : H1 s1.heap.objs.size = none := I1.hok.fresh (Nat.le_refl _)
  refine ⟨.ref s1.heap.objs.size, upd H1 s1.heap.objs.size (.tup xs), I1.laid (t' := s1.toks) (fun b u e => Heap.get?_push_of_some _ e) (Nat.le_refl _) ?_, rfl, q _ hf⟩
  exact ⟨z, us, r, ⟨_, Heap.get?_push_size _ rfl, rfl, _, rfl⟩⟩
theorem pe_lst (h : PA X es t) : PE X (.List es pos) (tLst t) := by
  intro pins s σ H Q I hq
  refine wpAny_List_spliced (thn (h pos pins s σ H _ I hq) fun us s1 ⟨xs, H1, I1, r, z, q⟩ => ⟨by rw [← r.length]; exact z, ?_⟩)
  have hf : H1 s1.heap.objs.size = none := I1.hok.fresh (Nat.le_refl _)
  refine ⟨.ref s1.heap.objs.size, upd H1 s1.heap.objs.size (.lst xs), I1.laid (t' := s1.toks) (fun b u e => Heap.get?_push_of_some _ e) (Nat.le_refl _) ?_, rfl, q _ hf⟩
  exact ⟨z, us, 0, r, Heap.get?_push_size _ rfl⟩
end
abbrev Sp := List V → Hp → VK → XK → Prop
abbrev CXT := List Env → Hp → Shared → XK → Value → Shared → Prop
structure Env0 (P : Program) (w : World) (K : W.Frag) (mg : Str → Option Value) (base : Heap) (A : Around) (outer : List Env) (s : Shared) (H : Hp) : Prop where
  frames : A.frames = some outer
  mod : Mod K mg base
  bs : ∀ b o, base.get? b = some o → s.heap.get? b = some o ∧ H b = none
  bsz : base.objs.size ≤ s.heap.objs.size
  funs : s.heap.FunFrames base outer
  frf : ∀ b ∈ frs outer, H b = none
  hok : HOk P w H s.heap
  bare : AllBare s.gens
def CE (outer : List Env) (P : Program) (w : World) (H : Hp) (s : Shared) (Q : VK) (u : Value) (s' : Shared) : Prop :=
  ∃ v H', s'.os = s.os ∧ AllBare s'.gens ∧ Un (frs outer) [] H H' s.heap s'.heap ∧ HOk P w H' s'.heap ∧ RelV v u ∧ Q v H'
def CR (CX : CXT) (outer : List Env) (P : Program) (w : World) (H : Hp) (s : Shared) (Q : VK) (E : XK) (r : Result) (s' : Shared) : Prop :=
  match r with
  | .ok (.ret u) => CE outer P w H s Q u s'
  | .ok _ => False
  | .error e => CX outer H s E e s'
structure FnOk (P : Program) (w : World) (K : W.Frag) (mg : Str → Option Value) (base : Heap) (CX : CXT) (k : Nat) (f : Addr) (fd : FuncData) (ps : List Str) (sp : Sp) : Prop where
  len : ∀ vs H Q E, sp vs H Q E → vs.length = ps.length
  run : ∀ (A : Around) (outer : List Env) (s : Shared) (H : Hp) (args : Args) (us : List Value) (vs : List V) (Q : VK) (E : XK), Room k A → Env0 P w K mg base A outer s H → BindsTo s fd args (ps.zip us) → Vals vs us → sp vs H Q E →
    codeAny (model P w) A (.call (.ref f) args) (CR CX outer P w H s Q E) s
theorem Env0.make {P : Program} {w : World} {K : W.Frag} {mg : Str → Option Value} {base : Heap} {A : Around} {outer : List Env} {s : Shared} {H : Hp} (e : Env0 P w K mg base A outer s H) (C : Addr) (us : List Value) (kw : List (Str × Value)) :
    Env0 P w K mg base (A.under (.builtin "type.__call__" ⟨.ref C :: us, kw⟩)) outer s H := ⟨by first | exact e.frames | (simpa [Around.under, Code.envs, Code.isFrame, pushEnvs] using e.frames), e.mod, e.bs, e.bsz, e.funs, e.frf, e.hok, e.bare⟩
section
variable {X : Cx} {pins : List (Addr × Obj)} {σ : St} {H : Hp} {s s' : Shared}
theorem Inv.env0 (I : Inv X pins σ H s) : Env0 X.prog X.w X.K X.mg X.base X.A X.stack s H :=
  ⟨I.ok.frames, I.ok.mod, I.bs, Nat.le_trans I.ok.bsz I.sz, I.stack, I.stkFree, I.hok, I.bare⟩
theorem Inv.after {Q : VK} {u : Value} (I : Inv X pins σ H s) (h : CE X.stack X.prog X.w H s Q u s') : EP X pins σ Q u s' := by
  obtain ⟨v, H', os, bare, un, hok, r, q⟩ := h
  obtain ⟨hh, g, d, t, os'⟩ := s'
  obtain rfl : os' = s.os := os
  exact ⟨v, H', I.call (h' := hh) (g' := g) (d' := d) (t' := t) (ch := []) un hok bare (fun b z => absurd z (by simp)), r, q⟩
end
def tCall (sp : Sp) (dvs : List V) (E : XK) (t : TA) : TE := fun σ H Q => t σ H fun vs H1 => sp (vs ++ dvs) H1 Q E
def tMake (C : Addr) (sp : Sp) (dvs : List V) (E : XK) (t : TA) : TE := fun σ H Q => t σ H fun vs H1 => ∀ x dx, H1 x = none → H1 dx = none → dx ≠ x →
  sp (.ref x :: (vs ++ dvs)) (upd (upd H1 dx (.own x)) x (.ins C dx [])) (fun v H2 => v = .non ∧ Q (.ref x) H2) E
def Binds (K : W.Frag) (fd : FuncData) (ps : List Str) (ds : List Value) : Prop :=
  ∀ (s : Shared) (us : List Value), K.In s.heap → (us ++ ds).length = ps.length → BindsTo s fd ⟨us, []⟩ (ps.zip (us ++ ds))
theorem Binds.all {K : W.Frag} {fd : FuncData} {ps : List Str} (h : ∀ us : List Value, us.length = ps.length → bindArgs fd ⟨us, []⟩ = pure (ps.zip us)) : Binds K fd ps [] := fun s us _ hl => by
  rw [List.append_nil] at hl ⊢
  exact .of_eq (h us hl)
def Passes (CX : CXT) (X : Cx) (E : XK) : Prop := ∀ (pins : List (Addr × Obj)) (σ : St) (H : Hp) (s : Shared) (e : Value) (s' : Shared), Inv X pins σ H s → CX X.stack H s E e s' → X.xe e s'
section
variable {X : Cx} {CX : CXT} {k : Nat} {f C : Addr} {fd : FuncData} {ps : List Str} {sp : Sp} {dvs : List V} {ds : List Value} {E : XK} {x m : Str} {p pos apos : Pos} {e o : Expr} {es : List Expr} {ta : TE} {t : TA}
theorem run_fn {pins : List (Addr × Obj)} {σ : St} {H : Hp} {s : Shared} {Q : VK} {us : List Value} {vs : List V} (F : FnOk X.prog X.w X.K X.mg X.base CX k f fd ps sp) (hr : Room k X.A) (hb : Binds X.K fd ps ds) (hd : Vals dvs ds) (hx : Passes CX X E)
    (I : Inv X pins σ H s) (r : Vals vs us) (h : sp (vs ++ dvs) H Q E) : wpAny (model X.prog X.w) X.A (call (.ref f) us) (EP X pins σ Q) X.xe s := by
  have r2 : Vals (vs ++ dvs) (us ++ ds) := r.append hd
  have hl : (us ++ ds).length = ps.length := by rw [← r2.length]; exact F.len _ _ _ _ h
  refine wpAny_call (codeAny_mono (F.run X.A X.stack s H ⟨us, []⟩ (us ++ ds) (vs ++ dvs) Q E hr I.env0 (hb s us I.kIn hl) r2 h) fun r s' hq => ?_)
  cases r with
  | error e => exact hx pins σ H s e s' I hq
  | ok fl =>
    cases fl with
    | ret u => exact I.after hq
    | next => exact False.elim hq
    | brk => exact False.elim hq
    | cont => exact False.elim hq
theorem pe_call (F : FnOk X.prog X.w X.K X.mg X.base CX k f fd ps sp) (hr : Room k X.A) (hg : Gl X x) (hm : X.mg x = some (.ref f)) (hk : W.keepIn X.K (.ref f) = true) (hb : Binds X.K fd ps ds) (hd : Vals dvs ds) (hx : Passes CX X E)
    (ha : PA X (e :: es) t) (hdb : (x == ("__debug__" : Str)) = false := by decide) (he : starEach (e :: es) X.env = (false, eval e X.env) :: starEach es X.env := by rfl) (hpl : (backTo pos (starEach es X.env)).any (·.1) = false := by rfl) :
    PE X (.Call (.Name x p) (e :: es) [] pos) (tCall sp dvs E t) := by
  intro pins s σ H Q I h
  refine wpAny_Call_Name_kw (ld_glob I hg hm ?_ hdb)
  refine W.callWith_K (h₀ := X.base) I.ok.mod.kin hk (thn (ha pos pins s σ H _ I h) fun us s1 ⟨vs, H1, I1, r, q⟩ => ⟨I1.kIn, ?_⟩) he hpl
  exact run_fn F hr hb hd hx I1 r q
structure Mk (K : W.Frag) (C f : Addr) : Prop where
  makes : W.makesIn K C = true
  init : W.findIn K (.ref C) "__init__" = some (some (.ref f))
  fn : W.isFn K (.ref f) = true
  kp : W.keepIn K (.ref C) = true
theorem run_make {pins : List (Addr × Obj)} {σ : St} {H : Hp} {s : Shared} {Q : VK} {us : List Value} {vs : List V} (M : Mk X.K C f) (F : FnOk X.prog X.w X.K X.mg X.base CX k f fd ps sp) (hr : Room (k + 1) X.A) (hb : Binds X.K fd ps ds) (hd : Vals dvs ds)
    (hx : Passes CX X E) (I : Inv X pins σ H s) (r : Vals vs us)
    (h : ∀ x dx, H x = none → H dx = none → dx ≠ x → sp (.ref x :: (vs ++ dvs)) (upd (upd H dx (.own x)) x (.ins C dx [])) (fun v H2 => v = .non ∧ Q (.ref x) H2) E) :
    wpAny (model X.prog X.w) X.A (call (.ref C) us) (EP X pins σ Q) X.xe s := by
  have hq := h (s.heap.objs.size + 1) s.heap.objs.size (I.hok.fresh (Nat.le_succ _)) (I.hok.fresh (Nat.le_refl _)) (Nat.ne_of_lt (Nat.lt_succ_self _))
  have I2 := Inv.made (C := C) I
  have r2 : Vals (V.ref (s.heap.objs.size + 1) :: (vs ++ dvs)) (Value.ref (s.heap.objs.size + 1) :: (us ++ ds)) := .cons rfl (r.append hd)
  have hl : (Value.ref (s.heap.objs.size + 1) :: us ++ ds).length = ps.length := by
    have e := r2.length
    rw [F.len _ _ _ _ hq] at e
    exact e.symm
  refine wpAny_call (make_map (f := f) I.kIn M.makes M.init (beq_iff_eq.mp M.fn) (codeAny_mono (F.run _ X.stack _ _ ⟨Value.ref (s.heap.objs.size + 1) :: us, []⟩ (Value.ref (s.heap.objs.size + 1) :: (us ++ ds)) _ _ E (hr.make C us [])
    (I2.env0.make C us []) (hb _ (Value.ref (s.heap.objs.size + 1) :: us) I2.kIn hl) r2 hq) fun r s' hq' => ?_))
  cases r with
  | error e => exact hx pins σ _ _ e s' I2 hq'
  | ok fl =>
    cases fl with
    | ret u =>
      obtain ⟨v, H', I3, rv, ev, q3⟩ := I2.after hq'
      subst ev
      exact ⟨rv, ⟨V.ref (s.heap.objs.size + 1), H', I3, rfl, q3⟩⟩
    | next => exact False.elim hq'
    | brk => exact False.elim hq'
    | cont => exact False.elim hq'
theorem pe_make (M : Mk X.K C f) (F : FnOk X.prog X.w X.K X.mg X.base CX k f fd ps sp) (hr : Room (k + 1) X.A) (hg : Gl X x) (hm : X.mg x = some (.ref C)) (hb : Binds X.K fd ps ds) (hd : Vals dvs ds) (hx : Passes CX X E)
    (ha : PA X (e :: es) t) (hdb : (x == ("__debug__" : Str)) = false := by decide) (he : starEach (e :: es) X.env = (false, eval e X.env) :: starEach es X.env := by rfl) (hpl : (backTo pos (starEach es X.env)).any (·.1) = false := by rfl) :
    PE X (.Call (.Name x p) (e :: es) [] pos) (tMake C sp dvs E t) := by
  intro pins s σ H Q I h
  refine wpAny_Call_Name_kw (ld_glob I hg hm ?_ hdb)
  refine W.callWith_K (h₀ := X.base) I.ok.mod.kin M.kp (thn (ha pos pins s σ H _ I h) fun us s1 ⟨vs, H1, I1, r, q⟩ => ⟨I1.kIn, ?_⟩) he hpl
  exact run_make M F hr hb hd hx I1 r q
end
section
variable {X : Cx} {CX : CXT} {k : Nat} {f C : Addr} {fd : FuncData} {ps ks : List Str} {sp : Sp} {E : XK} {x m : Str} {p pos apos kpos : Pos} {e o : Expr} {es : List Expr} {kws : List Keyword} {te ta : TE} {t tk : TA} {nm : Option Str}
variable {g : List Value → List Value → List Value} {gV : List V → List V → List V}
end
structure FnScope (N P : List Str) (sc : Scope) : Prop where
  kind : sc.kind = .function
  co : sc.isCoroutine = false
  gen : sc.isGenerator = false
  nd : N.Nodup
  pre : N.take P.length = P
  par : ∀ x ∈ P, sc.names.lookup x = some .local ∨ sc.names.lookup x = some .cell
  nofree : ∀ y ∈ sc.names, y.2 ≠ .free
theorem bindL_out {kindOf : Str → Option NameKind} {x : Str} : ∀ {binds : List (Str × Value)} {m : Str → Option Value}, (∀ v, (x, v) ∉ binds) → bindL kindOf binds m x = m x
  | [], _, _ => rfl
  | (n, v) :: r, m, h => by
    unfold bindL
    rw [bindL_out fun w hw => h w (List.mem_cons_of_mem _ hw)]
    split
    · have : x ≠ n := by rintro rfl; exact h v List.mem_cons_self
      simp [this]
    · rfl
theorem bindC_out {kindOf : Str → Option NameKind} {x : Str} : ∀ {binds : List (Str × Value)} {m : Str → Option Value}, (∀ v, (x, v) ∉ binds) → bindC kindOf binds m x = m x
  | [], _, _ => rfl
  | (n, v) :: r, m, h => by
    unfold bindC
    rw [bindC_out fun w hw => h w (List.mem_cons_of_mem _ hw)]
    split
    · rfl
    · have : x ≠ n := by rintro rfl; exact h v List.mem_cons_self
      simp [this]
theorem bindL_get {kindOf : Str → Option NameKind} {x : Str} {v : Value} : ∀ {P : List Str} {vs : List Value} {i : Nat} {m : Str → Option Value}, P.Nodup → P[i]? = some x → vs[i]? = some v → kindOf x = some .local →
    bindL kindOf (P.zip vs) m x = some v
  | [], _, _, _, _, h, _, _ => by simp at h
  | _ :: _, [], _, _, _, _, h, _ => by simp at h
  | p :: P, w :: vs, 0, m, nd, h1, h2, hk => by
    simp at h1 h2; subst h1; subst h2
    show bindL kindOf ((p, w) :: P.zip vs) m p = _
    unfold bindL
    rw [bindL_out fun v hv => (List.nodup_cons.mp nd).1 (List.of_mem_zip hv).1, if_pos hk]
    simp
  | p :: P, w :: vs, i + 1, m, nd, h1, h2, hk => by
    show bindL kindOf ((p, w) :: P.zip vs) m x = _
    unfold bindL
    exact bindL_get (i := i) (List.nodup_cons.mp nd).2 (by simpa using h1) (by simpa using h2) hk
theorem bindC_get {kindOf : Str → Option NameKind} {x : Str} {v : Value} : ∀ {P : List Str} {vs : List Value} {i : Nat} {m : Str → Option Value}, P.Nodup → P[i]? = some x → vs[i]? = some v → kindOf x ≠ some .local →
    bindC kindOf (P.zip vs) m x = some v
  | [], _, _, _, _, h, _, _ => by simp at h
  | _ :: _, [], _, _, _, _, h, _ => by simp at h
  | p :: P, w :: vs, 0, m, nd, h1, h2, hk => by
    simp at h1 h2; subst h1; subst h2
    show bindC kindOf ((p, w) :: P.zip vs) m p = _
    unfold bindC
    rw [bindC_out fun v hv => (List.nodup_cons.mp nd).1 (List.of_mem_zip hv).1, if_neg hk]
    simp
  | p :: P, w :: vs, i + 1, m, nd, h1, h2, hk => by
    show bindC kindOf ((p, w) :: P.zip vs) m x = _
    unfold bindC
    exact bindC_get (i := i) (List.nodup_cons.mp nd).2 (by simpa using h1) (by simpa using h2) hk
def start (N : List Str) (vs : List V) : St := vs.map some ++ List.replicate (N.length - vs.length) none
def cxOf (CX : CXT) (P : Program) (w : World) (K : W.Frag) (mg : Str → Option Value) (base : Heap) (N : List Str) (qual : Str) (scope : Scope) (f : Addr) (cd : Value) (A : Around) (outer : List Env) (s : Shared) (H : Hp) (E : XK) : Cx where
  prog := P
  w := w
  K := K
  mg := mg
  base := base
  A := A.deeper (envOfC qual scope s.heap.objs.size f cd)
  N := N
  s₀ := s
  H₀ := H
  env := envOfC qual scope s.heap.objs.size f cd
  outer := outer
  stack := envOfC qual scope s.heap.objs.size f cd :: outer
  ex := []
  calm := true
  fn := fun _ => true
  pn := []
  xe := fun e s' => wpAny (model P w) (A.deeper (envOfC qual scope s.heap.objs.size f cd)) (leaving (envOfC qual scope s.heap.objs.size f cd) e) (fun _ s'' => CX outer H s E e s'') (fun e' s'' => CX outer H s E e' s'') s'
theorem cell_has {sc : Scope} {n : Nat} {x : Str} (h : sc.names.lookup x = some .cell) : ∃ c, (cellsFrom n sc.names []).lookup x = some c := by
  have q := W.cellsFrom_some sc.names n [] (.inl h)
  exact Option.isSome_iff_exists.mp q
theorem inv_start {CX : CXT} {P : Program} {w : World} {K : W.Frag} {mg : Str → Option Value} {base : Heap} {N ps : List Str} {qual : Str} {scope : Scope} {f : Addr} {cd : Value} {A : Around} {outer : List Env} {s s1 : Shared} {H : Hp} {E : XK} {us : List Value} {vs : List V}
    (S : FnScope N ps scope) (hd : A.handled = none) (e0 : Env0 P w K mg base A outer s H) (hl : vs.length = ps.length) (r : Vals vs us)
    (x : InCallC s s.heap.objs.size (bindL (envOfC qual scope s.heap.objs.size f cd).kindOf (ps.zip us) fun _ => none) (cellsFrom (s.heap.objs.size + 1) scope.names []) (bindC (envOfC qual scope s.heap.objs.size f cd).kindOf (ps.zip us) fun _ => none) s1) :
    Inv (cxOf CX P w K mg base N qual scope f cd A outer s H E) [] (start N vs) H s1 := by
  have hpl : ps.length ≤ N.length := by have := congrArg List.length S.pre; rw [List.length_take] at this; omega
  obtain ⟨h1, tk, rfl, hk⟩ := x.done
  have noA : ∀ b : Addr, b ∉ (cxOf CX P w K mg base N qual scope f cd A outer s H E).ex := fun b z => absurd (show b ∈ ([] : List Addr) from z) (by simp)
  refine ⟨⟨e0.mod, S.kind, rfl, rfl, Nat.le_refl _, fun y z c h1 h2 => ?_, fun y hy => ?_, fun y c _ h => ?_, fun _ => hd, Around.frames_deeper e0.frames, .inr ⟨rfl, rfl⟩, fun b z => absurd z (noA b), e0.bs, e0.bsz, fun b _ _ => noA b, fun b z => absurd z (noA b), e0.funs, e0.frf⟩,
    rfl, e0.bare, Un.kept hk, ⟨_, x.toInCall.ns, fun i y v h1 h2 h3 => ?_⟩, fun y c h => ⟨_, x.cell y c h⟩, e0.hok.fresh (Nat.le_refl _), fun y c h => ?_, fun p hp => absurd (show p ∈ ([] : List (Addr × Obj)) from hp) (by simp), e0.hok.kept hk, ?_⟩
  · exact name_of_addr x.apart (PySem.mem_of_lookup h1) (PySem.mem_of_lookup h2)
  · have hy : scope.names.lookup y = some .cell ∨ scope.names.lookup y = some .free := hy
    rcases hy with hy | hy
    · exact cell_has hy
    · exact absurd rfl (S.nofree _ (PySem.mem_of_lookup hy))
  · exact Nat.le_of_lt (x.above y c (PySem.mem_of_lookup h))
  · have hi : i < vs.length := by
      unfold start at h2
      by_cases hi : i < vs.length
      · exact hi
      · rw [List.getElem?_append_right (by simpa using hi)] at h2
        rw [List.getElem?_replicate] at h2
        split at h2 <;> cases h2
    have ha : vs[i]? = some v := by
      unfold start at h2
      rw [List.getElem?_append_left (by simpa using hi), List.getElem?_map] at h2
      cases e : vs[i]? with
      | none => rw [e] at h2; cases h2
      | some a => rw [e] at h2; cases h2; rfl
    obtain ⟨u, hu, rv⟩ := r.get ha
    have hp : ps[i]? = some y := by
      rw [← S.pre, List.getElem?_take_of_lt (by omega)]; exact h1
    have ndP : ps.Nodup := by rw [← S.pre]; exact S.nd.sublist (List.take_sublist _ _)
    refine ⟨u, rv, ?_⟩
    rcases S.par y (List.mem_of_getElem? hp) with k | k
    · exact .inl ⟨k, bindL_get ndP hp hu k⟩
    · obtain ⟨c, e⟩ := cell_has (n := s.heap.objs.size + 1) k
      refine .inr ⟨.inl k, c, e, ?_⟩
      have q := x.cell y c e
      rw [bindC_get ndP hp hu (by show scope.names.lookup y ≠ _; rw [k]; decide)] at q
      exact q
  · exact e0.hok.fresh (Nat.le_of_lt (x.above y c (PySem.mem_of_lookup h)))
  · unfold start
    show _ = N.length
    rw [List.length_append, List.length_map, List.length_replicate]
    omega
theorem fn_of {CX : CXT} {P : Program} {w : World} {K : W.Frag} {mg : Str → Option Value} {base : Heap} {k : Nat} {f : Addr} {name qual : Str} {params : Arguments} {body : List Stmt} {scope : Scope} {dV kV doc pm cdv ct oc : Value} {an od : Option Addr}
    {osl : Array (Option Value)} {N ps : List Str} {sp : Sp} (lk : K.lookup f = some ⟨oc, od, .func (W.fnOf name qual params body scope dV kV doc pm an cdv ct), osl⟩) (hcd : W.codeIn K cdv qual = true) (S : FnScope N ps scope)
    (len : ∀ vs H Q E, sp vs H Q E → vs.length = ps.length)
    (hbody : ∀ (A : Around) (outer : List Env) (s : Shared) (H : Hp) (vs : List V) (Q : VK) (E : XK), Room k (A.deeper (envOfC qual scope s.heap.objs.size f cdv)) → sp vs H Q E →
      ∃ t, PSs (cxOf CX P w K mg base N qual scope f cdv A outer s H E) body t ∧ t { nx := fun _ H' => Q .non H', rt := Q } (start N vs) H) :
    FnOk P w K mg base CX (k + 1) f (W.fnOf name qual params body scope dV kV doc pm an cdv ct) ps sp := by
  refine ⟨len, fun A outer s H args us vs Q E hr e0 hb r hsp => ?_⟩
  have hl := len _ _ _ _ hsp
  have KX : K.In s.heap := e0.mod.kin.keeps fun b o e => (e0.bs b o e).1
  have lim : s.heap.NoLimit := e0.mod.nolimit.keeps fun b o e => (e0.bs b o e).1
  have hkind : ∀ y ∈ ps.zip us, scope.names.lookup y.1 = some .local ∨ (scope.names.lookup y.1 = some .cell ∧ ((cellsFrom (s.heap.objs.size + 1) scope.names []).lookup y.1).isSome = true) := fun ⟨n, v⟩ hy => by
    rcases S.par n (List.of_mem_zip hy).1 with q | q
    · exact .inl q
    · exact .inr ⟨q, W.cellsFrom_some _ _ _ (.inl q)⟩
  refine codeAny_call_function hr.depth (KX _ _ lk) rfl S.co S.gen rfl (W.codeRec_of KX hcd) (hb _ _ _ _ ?_)
  refine wpAny_newFunctionEnv_cells S.kind hkind fun env he s1 x => ?_
  subst he
  refine ⟨lim.keeps x.toInCall.keep, codeAny_func ?_⟩
  obtain ⟨t, ht, hq⟩ := hbody A outer s H vs Q E (hr.deeper _) hsp
  have I : Inv (cxOf CX P w K mg base N qual scope f cdv A outer s H E) [] (start N vs) H s1 := inv_start S hr.hd e0 hl r x
  refine wpAny_mono (ht [] s1 (start N vs) H _ I hq) (fun fl s' hs => ?_) fun e s' hs => hs
  have fin : ∀ {σ' : St} {H' : Hp} {v : V} {u : Value}, Inv (cxOf CX P w K mg base N qual scope f cdv A outer s H E) [] σ' H' s' → RelV v u → Q v H' → CE outer P w H s Q u s' :=
    fun {σ' H' v u} J rv q => ⟨v, H', J.os, J.bare, J.base, J.hok, rv, q⟩
  cases fl with
  | ret u =>
    obtain ⟨v, σ', H', J, rv, q⟩ := hs
    exact fin J rv q
  | next =>
    obtain ⟨σ', H', J, q⟩ := hs
    exact fin (v := V.non) (u := Value.none) J rfl q
  | brk =>
    obtain ⟨_, _, _, q⟩ := hs
    exact False.elim q
  | cont =>
    obtain ⟨_, _, _, q⟩ := hs
    exact False.elim q
end L2
namespace L2
open PySem PySem.Spec PyProof.Rows
section
variable {X : Cx} {x : Str} {p pos : Pos} {e : Expr} {es : List Expr} {t : TA} {id T : String} {r : List V → Hp → VK → Prop}
def tCB (r : List V → Hp → VK → Prop) (t : TA) : TE := fun σ H Q => t σ H fun vs H1 => r vs H1 Q
theorem pe_callB (hc : CallR X (.builtin id) r) (hg : Gl X x) (hm : X.mg x = none) (hv : bootBuiltins x = some (.builtin id)) (ha : PA X (e :: es) t) (hn : x ≠ "__name__" := by decide) (hdb : (x == ("__debug__" : Str)) = false := by decide)
    (he : starEach (e :: es) X.env = (false, eval e X.env) :: starEach es X.env := by rfl) (hpl : (backTo pos (starEach es X.env)).any (·.1) = false := by rfl) : PE X (.Call (.Name x p) (e :: es) [] pos) (tCB r t) := by
  intro pins s σ H Q I h
  refine wpAny_Call_Name_kw (ld_blt I hg hm hv ?_ hn hdb)
  exact PyProof.Rows.callWith_builtin1 (thn (ha pos pins s σ H _ I h) fun us s1 ⟨vs, H1, I1, r1, q1⟩ => hc pins s1 σ H1 vs us Q I1 r1 q1) he hpl
theorem pe_callTy (hc : CallR X (.type T) r) (hg : Gl X x) (hm : X.mg x = none) (hv : bootBuiltins x = some (.type T)) (ha : PA X (e :: es) t) (hn : x ≠ "__name__" := by decide) (hdb : (x == ("__debug__" : Str)) = false := by decide)
    (he : starEach (e :: es) X.env = (false, eval e X.env) :: starEach es X.env := by rfl) (hpl : (backTo pos (starEach es X.env)).any (·.1) = false := by rfl) : PE X (.Call (.Name x p) (e :: es) [] pos) (tCB r t) := by
  intro pins s σ H Q I h
  refine wpAny_Call_Name_kw (ld_blt I hg hm hv ?_ hn hdb)
  exact PyProof.Rows.callWith_type1 (thn (ha pos pins s σ H _ I h) fun us s1 ⟨vs, H1, I1, r1, q1⟩ => hc pins s1 σ H1 vs us Q I1 r1 q1) he hpl
end
end L2
namespace HT
open PySem PyProof.Rows
section
open PySem.SeqAt
open PySem.AutoSeq1 (wpAny_loadPart')
open PySem.MeetsSeq PySem.MeetsSeq2 PySem.MeetsSeq3
end
section
variable {prog : Program} {w : World} {A : Around} {E : Value → Shared → Prop} {s : Shared}
def sIx (n d : Nat) : Option Int → Nat
  | none => d
  | some v => if v < 0 then (v + (n : Int)).toNat else min v.toNat n
theorem sIx_none (n d : Nat) : sIx n d none = d := rfl
theorem sIx_nat (n d k : Nat) : sIx n d (some (k : Int)) = min k n := by
  show (if (k : Int) < 0 then ((k : Int) + (n : Int)).toNat else min (k : Int).toNat n) = min k n
  rw [if_neg (by omega), Int.toNat_natCast]
end
end HT
namespace L2
open PySem PySem.Spec PyProof.Rows
abbrev TO := St → Hp → (Option Int → Hp → Prop) → Prop
def PO (X : Cx) (e : Option Expr) (t : TO) : Prop :=
  ∀ (pins : List (Addr × Obj)) (s : Shared) (σ : St) (H : Hp) (Q : Option Int → Hp → Prop), Inv X pins σ H s → t σ H Q →
    wpAny (model X.prog X.w) X.A (evalPart e X.env) (fun u s' => ∃ o H', Inv X pins σ H' s' ∧ IsPart u o ∧ Q o H') X.xe s
def tNoPart : TO := fun _ H Q => Q none H
def tPart (t : TE) : TO := fun σ H Q => t σ H fun x H1 => ∃ i, x = .int i ∧ Q (some i) H1
theorem intsAre_of {ns : List Int} : ∀ {us : List Value}, Vals (ns.map V.int) us → IntsAre us ns := by
  induction ns with
  | nil => intro us r; rw [List.map_nil] at r; cases r; exact .nil
  | cons n ns ih =>
    intro us r
    rw [List.map_cons] at r
    cases r with
    | cons r1 r2 =>
      obtain ⟨t, e⟩ := r1
      subst e
      exact .cons n t (ih r2)
section
variable {X : Cx} {e : Expr} {te : TE} {lo hi : Option Expr} {tl th : TO} {pos p2 : Pos}
theorem po_none : PO X none tNoPart := by
  intro pins s σ H Q I h
  rw [evalPart_none]
  exact wpAny_pure ⟨none, H, I, .none, h⟩
theorem po_some (h : PE X e te) : PO X (some e) (tPart te) := by
  intro pins s σ H Q I hw
  rw [evalPart_some]
  refine thn (h pins s σ H _ I hw) fun u s1 ⟨x, H1, I1, r1, q1⟩ => ?_
  obtain ⟨i, rfl, q⟩ := q1
  obtain ⟨t, rfl⟩ := r1
  exact ⟨some i, H1, I1, .int i t, q⟩
def SlR (X : Cx) (r : V → Option Int → Option Int → Hp → VK → Prop) : Prop :=
  ∀ (pins : List (Addr × Obj)) (s : Shared) (σ : St) (H : Hp) (x : V) (v vl vu : Value) (lo hi : Option Int) (sl : Addr) (Q : VK), Inv X pins σ H s → RelV x v → s.heap.IsSliceOf sl vl vu .none → IsPart vl lo → IsPart vu hi → r x lo hi H Q →
    ∃ T id, typeLookup (.type T) "__getitem__" = pure (some (.builtin id)) ∧ s.TypeIs v T ∧ wpAny (model X.prog X.w) X.A (getItem v (.ref sl)) (EP X pins σ Q) X.xe s
def tSl (r : V → Option Int → Option Int → Hp → VK → Prop) (te : TE) (tl th : TO) : TE := fun σ H Q => te σ H fun x H1 => tl σ H1 fun l H2 => th σ H2 fun u H3 => r x l u H3 Q
theorem pe_slice {r : V → Option Int → Option Int → Hp → VK → Prop} (hr : SlR X r) (he : PE X e te) (hl : PO X lo tl) (hu : PO X hi th) : PE X (.Subscript e (.Slice lo hi none p2) pos) (tSl r te tl th) := by
  intro pins s σ H Q I h
  refine Subscript_ (thn (he pins s σ H _ I h) fun v s1 ⟨x, H1, I1, r1, q1⟩ => ?_)
  refine wpAny_Slice (thn (hl pins s1 σ H1 _ I1 q1) fun vl s2 ⟨l, H2, I2, pl, q2⟩ => thn (hu pins s2 σ H2 _ I2 q2) fun vu s3 ⟨u, H3, I3, pu, q3⟩ => ?_)
  rw [evalPart_none]
  refine wpAny_pure ?_
  have I4 : Inv X pins σ H3 { s3 with heap := s3.heap.push { cls := .type "slice", data := .fields #[vl, vu, .none] } } := I3.kept (t' := s3.toks) fun b ob q => Heap.get?_push_of_some _ q
  obtain ⟨T, id, hT, ht, hg⟩ := hr pins { s3 with heap := s3.heap.push { cls := .type "slice", data := .fields #[vl, vu, .none] } } σ H3 x v vl vu l u s3.heap.objs.size Q I4 r1 (Heap.IsSliceOf.new ..) pl pu q3
  show wpAny (model X.prog X.w) X.A (subscriptTail e (.Slice lo hi none p2) v (.ref s3.heap.objs.size)) (EP X pins σ Q) X.xe { s3 with heap := s3.heap.push { cls := .type "slice", data := .fields #[vl, vu, .none] } }
  exact tail_any (ops := [.ref s3.heap.objs.size, v]) ht hT hg (by with_unfolding_all rfl)
def cutV (xs : List V) (lo hi : Option Int) : List V := (xs.drop (HT.sIx xs.length 0 lo)).take (HT.sIx xs.length xs.length hi - HT.sIx xs.length 0 lo)
theorem cutV_length (xs : List V) (lo hi : Option Int) : (cutV xs lo hi).length ≤ xs.length := by
  unfold cutV
  rw [List.length_take, List.length_drop]
  omega
end
end L2
namespace L2
open PySem PySem.Spec PyProof.Rows
def ixN (n : Nat) (i : Int) : Option Nat := if 0 ≤ i then (if i < n then some i.toNat else none) else if -(n : Int) ≤ i then some (i + n).toNat else none
def atI {α : Type} (xs : List α) (i : Int) : Option α := (ixN xs.length i).bind fun j => xs[j]?
theorem ixN_seq {n : Nat} {i : Int} {j : Nat} (h : ixN n i = some j) : seqIndex? i n = some j ∧ j < n ∧ -(n : Int) ≤ i ∧ i < n := by
  unfold ixN at h
  by_cases h0 : 0 ≤ i
  · rw [if_pos h0] at h
    by_cases h1 : i < n
    · rw [if_pos h1] at h
      have e : i.toNat = j := Option.some.inj h
      exact ⟨by rw [seqIndex_of h0 h1, e], by omega, by omega, h1⟩
    · rw [if_neg h1] at h; cases h
  · rw [if_neg h0] at h
    by_cases h1 : -(n : Int) ≤ i
    · rw [if_pos h1] at h
      have e : (i + n).toNat = j := Option.some.inj h
      exact ⟨by rw [seqIndex_neg (by omega) h1, e], by omega, h1, by omega⟩
    · rw [if_neg h1] at h; cases h
theorem atI_get {α : Type} {xs : List α} {i : Int} {v : α} (h : atI xs i = some v) : ∃ j, seqIndex? i xs.length = some j ∧ xs[j]? = some v ∧ j < xs.length ∧ -(xs.length : Int) ≤ i ∧ i < xs.length := by
  unfold atI at h
  cases e : ixN xs.length i with
  | none => rw [e] at h; cases h
  | some j =>
    rw [e] at h
    obtain ⟨h1, h2, h3, h4⟩ := ixN_seq e
    exact ⟨j, h1, h, h2, h3, h4⟩
theorem atI_nat {α : Type} {xs : List α} {j : Nat} {v : α} (h : xs[j]? = some v) : atI xs (j : Int) = some v := by
  have hj : j < xs.length := (List.getElem?_eq_some_iff.mp h).1
  have e : ixN xs.length (j : Int) = some j := by
    unfold ixN
    rw [if_pos (by omega), if_pos (by omega)]; simp
  unfold atI; rw [e]; exact h
def PlainIx (b : Expr) : Prop := ∀ o i, subscripted b false o i = operate [o, i] (getItem o i)
def IxR (X : Cx) (r : R2) : Prop :=
  ∀ (value slice : Expr) (pins : List (Addr × Obj)) (s : Shared) (σ : St) (H : Hp) (x y : V) (v u : Value) (Q : VK), Inv X pins σ H s → RelV x v → RelV y u → r x y H Q →
    subscripted slice false v u = operate [v, u] (getItem v u) → wpAny (model X.prog X.w) X.A (subscriptTail value slice v u) (EP X pins σ Q) X.xe s
def MtR (X : Cx) (id : String) (r : V → List V → Hp → VK → Prop) : Prop :=
  ∀ (pins : List (Addr × Obj)) (s : Shared) (σ : St) (H : Hp) (x : V) (xs : List V) (v : Value) (us : List Value) (Q : VK), Inv X pins σ H s → RelV x v → Vals xs us → r x xs H Q →
    wpAny (model X.prog X.w) X.A (call (.builtin id) (v :: us)) (EP X pins σ Q) X.xe s
section
variable {X : Cx} {a b : Expr} {ta tb : TE} {pos : Pos}
theorem pe_ix {r : R2} (hr : IxR X r) (ha : PE X a ta) (hb : PE X b tb) (hs : PlainIx b) : PE X (.Subscript a b pos) (tOp r ta tb) := by
  intro pins s σ H Q I h
  exact Subscript_ (binT ha hb I h fun v u s2 x y H2 I2 rx ry q => hr a b pins s2 σ H2 x y v u Q I2 rx ry q (hs _ _))
def rIxL (K : W.Frag) : R2 := fun x y H Q => ∃ p xs i v, x = .ref p ∧ y = .int i ∧ SqL K H p xs ∧ atI xs i = some v ∧ Q v H
def rIxS : R2 := fun x y H Q => ∃ z i c, x = .str z ∧ y = .int i ∧ z.length ≤ sizeLine ∧ atI z.cps.toList i = some c ∧ Q (.str ⟨#[c]⟩) H
theorem ix_list : IxR X (rIxL X.K) := by
  intro value slice pins s σ H x y v u Q I rx ry h hs
  obtain ⟨p, xs, i, z, rfl, rfl, hq, he, q⟩ := h
  cases rx
  obtain ⟨t, rfl⟩ := ry
  obtain ⟨its, r, pl, hz⟩ := I.list hq
  obtain ⟨j, h1, h2, h3, h4, h5⟩ := atI_get he
  obtain ⟨w, ew, rw'⟩ := r.get h2
  have hl := r.length
  have hn := line63
  have fin : EP X pins σ Q w s := ⟨z, H, I, rw', q⟩
  by_cases h0 : 0 ≤ i
  · have hj : i.toNat = j := by
      rw [seqIndex_of h0 h5] at h1
      exact Option.some.inj h1
    exact item_listR pl.isList h0 (by omega) (by rw [hj]; simpa using ew) fin hs
  · have hj : (i + (its.toArray.size : Int)).toNat = j := by
      rw [seqIndex_neg (by omega) h4] at h1
      rw [List.size_toArray, ← hl]
      exact Option.some.inj h1
    exact subscriptTail_builtinR (x := w) pl.isList.typeIs slot_list_getitem.lookup
      (wpAny_getItem_list_neg (Q := fun r s' => r = w ∧ EP X pins σ Q r s') pl.isList (by omega) (by rw [List.size_toArray] <;> omega) (by omega) (by rw [hj]; simpa using ew) ⟨rfl, fin⟩) hs
theorem ix_str : IxR X rIxS := by
  intro value slice pins s σ H x y v u Q I rx ry h hs
  obtain ⟨z, i, c, rfl, rfl, hz, he, q⟩ := h
  obtain ⟨t, rfl⟩ := rx
  obtain ⟨t', rfl⟩ := ry
  obtain ⟨j, h1, h2, h3, h4, h5⟩ := atI_get he
  have hl : z.cps.toList.length = z.length := by simp [Str.length]
  rw [hl] at h1 h4 h5
  have hn := line63
  exact tail_any (typeIs_str s z t) slot_str_getitem.lookup (getItem_str (c := c) (by
    have e1 : decide (i < -(2 ^ 63 : Int)) = false := decide_eq_false (by omega)
    have e2 : decide (i ≥ 2 ^ 63) = false := decide_eq_false (by omega)
    rw [e1, e2, Bool.or_false]) (by rw [h1]; simpa using h2) ⟨.str ⟨#[c]⟩, H, I.tok _, ⟨_, rfl⟩, q⟩) hs
theorem mapSeq_set (its : List Value) (n j : Nat) (u : Value) : Obj.mapSeq (·.setIfInBounds j u) { cls := .type "list", data := .seq its.toArray n } = { cls := .type "list", data := .seq (its.set j u).toArray n } := by
  simp [Obj.mapSeq]
theorem Inv.lst {pins : List (Addr × Obj)} {σ : St} {H : Hp} {s : Shared} {p : Addr} {xs : List V} (I : Inv X pins σ H s) (h : H p = some (.lst xs)) :
    ∃ (its : List Value) (n : Nat), Vals xs its ∧ s.heap.get? p = some { cls := .type "list", data := .seq its.toArray n } ∧ xs.length ≤ sizeLine := by
  obtain ⟨z, its, n, r, e⟩ := I.hok p _ h
  exact ⟨its, n, r, e, z⟩
theorem Inv.lstUpd {pins : List (Addr × Obj)} {σ : St} {H : Hp} {s : Shared} {p : Addr} {xs ys : List V} {its its' : List Value} {n n' : Nat} {f : Obj → Obj} (I : Inv X pins σ H s) (h : H p = some (.lst xs))
    (ho : s.heap.get? p = some { cls := .type "list", data := .seq its.toArray n }) (hf : f { cls := .type "list", data := .seq its.toArray n } = { cls := .type "list", data := .seq its'.toArray n' }) (r : Vals ys its') (hz : ys.length ≤ sizeLine) (t : Nat) :
    Inv X pins σ (upd H p (.lst ys)) { s with heap := s.heap.update p f, toks := t } := by
  have e : (s.heap.update p f).get? p = some { cls := .type "list", data := .seq its'.toArray n' } := by
    rw [Heap.get?_update_self f ho (by rw [hf] <;> rfl), hf]
  refine I.write (x := p) (e := p) (by rw [h]; trivial) (.inl rfl) (fun b u hb q => (Heap.get?_update_other _ _ (Ne.symm hb)).trans q) ⟨_, e⟩ ?_
  exact ⟨hz, its', n', r, e⟩
def rSetL : V → V → V → Hp → (Hp → Prop) → Prop := fun o i v H Q => ∃ p xs k j, o = .ref p ∧ i = .int k ∧ H p = some (.lst xs) ∧ ixN xs.length k = some j ∧ Q (upd H p (.lst (xs.set j v)))
theorem set_list : PSet X rSetL := by
  intro pins s σ H o i v ov iv u Q I ro ri rv h
  obtain ⟨p, xs, k, j, rfl, rfl, hp, hj, q⟩ := h
  cases ro
  obtain ⟨t, rfl⟩ := ri
  obtain ⟨its, n, r, ho, hz⟩ := I.lst hp
  obtain ⟨h1, h2, h3, h4⟩ := ixN_seq hj
  have hl := r.length
  have hn := line63
  have I' : Inv X pins σ (upd H p (.lst (xs.set j v))) { s with heap := s.heap.update p (Obj.mapSeq (·.setIfInBounds j u)) } :=
    I.lstUpd hp ho (mapSeq_set its n j u) (r.set rv j) (by rw [List.length_set]; exact hz) s.toks
  by_cases h0 : 0 ≤ k
  · have hk : k.toNat = j := by
      rw [seqIndex_of h0 h4] at h1
      exact Option.some.inj h1
    exact W.ki_setAt ho h0 (by omega) (by rw [List.size_toArray, ← hl]; exact h4) (by rw [hk]; exact ⟨_, I', q⟩)
  · have hk : (k + (its.toArray.size : Int)).toNat = j := by
      rw [seqIndex_neg (by omega) h3] at h1
      rw [List.size_toArray, ← hl]
      exact Option.some.inj h1
    exact W.ki_setBack ho (by omega) (by rw [List.size_toArray, ← hl]; exact h3) (by omega) (by rw [hk]; exact ⟨_, I', q⟩)
theorem slice_bounds (lo hi : Option Int) (n : Nat) : (sliceBounds lo hi none n).1 = ((HT.sIx n 0 lo : Nat) : Int) ∧ (sliceBounds lo hi none n).2.1 = ((HT.sIx n n hi : Nat) : Int) ∧ (sliceBounds lo hi none n).2.2 = 1 := by
  refine ⟨?_, ?_, rfl⟩
  · cases lo with
    | none => simp [sliceBounds, HT.sIx]
    | some i =>
      simp only [sliceBounds, HT.sIx, Option.getD_none, show (1 : Int) > 0 by decide, if_true]
      by_cases h : i < 0
      · simp only [h, if_true] <;> omega
      · simp only [h, if_false] <;> omega
  · cases hi with
    | none => simp [sliceBounds, HT.sIx]
    | some i =>
      simp only [sliceBounds, HT.sIx, Option.getD_none, show (1 : Int) > 0 by decide, if_true]
      by_cases h : i < 0
      · simp only [h, if_true] <;> omega
      · simp only [h, if_false] <;> omega
theorem slicePick_cut (its : List Value) (lo hi : Option Int) : slicePick its.toArray lo hi none = ((its.drop (HT.sIx its.length 0 lo)).take (HT.sIx its.length its.length hi - HT.sIx its.length 0 lo)).toArray := by
  obtain ⟨h1, h2, h3⟩ := slice_bounds lo hi its.toArray.size
  unfold slicePick
  rw [h1, h2, h3]
  simp only [sliceRange_one, pick_run, List.size_toArray] <;> rfl
def rSlL (K : W.Frag) : V → Option Int → Option Int → Hp → VK → Prop := fun x lo hi H Q => ∃ a xs, x = .ref a ∧ SqL K H a xs ∧ ∀ p, H p = none → Q (.ref p) (upd H p (.lst (cutV xs lo hi)))
theorem sl_list : SlR X (rSlL X.K) := by
  intro pins s σ H x v vl vu lo hi sl Q I rx hs pl pu h
  obtain ⟨a, xs, rfl, hx, q⟩ := h
  cases rx
  obtain ⟨its, r, ht, hz⟩ := I.list hx
  have hlen := r.length
  refine ⟨"list", _, slot_list_getitem.lookup, ht.isList.typeIs, ?_⟩
  refine wpAny_getItem_list_slice ht.isList hs pl pu .none (by simp) ?_ (by rw [List.size_toArray] <;> omega)
  rw [slicePick_cut, ← hlen]
  refine ⟨.ref s.heap.objs.size, _, I.laid (t' := s.toks) (o := .lst (cutV xs lo hi)) (fun b ob q => Heap.get?_push_of_some _ q) (Nat.le_refl _) ?_, rfl, q _ (I.hok.fresh (Nat.le_refl _))⟩
  exact ⟨Nat.le_trans (cutV_length xs lo hi) hz, _, 0, (r.drop (HT.sIx xs.length 0 lo)).take (HT.sIx xs.length xs.length hi - HT.sIx xs.length 0 lo), Heap.get?_push_size _ rfl⟩
def flatV : V → Bool
  | .non => true
  | .bl _ => true
  | .int _ => true
  | .str _ => true
  | _ => false
def eqV : V → V → Bool
  | .non, .non => true
  | .bl a, .bl b => a == b
  | .bl a, .int b => (if a then 1 else 0) == b
  | .int a, .bl b => a == (if b then 1 else 0)
  | .int a, .int b => a == b
  | .str a, .str b => a == b
  | _, _ => false
theorem eqAt_V {A : Around} {s : Shared} {y x : V} {u v : Value} (ry : RelV y u) (rx : RelV x v) (fy : flatV y = true) (fx : flatV x = true) : SeqAt.EqAt A s u v (eqV y x) := by
  cases y with
  | non =>
    cases ry
    cases x with
    | non => cases rx; exact SeqAt.EqAt.same _
    | bl b => cases rx; exact SeqAt.EqAt.none_bool b
    | int b => obtain ⟨t, rfl⟩ := rx; exact SeqAt.EqAt.none_int b t
    | str b => obtain ⟨t, rfl⟩ := rx; exact SeqAt.EqAt.none_str b t
    | _ => exact absurd (show false = true from fx) Bool.false_ne_true
  | bl a =>
    cases ry
    cases x with
    | non => cases rx; exact SeqAt.EqAt.bool_none a
    | bl b => cases rx; exact SeqAt.EqAt.bool_bool a b
    | int b => obtain ⟨t, rfl⟩ := rx; exact SeqAt.EqAt.bool_int a b t
    | str b => obtain ⟨t, rfl⟩ := rx; exact SeqAt.EqAt.bool_str a b t
    | _ => exact absurd (show false = true from fx) Bool.false_ne_true
  | int a =>
    obtain ⟨t', rfl⟩ := ry
    cases x with
    | non => cases rx; exact SeqAt.EqAt.int_none a t'
    | bl b => cases rx; exact SeqAt.EqAt.int_bool a t' b
    | int b => obtain ⟨t, rfl⟩ := rx; exact SeqAt.EqAt.int_int a t' b t
    | str b => obtain ⟨t, rfl⟩ := rx; exact SeqAt.EqAt.int_str a t' b t
    | _ => exact absurd (show false = true from fx) Bool.false_ne_true
  | str a =>
    obtain ⟨t', rfl⟩ := ry
    cases x with
    | non => cases rx; exact SeqAt.EqAt.str_none a t'
    | bl b => cases rx; exact SeqAt.EqAt.str_bool a t' b
    | int b => obtain ⟨t, rfl⟩ := rx; exact SeqAt.EqAt.str_int a t' b t
    | str b => obtain ⟨t, rfl⟩ := rx; exact SeqAt.EqAt.str_str a t' b t
    | _ => exact absurd (show false = true from fx) Bool.false_ne_true
  | _ => exact absurd (show false = true from fy) Bool.false_ne_true
def eqU (x : V) (u : Value) : Bool := match u with
  | .none => eqV .non x
  | .bool b => eqV (.bl b) x
  | .int i _ => eqV (.int i) x
  | .str z _ => eqV (.str z) x
  | _ => false
theorem eqU_of {x y : V} {u : Value} (r : RelV y u) (f : flatV y = true) : eqU x u = eqV y x := by
  cases y with
  | non => cases r; rfl
  | bl b => cases r; rfl
  | int i => obtain ⟨t, rfl⟩ := r; rfl
  | str z => obtain ⟨t, rfl⟩ := r; rfl
  | _ => exact absurd (show false = true from f) Bool.false_ne_true
theorem any_eqU {x : V} : ∀ {xs : List V} {us : List Value}, Vals xs us → xs.all flatV = true → us.any (eqU x) = xs.any fun y => eqV y x
  | _, _, .nil, _ => rfl
  | y :: xs, u :: us, .cons r t, f => by
    rw [List.all_cons, Bool.and_eq_true] at f
    rw [List.any_cons, List.any_cons, eqU_of r f.1, any_eqU t f.2]
theorem mem_eqAt {A : Around} {s : Shared} {x : V} {v : Value} (rx : RelV x v) (fx : flatV x = true) : ∀ {xs : List V} {us : List Value}, Vals xs us → xs.all flatV = true → ∀ u ∈ us, SeqAt.EqAt A s u v (eqU x u)
  | _, _, .nil, _ => fun u hu => by cases hu
  | y :: xs, u :: us, .cons r t, f => fun u' hu => by
    rw [List.all_cons, Bool.and_eq_true] at f
    rcases List.mem_cons.mp hu with rfl | hu
    · rw [eqU_of r f.1]; exact eqAt_V r rx f.1 fx
    · exact mem_eqAt rx fx t f.2 u' hu
def inV (x : V) (xs : List V) : Bool := xs.any fun y => eqV y x
def rIn (K : W.Frag) (neg : Bool) : R2 := fun x y H Q => ∃ p xs, y = .ref p ∧ (SqL K H p xs ∨ SqT K H p xs) ∧ flatV x = true ∧ xs.all flatV = true ∧ Q (.bl (if neg then !inV x xs else inV x xs)) H
theorem op_in_seq : OpR X (compareOp .In) (rIn X.K false) := by
  intro pins s σ H x y v u Q I rx ry h
  obtain ⟨p, xs, rfl, hq, fx, fs, q⟩ := h
  cases ry
  rcases hq with hq | hq
  · obtain ⟨its, r, pl, hz⟩ := I.list hq
    refine SeqAt.in_listAt (eqU x) pl.isList (fun w hw => mem_eqAt rx fx r fs w (by simpa using hw)) ⟨.bl _, H, I, rfl, ?_⟩
    rw [show its.toArray.any (eqU x) = its.any (eqU x) by simp, any_eqU r fs]
    exact q
  · obtain ⟨its, r, pl, hz⟩ := I.tuple hq
    refine SeqAt.in_tupleAt (eqU x) pl (fun w hw => mem_eqAt rx fx r fs w (by simpa using hw)) ⟨.bl _, H, I, rfl, ?_⟩
    rw [show its.toArray.any (eqU x) = its.any (eqU x) by simp, any_eqU r fs]
    exact q
theorem op_notIn_seq : OpR X (compareOp .NotIn) (rIn X.K true) := by
  intro pins s σ H x y v u Q I rx ry h
  obtain ⟨p, xs, rfl, hq, fx, fs, q⟩ := h
  cases ry
  rcases hq with hq | hq
  · obtain ⟨its, r, pl, hz⟩ := I.list hq
    refine SeqAt.notIn_listAt (eqU x) pl.isList (fun w hw => mem_eqAt rx fx r fs w (by simpa using hw)) ⟨.bl _, H, I, rfl, ?_⟩
    rw [show its.toArray.any (eqU x) = its.any (eqU x) by simp, any_eqU r fs]
    exact q
  · obtain ⟨its, r, pl, hz⟩ := I.tuple hq
    refine SeqAt.notIn_tupleAt (eqU x) pl (fun w hw => mem_eqAt rx fx r fs w (by simpa using hw)) ⟨.bl _, H, I, rfl, ?_⟩
    rw [show its.toArray.any (eqU x) = its.any (eqU x) by simp, any_eqU r fs]
    exact q
theorem call_len_seq : CallR X (.builtin "len") (fun xs H Q => ∃ p ys, xs = [.ref p] ∧ (SqL X.K H p ys ∨ SqT X.K H p ys) ∧ Q (.int ys.length) H) := by
  intro pins s σ H xs us Q I r h
  obtain ⟨p, ys, rfl, hq, q⟩ := h
  obtain ⟨u, rfl, rx⟩ := vals1 r
  cases rx
  have hn := line63
  rcases hq with hq | hq
  · obtain ⟨its, r', pl, hz⟩ := I.list hq
    have hlen := r'.length
    exact Calls.call_len_list pl.isList (by simp only [List.size_toArray] <;> omega) ⟨.int ys.length, H, I.tok _, ⟨s.toks + 1, by rw [List.size_toArray, hlen]⟩, q⟩
  · obtain ⟨its, r', pl, hz⟩ := I.tuple hq
    have hlen := r'.length
    exact len_tuple pl (by simp only [List.size_toArray] <;> omega) ⟨.int ys.length, H, I.tok _, ⟨s.toks + 1, by rw [List.size_toArray, hlen]⟩, q⟩
theorem call_len_str : CallR X (.builtin "len") (fun xs H Q => ∃ z, xs = [.str z] ∧ z.length ≤ sizeLine ∧ Q (.int z.length) H) := by
  intro pins s σ H xs us Q I r h
  obtain ⟨z, rfl, hz, q⟩ := h
  obtain ⟨u, rfl, t, rfl⟩ := vals1 r
  have hn := line63
  exact len_str (by omega) ⟨.int z.length, H, I.tok _, ⟨_, rfl⟩, q⟩
theorem call_list_of : CallR X (.type "list") (fun xs H Q => ∃ p ys, xs = [.ref p] ∧ (SqL X.K H p ys ∨ SqT X.K H p ys) ∧ ∀ l, H l = none → Q (.ref l) (upd H l (.lst ys))) := by
  intro pins s σ H xs us Q I r h
  obtain ⟨p, ys, rfl, hq, q⟩ := h
  obtain ⟨u, rfl, rx⟩ := vals1 r
  cases rx
  have fin : ∀ (its : List Value), Vals ys its → ys.length ≤ sizeLine → ∀ (h' : Heap) (c' : Nat), (∀ b o', s.heap.get? b = some o' → h'.get? b = some o') →
      h'.get? s.heap.objs.size = some { cls := .type "list", dict := none, data := .seq its.toArray c', slots := #[] } → EP X pins σ Q (.ref s.heap.objs.size) { s with heap := h' } := fun its r' hz h' c' kp e =>
    ⟨.ref s.heap.objs.size, _, I.laid (t' := s.toks) kp (Nat.le_refl _) (show ObjOk X.prog X.w _ h' _ (.lst ys) from ⟨hz, its, c', r', e⟩), rfl, q _ (I.hok.fresh (Nat.le_refl _))⟩
  rcases hq with hq | hq
  · obtain ⟨its, r', pl, hz⟩ := I.list hq
    have hlen := r'.length
    obtain ⟨o, ho, hc, n, hd⟩ := pl.isList
    exact call_list_seq p (.inl rfl) ho hc hd (fun h' c' kp e => fin its r' hz h' c' kp e) (by simp only [List.size_toArray] <;> omega)
  · obtain ⟨its, r', pl, hz⟩ := I.tuple hq
    have hlen := r'.length
    obtain ⟨o, ho, hc, n, hd⟩ := pl
    exact call_list_seq p (.inr rfl) ho hc hd (fun h' c' kp e => fin its r' hz h' c' kp e) (by simp only [List.size_toArray] <;> omega)
theorem call_tuple_of : CallR X (.type "tuple") (fun xs H Q => ∃ p ys, xs = [.ref p] ∧ ((SqL X.K H p ys ∧ ∀ l, H l = none → Q (.ref l) (upd H l (.tup ys))) ∨ (SqT X.K H p ys ∧ Q (.ref p) H))) := by
  intro pins s σ H xs us Q I r h
  obtain ⟨p, ys, rfl, h⟩ := h
  obtain ⟨u, rfl, rx⟩ := vals1 r
  cases rx
  rcases h with ⟨hq, q⟩ | ⟨hq, q⟩
  · obtain ⟨its, r', pl, hz⟩ := I.list hq
    have hlen := r'.length
    refine call_tuple_list pl.isList (fun h' kp => ?_) (by simp only [List.size_toArray] <;> omega)
    have I1 : Inv X pins σ H { s with heap := h' } := I.kept (t' := s.toks) kp
    have I2 : Inv X pins σ (upd H h'.objs.size (.tup ys)) { s with heap := h'.push { cls := .type "tuple", data := .seq its.toArray } } :=
      I1.laid (t' := s.toks) (fun b o e => Heap.get?_push_of_some _ e) (Nat.le_refl _) (show ObjOk X.prog X.w _ _ _ (.tup ys) from ⟨hz, its, r', IsTup.new _ _⟩)
    exact ⟨.ref h'.objs.size, _, I2, rfl, q _ (I1.hok.fresh (Nat.le_refl _))⟩
  · obtain ⟨its, r', pl, hz⟩ := I.tuple hq
    exact call_tuple_same pl ⟨.ref p, H, I, rfl, q⟩
def tyV (K : W.Frag) (T : String) (x : V) (H : Hp) : Prop := match x with
  | .str _ => T = "str"
  | .int _ => T = "int"
  | .ref p => (T = "list" ∧ ∃ xs, SqL K H p xs) ∨ (T = "tuple" ∧ ∃ o, K.lookup p = some o ∧ o.cls = .type "tuple" ∧ o.dict = none) ∨
      (T = "dict" ∧ ((∃ kvs, H p = some (.dK kvs)) ∨ ∃ kvs, H p = some (.dT kvs))) ∨ (T = "set" ∧ ∃ S n, H p = some (.set S n))
  | _ => False
theorem tyV_is {pins : List (Addr × Obj)} {σ : St} {H : Hp} {s : Shared} {T : String} {x : V} {v : Value} (I : Inv X pins σ H s) (r : RelV x v) (ty : tyV X.K T x H) :
    s.TypeIs v T ∧ ∀ a, v = .ref a → ∃ ob, s.heap.get? a = some ob ∧ ob.dict = none := by
  cases x with
  | str z =>
    obtain ⟨t, rfl⟩ := r
    cases (show T = "str" from ty)
    exact ⟨typeIs_str s z t, fun _ e => nomatch e⟩
  | int i =>
    obtain ⟨t, rfl⟩ := r
    cases (show T = "int" from ty)
    exact ⟨typeIs_int s i t, fun _ e => nomatch e⟩
  | ref p =>
    cases r
    rcases ty with ⟨rfl, xs, hq⟩ | ⟨rfl, o, hk, hc, hd⟩ | ⟨rfl, hk⟩ | ⟨rfl, S, n, hk⟩
    · obtain ⟨its, _, pl, _⟩ := I.list hq
      refine ⟨pl.isList.typeIs, fun a e => ?_⟩
      cases e
      obtain ⟨o, n, e, c, hd, _⟩ := pl
      exact ⟨o, e, hd⟩
    · refine ⟨⟨o, I.kIn p o hk, hc⟩, fun a e => ?_⟩
      cases e
      exact ⟨o, I.kIn _ o hk, hd⟩
    · have z : ∃ o, s.heap.get? p = some o ∧ o.ExactDict := by
        rcases hk with ⟨kvs, hk⟩ | ⟨kvs, hk⟩
        · obtain ⟨_, _, _, _, o, _, _, e, ex, _⟩ := I.hok p _ hk
          exact ⟨o, e, ex⟩
        · obtain ⟨_, _, _, _, o, _, _, e, ex, _⟩ := I.hok p _ hk
          exact ⟨o, e, ex⟩
      obtain ⟨o, e, ex⟩ := z
      refine ⟨⟨o, e, ex.1⟩, fun a e2 => ?_⟩
      cases e2
      exact ⟨o, e, ex.2.1⟩
    · obtain ⟨o, _, _, _, e, ex, _⟩ := I.hok p _ hk
      refine ⟨⟨o, e, ex.1⟩, fun a e2 => ?_⟩
      cases e2
      exact ⟨o, e, ex.2.1⟩
  | _ => exact False.elim ty
def tBM0 (K : W.Frag) (T : String) (r : V → List V → Hp → VK → Prop) (to : TE) : TE := fun σ H Q => to σ H fun x H1 => tyV K T x H1 ∧ r x [] H1 Q
def tBM (K : W.Frag) (T : String) (r : V → List V → Hp → VK → Prop) (to : TE) (t : TA) : TE := fun σ H Q => to σ H fun x H1 => tyV K T x H1 ∧ t σ H1 fun xs H2 => r x xs H2 Q
variable {o e : Expr} {es : List Expr} {to : TE} {t : TA} {name : Str} {apos cpos : Pos} {T id : String} {r : V → List V → Hp → VK → Prop}
theorem pe_bm0 (pa : PlainAttrs T) (slot : Slot T name id) (hty : typeOf (.builtin id) = pure (.type "method_descriptor")) (hm : MtR X id r) (ho : PE X o to)
    (hbase : attributeBase o name X.env (eval o X.env) = eval o X.env := by rfl) (hline : (apos.endLine == cpos.line) = true := by rfl) : PE X (.Call (.Attribute o name apos) [] [] cpos) (tBM0 X.K T r to) := by
  intro pins s σ H Q I h
  refine wpAny_Call_method0_late hbase hline (thn (ho pins s σ H _ I h) fun v s1 ⟨x, H1, I1, r1, ty, q1⟩ => ?_)
  obtain ⟨h1, h2⟩ := tyV_is I1 r1 ty
  exact ⟨T, id, pa, slot, hty, h1, h2, Calls.callWith_builtin rfl (PySem.evalArgs_none (hm pins s1 σ H1 x [] v [] Q I1 r1 .nil q1))⟩
theorem pe_bm (pa : PlainAttrs T) (slot : Slot T name id) (hty : typeOf (.builtin id) = pure (.type "method_descriptor")) (hm : MtR X id r) (ho : PE X o to) (ha : PA X (e :: es) t)
    (hbase : attributeBase o name X.env (eval o X.env) = eval o X.env := by rfl)
    (hfew : ((backTo cpos (starEach (e :: es) X.env)).all (fun x => !x.1) && (backToKw cpos (keywordEach [] X.env)).all (fun x => x.1.isSome)
      && decide ((e :: es).length + ([] : List Keyword).length + (if ([] : List Keyword).isEmpty then 0 else 1) < 30)) = true := by rfl)
    (hline : (apos.endLine == cpos.line) = true := by rfl) (hs : starEach (e :: es) X.env = (false, eval e X.env) :: starEach es X.env := by rfl) (hplain : (backTo cpos (starEach es X.env)).any (·.1) = false := by rfl) :
    PE X (.Call (.Attribute o name apos) (e :: es) [] cpos) (tBM X.K T r to t) := by
  intro pins s σ H Q I h
  refine wpAny_Call_method_late hbase hfew hline rfl (thn (ho pins s σ H _ I h) fun v s1 ⟨x, H1, I1, r1, ty, q1⟩ => ?_)
  obtain ⟨h1, h2⟩ := tyV_is I1 r1 ty
  refine ⟨T, id, pa, slot, hty, h1, h2, ?_⟩
  have hA := ha cpos pins s1 σ H1 _ I1 q1
  rw [hs] at hA ⊢
  refine Calls.callWith_builtin (by show (false || (backTo cpos (starEach es X.env)).any (·.1)) = false; rw [hplain] <;> rfl) (Calls.evalArgs_plain ?_)
  exact thn hA fun us s2 ⟨vs, H2, I2, r2, q2⟩ => hm pins s2 σ H2 x vs v us Q I2 r1 r2 q2
/- xs.append(e), list.index on a module's tuple .. are MtR facts of 06m -/
end
end L2
namespace L2
open PySem PySem.Spec PyProof.Rows
def MtM (X : Cx) (id : String) (r : V → List V → Hp → VK → Prop) : Prop :=
  ∀ (pins : List (Addr × Obj)) (s : Shared) (σ : St) (H : Hp) (x : V) (xs : List V) (v : Value) (us : List Value) (Q : VK), Inv X pins σ H s → RelV x v → Vals xs us → r x xs H Q →
    wpAny (model X.prog X.w) X.A (call (.builtin id) (v :: us)) (EP X pins σ Q) X.xe s
theorem Vals.one : ∀ {x : V} {us : List Value}, Vals [x] us → ∃ u, us = [u] ∧ RelV x u
  | _, _, .cons r .nil => ⟨_, rfl, r⟩
theorem Vals.zero : ∀ {us : List Value}, Vals [] us → us = []
  | _, .nil => rfl
theorem Vals.dropLast {xs : List V} {us : List Value} (h : Vals xs us) : Vals xs.dropLast us.dropLast := by
  induction h with
  | nil => exact .nil
  | cons r t ih =>
    cases t with
    | nil => exact .nil
    | cons q t' => exact .cons r ih
theorem Vals.eraseIdx : ∀ {xs : List V} {us : List Value} (i : Nat), Vals xs us → Vals (xs.eraseIdx i) (us.eraseIdx i)
  | _, _, _, .nil => .nil
  | _, _, 0, .cons _ t => t
  | _, _, i + 1, .cons r t => .cons r (Vals.eraseIdx i t)
theorem Vals.reverse {xs : List V} {us : List Value} (h : Vals xs us) : Vals xs.reverse us.reverse := by
  induction h with
  | nil => exact .nil
  | cons r t ih => rw [List.reverse_cons, List.reverse_cons]; exact Vals.append ih (.cons r .nil)
theorem erase_last {α : Type} (l : List α) : l.eraseIdx (l.length - 1) = l.dropLast := by
  induction l with
  | nil => rfl
  | cons a r ih =>
    cases r with
    | nil => rfl
    | cons b r =>
      have e : (a :: b :: r).length - 1 = ((b :: r).length - 1) + 1 := by
        have h1 : (a :: b :: r).length = r.length + 2 := rfl
        have h2 : (b :: r).length = r.length + 1 := rfl
        omega
      rw [e, List.eraseIdx_cons_succ, ih]
      all_goals rfl
theorem len_erase {α : Type} : ∀ (l : List α) (i : Nat), (l.eraseIdx i).length ≤ l.length
  | [], _ => Nat.le_refl _
  | _ :: _, 0 => Nat.le_succ _
  | _ :: r, i + 1 => Nat.succ_le_succ (len_erase r i)
section
variable {X : Cx} {pins : List (Addr × Obj)} {σ : St} {H : Hp} {s : Shared} {l b : Addr} {xs ys zs : List V}
theorem Inv.lset {its its' : List Value} {n : Nat} {f : Array Value → Array Value} {t' : Nat} (I : Inv X pins σ H s) (hH : H l = some (.lst xs))
    (e : s.heap.get? l = some { cls := .type "list", data := .seq its.toArray n }) (hf : f its.toArray = its'.toArray) (hv : Vals ys its') (hz : ys.length ≤ sizeLine) :
    Inv X pins σ (upd H l (.lst ys)) { s with heap := s.heap.update l (Obj.mapSeq f), toks := t' } := by
  have q := PySem.IsL.update e f
  rw [hf] at q
  refine I.write (x := l) (e := l) (by rw [hH]; exact trivial) (.inl rfl) (fun b' u hb hu => (Heap.get?_update_other s.heap (Obj.mapSeq f) (Ne.symm hb)).trans hu) ⟨_, q⟩ ?_
  exact ⟨hz, its', _, hv, q⟩
theorem Inv.lnew {its : List Value} {t' : Nat} (I : Inv X pins σ H s) (hv : Vals ys its) (hz : ys.length ≤ sizeLine) :
    Inv X pins σ (upd H s.heap.objs.size (.lst ys)) { s with heap := s.heap.push { cls := .type "list", data := .seq its.toArray }, toks := t' } :=
  I.laid (fun _ _ q => Heap.get?_push_of_some _ q) (Nat.le_refl _) ⟨hz, its, 0, hv, Heap.get?_push_size _ rfl⟩
theorem Inv.fresh (I : Inv X pins σ H s) : H s.heap.objs.size = none := I.hok.fresh (Nat.le_refl _)
theorem Inv.lstM (I : Inv X pins σ H s) (hH : H l = some (.lst xs)) : xs.length ≤ sizeLine ∧ ∃ (its : List Value) (n : Nat), Vals xs its ∧ xs.length = its.length ∧ s.heap.get? l = some { cls := .type "list", data := .seq its.toArray n } := by
  obtain ⟨z, its, n, r, e⟩ := I.hok l _ hH
  exact ⟨z, its, n, r, r.length, e⟩
theorem notLongL {n : Nat} (h : n ≤ sizeLine) : Builtin.List.listTooLong n = false := by
  unfold Builtin.List.listTooLong
  exact decide_eq_false (by omega)
end
section
variable {X : Cx}
def rAppend : V → List V → Hp → VK → Prop := fun x vs H Q => ∃ l xs y, x = .ref l ∧ vs = [y] ∧ H l = some (.lst xs) ∧ xs.length < sizeLine ∧ Q .non (upd H l (.lst (xs ++ [y])))
theorem mt_append : MtM X "list.append" rAppend := by
  intro pins s σ H x vs v us Q I rx rv h
  obtain ⟨l, xs, y, rfl, rfl, hH, hz, q⟩ := h
  cases rx
  obtain ⟨u, rfl, ru⟩ := rv.one
  obtain ⟨z, its, n, r, hl, e⟩ := I.lstM hH
  refine call_meets F.slot_list_append ⟨_, e, rfl⟩ F.entry_list_append (F.args_list_append_2 _ _) (PySem.list_append l its.toArray n u (by rw [List.size_toArray]; omega)) ⟨e, ?_⟩
  refine ⟨.non, _, I.lset (its' := its ++ [u]) hH e (by simp) (r.append (.cons ru .nil)) ?_, rfl, q⟩
  rw [List.length_append, List.length_singleton]
  omega
def rExtend : V → List V → Hp → VK → Prop := fun x vs H Q => ∃ l b xs zs, x = .ref l ∧ vs = [.ref b] ∧ H l = some (.lst xs) ∧ H b = some (.lst zs) ∧ xs.length + zs.length ≤ sizeLine ∧ Q .non (upd H l (.lst (xs ++ zs)))
theorem mt_extend : MtM X "list.extend" rExtend := by
  intro pins s σ H x vs v us Q I rx rv h
  obtain ⟨l, b, xs, zs, rfl, rfl, hH, hB, hz, q⟩ := h
  cases rx
  obtain ⟨u, rfl, ru⟩ := rv.one
  cases ru
  obtain ⟨z, its, n, r, hl, e⟩ := I.lstM hH
  obtain ⟨z2, its2, n2, r2, hl2, e2⟩ := I.lstM hB
  have hsz : its.toArray.size + its2.toArray.size ≤ sizeLine := by rw [List.size_toArray, List.size_toArray]; omega
  have hlong : ¬ (!its.toArray.isEmpty && Builtin.List.listTooLong (its.toArray.size + its2.toArray.size)) = true := by
    rw [notLongL hsz, Bool.and_false]
    exact Bool.false_ne_true
  refine call_meets F.slot_list_extend ⟨_, e, rfl⟩ F.entry_list_extend (F.args_list_extend_2 _ _)
    (AutoSeq1.list_extend_list_list_0 l its.toArray n b its2.toArray n2 hlong (by rw [List.size_toArray]; omega) (by omega)) ⟨e, e2, ?_⟩
  refine ⟨.non, _, I.lset (its' := its ++ its2) hH e (by simp) (r.append r2) ?_, rfl, q⟩
  rw [List.length_append]
  omega
def rPop : V → List V → Hp → VK → Prop := fun x vs H Q => ∃ l xs y, x = .ref l ∧ vs = [] ∧ H l = some (.lst xs) ∧ xs[xs.length - 1]? = some y ∧ Q y (upd H l (.lst xs.dropLast))
theorem mt_pop : MtM X "list.pop" rPop := by
  intro pins s σ H x vs v us Q I rx rv h
  obtain ⟨l, xs, y, rfl, rfl, hH, hy, q⟩ := h
  cases rx
  have hus := rv.zero
  subst hus
  obtain ⟨z, its, n, r, hl, e⟩ := I.lstM hH
  obtain ⟨u, hu, ru⟩ := r.get hy
  have hy' : its.toArray[its.toArray.size - 1]? = some u := by
    show its.toArray[its.length - 1]? = some u
    rw [← Array.getElem?_toList, ← hl]
    exact hu
  refine call_meets F.slot_list_pop ⟨_, e, rfl⟩ F.entry_list_pop (F.args_list_pop_1 _) (MeetsSeq.list_pop_last l its.toArray n u hy' (by rw [List.size_toArray]; omega)) ⟨e, ?_⟩
  refine ⟨y, _, I.lset (its' := its.dropLast) hH e ?_ r.dropLast ?_, ru, q⟩
  · show its.toArray.eraseIdxIfInBounds (its.toArray.size - 1) = its.dropLast.toArray
    rw [List.size_toArray, List.eraseIdxIfInBounds_toArray, erase_last]
  · rw [List.length_dropLast]
    omega
def rPopAt : V → List V → Hp → VK → Prop := fun x vs H Q => ∃ l xs i k y, x = .ref l ∧ vs = [.int i] ∧ H l = some (.lst xs) ∧ -(2 ^ 63) ≤ i ∧ i < 2 ^ 63 ∧ seqIndex? i xs.length = some k ∧ xs[k]? = some y ∧ Q y (upd H l (.lst (xs.eraseIdx k)))
theorem mt_popAt : MtM X "list.pop" rPopAt := by
  intro pins s σ H x vs v us Q I rx rv h
  obtain ⟨l, xs, i, k, y, rfl, rfl, hH, h1, h2, hk, hy, q⟩ := h
  cases rx
  obtain ⟨u, rfl, ru⟩ := rv.one
  obtain ⟨t, rfl⟩ := ru
  obtain ⟨z, its, n, r, hl, e⟩ := I.lstM hH
  obtain ⟨w, hw, rw'⟩ := r.get hy
  refine call_meets F.slot_list_pop ⟨_, e, rfl⟩ F.entry_list_pop (F.args_list_pop_2 _ _)
    (MeetsSeq.list_pop_at l its.toArray n i t k w (fitsIndex_both h1 h2) (by rw [List.size_toArray, ← hl]; exact hk) (by rw [← Array.getElem?_toList]; exact hw) (by rw [List.size_toArray]; omega)) ⟨e, ?_⟩
  refine ⟨y, _, I.lset (its' := its.eraseIdx k) hH e ?_ (r.eraseIdx k) ?_, rw', q⟩
  · show its.toArray.eraseIdxIfInBounds k = (its.eraseIdx k).toArray
    rw [List.eraseIdxIfInBounds_toArray]
  · have := len_erase xs k
    omega
def rClear : V → List V → Hp → VK → Prop := fun x vs H Q => ∃ l xs, x = .ref l ∧ vs = [] ∧ H l = some (.lst xs) ∧ Q .non (upd H l (.lst []))
theorem mt_clear : MtM X "list.clear" rClear := by
  intro pins s σ H x vs v us Q I rx rv h
  obtain ⟨l, xs, rfl, rfl, hH, q⟩ := h
  cases rx
  have hus := rv.zero
  subst hus
  obtain ⟨z, its, n, r, hl, e⟩ := I.lstM hH
  refine call_meets F.slot_list_clear ⟨_, e, rfl⟩ F.entry_list_clear (F.args_list_clear_1 _) (AutoSeq1.list_clear_list_0 l its.toArray n (by rw [List.size_toArray]; omega)) ⟨e, ?_⟩
  exact ⟨.non, _, I.lset (its' := []) (ys := []) hH e rfl .nil (Nat.zero_le _), rfl, q⟩
def rCat : R2 := fun x y H Q => ∃ l b xs zs, x = .ref l ∧ y = .ref b ∧ H l = some (.lst xs) ∧ H b = some (.lst zs) ∧ xs.length + zs.length ≤ sizeLine ∧ ∀ p, H p = none → Q (.ref p) (upd H p (.lst (xs ++ zs)))
theorem op_cat : OpR X (binaryOp .Add) rCat := by
  intro pins s σ H x y v u Q I rx ry h
  obtain ⟨l, b, xs, zs, rfl, rfl, hH, hB, hz, q⟩ := h
  cases rx
  cases ry
  obtain ⟨z, its, n, r, hl, e⟩ := I.lstM hH
  obtain ⟨z2, its2, n2, r2, hl2, e2⟩ := I.lstM hB
  refine PySem.P.add_list e e2 ?_ (by rw [List.size_toArray, List.size_toArray]; omega)
  have ea : its.toArray ++ its2.toArray = (its ++ its2).toArray := by simp
  rw [ea]
  exact ⟨.ref _, _, I.lnew (t' := s.toks) (r.append r2) (by rw [List.length_append]; omega), rfl, q _ I.fresh⟩
end
section
variable {prog : Program} {w : World} {A : Around} {E : Value → Shared → Prop} {s : Shared}
end
section
variable {X : Cx}
end
end L2
namespace L2
open PySem PySem.Spec PyProof.Rows
section
variable {κ : Type} [DecidableEq κ]
def valV (kvs : List (κ × V)) (k : κ) : Option V := (kvs.find? fun kv => decide (kv.1 = k)).map (·.2)
def putK (kvs : List (κ × V)) (k : κ) (v : V) : List (κ × V) :=
  if (kvs.any fun kv => decide (kv.1 = k)) = true then kvs.map (fun kv => if kv.1 = k then (kv.1, v) else kv) else kvs ++ [(k, v)]
theorem valV_pos {p : κ × V} {r : List (κ × V)} {k : κ} (e : p.1 = k) : valV (p :: r) k = some p.2 := by simp [valV, List.find?_cons, e]
theorem valV_neg {p : κ × V} {r : List (κ × V)} {k : κ} (e : ¬ p.1 = k) : valV (p :: r) k = valV r k := by simp [valV, List.find?_cons, e]
theorem valV_any (k : κ) : ∀ kvs : List (κ × V), (kvs.any fun kv => decide (kv.1 = k)) = (valV kvs k).isSome
  | [] => rfl
  | p :: r => by
    rw [List.any_cons]
    by_cases e : p.1 = k
    · simp only [valV_pos e, decide_eq_true e, Bool.true_or, Option.isSome_some]
    · rw [valV_neg e, decide_eq_false e, Bool.false_or]; exact valV_any k r
theorem valV_map (k j : κ) (y : V) : ∀ kvs : List (κ × V), valV (kvs.map fun kv => if kv.1 = k then (kv.1, y) else kv) j = (valV kvs j).map fun x => if j = k then y else x
  | [] => rfl
  | p :: r => by
    have ih := valV_map k j y r
    rw [List.map_cons]
    by_cases h : p.1 = k
    · rw [if_pos h]
      by_cases e : p.1 = j
      · rw [valV_pos (p := (p.1, y)) e, valV_pos e, Option.map_some, if_pos (e.symm.trans h)]
      · rw [valV_neg (p := (p.1, y)) e, valV_neg e, ih]
    · rw [if_neg h]
      by_cases e : p.1 = j
      · rw [valV_pos (p := p) e, valV_pos e, Option.map_some, if_neg (fun z => h (e.trans z))]
      · rw [valV_neg (p := p) e, valV_neg e, ih]
theorem valV_snoc (k j : κ) (y : V) : ∀ kvs : List (κ × V), valV kvs k = none → valV (kvs ++ [(k, y)]) j = if j = k then some y else valV kvs j
  | [], _ => by
    by_cases e : k = j
    · rw [if_pos e.symm]; exact valV_pos (p := (k, y)) e
    · rw [if_neg (fun z => e z.symm)]; exact valV_neg (p := (k, y)) e
  | p :: r, hn => by
    rw [List.cons_append]
    have hk : ¬ p.1 = k := fun z => by rw [valV_pos z] at hn; cases hn
    rw [valV_neg hk] at hn
    have ih := valV_snoc k j y r hn
    by_cases e : p.1 = j
    · rw [valV_pos e, valV_pos e, if_neg (fun z => hk (e.trans z))]
    · rw [valV_neg e, valV_neg e, ih]
theorem valV_put (kvs : List (κ × V)) (k j : κ) (y : V) : valV (putK kvs k y) j = if j = k then some y else valV kvs j := by
  unfold putK
  by_cases a : (kvs.any fun kv => decide (kv.1 = k)) = true
  · rw [if_pos a, valV_map]
    rw [valV_any] at a
    by_cases e : j = k
    · obtain ⟨x, hx⟩ := Option.isSome_iff_exists.mp a
      rw [if_pos e, e, hx, Option.map_some, if_pos rfl]
    · rw [if_neg e]
      cases valV kvs j with
      | none => rfl
      | some x => rw [Option.map_some, if_neg e]
  · rw [if_neg a]
    refine valV_snoc k j y kvs ?_
    rw [valV_any] at a
    cases q : valV kvs k with
    | none => rfl
    | some x => rw [q] at a; exact (a rfl).elim
theorem length_putK (kvs : List (κ × V)) (k : κ) (v : V) : (putK kvs k v).length ≤ kvs.length + 1 := by
  unfold putK
  split
  · rw [List.length_map]; omega
  · rw [List.length_append, List.length_cons, List.length_nil]; omega
theorem putK_new {kvs : List (κ × V)} {k : κ} (v : V) (h : valV kvs k = none) : putK kvs k v = kvs ++ [(k, v)] := by
  unfold putK
  rw [valV_any, h]
  exact if_neg (by decide)
theorem RelO.isSome_eq {o : Option V} {u : Option Value} (r : RelO o u) : o.isSome = u.isSome := by
  cases o with
  | none => cases u with
    | none => rfl
    | some _ => exact (show False from r).elim
  | some _ => cases u with
    | none => exact (show False from r).elim
    | some _ => rfl
theorem RelO.getD {o : Option V} {u : Option Value} {d : V} {d' : Value} (r : RelO o u) (rd : RelV d d') : RelV (o.getD d) (u.getD d') := by
  cases o with
  | none => cases u with
    | none => exact rd
    | some _ => exact (show False from r).elim
  | some _ => cases u with
    | none => exact (show False from r).elim
    | some _ => exact r
theorem KV.val {kvs : List (κ × V)} {vs : List (κ × Value)} (r : KV kvs vs) (k : κ) : RelO (valV kvs k) (valueAt vs k) := by
  unfold KV at r
  induction r with
  | nil => exact True.intro
  | @cons p q ps qs h t ih =>
    obtain ⟨h1, h2⟩ := h
    by_cases e : p.1 = k
    · have e' : q.1 = k := h1.symm.trans e
      have b : valueAt (q :: qs) k = some q.2 := by simp [valueAt, List.find?_cons, e']
      rw [valV_pos e, b]; exact h2
    · have e' : ¬ q.1 = k := fun z => e (h1.trans z)
      have b : valueAt (q :: qs) k = valueAt qs k := by simp [valueAt, List.find?_cons, e']
      rw [valV_neg e, b]; exact ih
theorem KV.any {kvs : List (κ × V)} {vs : List (κ × Value)} (r : KV kvs vs) (k : κ) : (kvs.any fun kv => decide (kv.1 = k)) = vs.any fun kv => decide (kv.1 = k) := by
  unfold KV at r
  induction r with
  | nil => rfl
  | cons h t ih => rw [List.any_cons, List.any_cons, ih, h.1]
theorem KV.repl {kvs : List (κ × V)} {vs : List (κ × Value)} (r : KV kvs vs) (k : κ) {y : V} {u : Value} (ry : RelV y u) :
    KV (kvs.map fun kv => if kv.1 = k then (kv.1, y) else kv) (vs.map fun kv => if kv.1 = k then (kv.1, u) else kv) := by
  unfold KV at r ⊢
  induction r with
  | nil => exact .nil
  | @cons p q ps qs h t ih =>
    rw [List.map_cons, List.map_cons]
    refine .cons ?_ ih
    obtain ⟨h1, h2⟩ := h
    by_cases e : p.1 = k
    · rw [if_pos e, if_pos (h1.symm.trans e)]; exact ⟨h1, ry⟩
    · rw [if_neg e, if_neg (fun z => e (h1.trans z))]; exact ⟨h1, h2⟩
theorem KV.put {kvs : List (κ × V)} {vs : List (κ × Value)} (r : KV kvs vs) (k : κ) {y : V} {u : Value} (ry : RelV y u) : KV (putK kvs k y) (stored vs k u) := by
  unfold putK stored
  rw [r.any k]
  by_cases e : (vs.any fun kv => decide (kv.1 = k)) = true
  · rw [if_pos e, if_pos e]; exact r.repl k ry
  · rw [if_neg e, if_neg e]; exact Paired.snoc r ⟨rfl, ry⟩
theorem KV.keys {kvs : List (κ × V)} {vs : List (κ × Value)} (r : KV kvs vs) : kvs.map (·.1) = vs.map (·.1) := by
  unfold KV at r
  induction r with
  | nil => rfl
  | cons h t ih => rw [List.map_cons, List.map_cons, ih, h.1]
theorem KV.length {kvs : List (κ × V)} {vs : List (κ × Value)} (r : KV kvs vs) : kvs.length = vs.length := Paired.length r
end
theorem kV_is {P : Program} {w : World} {k : Key} {u : Value} (r : RelV (kV k) u) : (mixKind P w).is k u = true := by
  cases k with
  | inl i => obtain ⟨t, e⟩ := (show ∃ t, u = Value.int i t from r); subst e; exact mixKind_int P w i t
  | inr x => obtain ⟨t, e⟩ := (show ∃ t, u = Value.str x t from r); subst e; exact mixKind_str P w x t
theorem items_are {P : Program} {w : World} : ∀ {ks : List Key} {us : List Value}, Vals (ks.map kV) us → ItemsAre (mixKind P w) ks us
  | [], _, r => by rw [List.map_nil] at r; cases r; exact .nil
  | k :: ks, _, r => by
    rw [List.map_cons] at r
    cases r with
    | cons h t => exact .cons (kV_is h) (items_are t)
abbrev KT (H : Hp) : List (List Key × V) → List (List Key × Addr × Value) → Prop := Paired fun p q => p.1 = q.1 ∧ H q.2.1 = some (.tup (p.1.map kV)) ∧ RelV p.2 q.2.2
theorem KT.val {H : Hp} {kvs : List (List Key × V)} {xs : List (List Key × Addr × Value)} (r : KT H kvs xs) (k : List Key) : RelO (valV kvs k) ((atKey xs k).map (·.2)) := by
  induction r with
  | nil => exact True.intro
  | @cons p q ps qs h t ih =>
    obtain ⟨h1, _, h2⟩ := h
    by_cases e : p.1 = k
    · have e' : q.1 = k := h1.symm.trans e
      have b : atKey (q :: qs) k = some q.2 := by simp [atKey, List.find?_cons, e']
      rw [valV_pos e, b]; exact h2
    · have e' : ¬ q.1 = k := fun z => e (h1.trans z)
      have b : atKey (q :: qs) k = atKey qs k := by simp [atKey, List.find?_cons, e']
      rw [valV_neg e, b]; exact ih
theorem KT.repl {H : Hp} {kvs : List (List Key × V)} {xs : List (List Key × Addr × Value)} (r : KT H kvs xs) (k : List Key) {y : V} {u : Value} (ry : RelV y u) :
    KT H (kvs.map fun kv => if kv.1 = k then (kv.1, y) else kv) (xs.map (putAt k u)) := by
  induction r with
  | nil => exact .nil
  | @cons p q ps qs h t ih =>
    rw [List.map_cons, List.map_cons]
    refine .cons ?_ ih
    obtain ⟨h1, h2, h3⟩ := h
    unfold putAt
    by_cases e : p.1 = k
    · rw [if_pos e, if_pos (h1.symm.trans e)]; exact ⟨h1, h2, ry⟩
    · rw [if_neg e, if_neg (fun z => e (h1.trans z))]; exact ⟨h1, h2, h3⟩
theorem KT.put {H : Hp} {kvs : List (List Key × V)} {xs : List (List Key × Addr × Value)} (r : KT H kvs xs) (k : List Key) {b : Addr} {y : V} {u : Value} (hb : H b = some (.tup (k.map kV))) (ry : RelV y u) :
    KT H (putK kvs k y) (storedH xs k b u) := by
  have e : (kvs.any fun kv => decide (kv.1 = k)) = (atKey xs k).isSome := by
    rw [valV_any, (r.val k).isSome_eq, Option.isSome_map]
  unfold putK storedH
  rw [e]
  by_cases q : (atKey xs k).isSome = true
  · rw [if_pos q, if_pos q]; exact r.repl k ry
  · rw [if_neg q, if_neg q]; exact Paired.snoc r ⟨rfl, hb, ry⟩
theorem KT.keeps {H H' : Hp} {kvs : List (List Key × V)} {xs : List (List Key × Addr × Value)} (r : KT H kvs xs) (ht : ∀ b ys, H b = some (.tup ys) → H' b = some (.tup ys)) : KT H' kvs xs :=
  Paired.mapP r fun _ _ z => ⟨z.1, ht _ _ z.2.1, z.2.2⟩
section
variable {P : Program} {w : World} {H : Hp} {h : Heap} {a : Addr}
theorem rd_of {u : HO} (ok : HOk P w H h) (e : Rd H a u) : ObjOk P w H h a u := e.ok ok
theorem dk_rd {kvs : List (Key × V)} (ok : HOk P w H h) (e : Rd H a (.dK kvs)) : kvs.length ≤ sizeLine ∧ (a == sysModules) = false ∧ ∃ vs, KV kvs vs ∧ h.DictOf (mixKind P w) a vs :=
  show ObjOk P w H h a (.dK kvs) from rd_of ok e
theorem dk_of {kvs : List (Key × V)} (ok : HOk P w H h) (e : H a = some (.dK kvs)) : kvs.length ≤ sizeLine ∧ (a == sysModules) = false ∧ ∃ vs, KV kvs vs ∧ h.DictOf (mixKind P w) a vs := dk_rd ok (.inl e)
theorem key_of {ks : List Key} (ok : HOk P w H h) (e : H a = some (.tup (ks.map kV))) : (tupleKind (mixKind P w)).is h ks a := by
  obtain ⟨_, its, r, o, h1, h2, n, h3⟩ := (show ObjOk P w H h a (.tup (ks.map kV)) from ok a _ e)
  exact ⟨o, its.toArray, n, h1, h2, h3, by simpa using items_are r⟩
theorem dt_rd {kvs : List (List Key × V)} (ok : HOk P w H h) (e : Rd H a (.dT kvs)) : kvs.length ≤ sizeLine ∧ (a == sysModules) = false ∧
    ∃ xs, KT H kvs xs ∧ h.DictOfH (tupleKind (mixKind P w)) a xs := by
  obtain ⟨z, y, xs, r, o, es, ep, h1, h2, h3, h4, h5⟩ := (show ObjOk P w H h a (.dT kvs) from rd_of ok e)
  refine ⟨z, y, xs, r, o, es, ep, h1, h2, h3, h4, fun x hx => ?_, h5⟩
  have all : ∀ {l : List (List Key × V)} {m : List (List Key × Addr × Value)}, KT H l m → ∀ x ∈ m, (tupleKind (mixKind P w)).is h x.1 x.2.1 := by
    intro l m q
    induction q with
    | nil => intro x hx; exact nomatch hx
    | @cons p q ps qs hq t ih =>
      intro x hx
      rcases List.mem_cons.mp hx with e | hx
      · subst e
        exact key_of ok (by rw [← hq.1]; exact hq.2.1)
      · exact ih x hx
  exact all r x hx
theorem dt_of {kvs : List (List Key × V)} (ok : HOk P w H h) (e : H a = some (.dT kvs)) : kvs.length ≤ sizeLine ∧ (a == sysModules) = false ∧
    ∃ xs, KT H kvs xs ∧ h.DictOfH (tupleKind (mixKind P w)) a xs := dt_rd ok (.inl e)
end
def DGet (H : Hp) (a : Addr) (y : V) (r : Option V) : Prop :=
  (∃ kvs k, Rd H a (.dK kvs) ∧ y = kV k ∧ r = valV kvs k) ∨ ∃ kvs k b, Rd H a (.dT kvs) ∧ y = .ref b ∧ H b = some (.tup (k.map kV)) ∧ r = valV kvs k
def DPut (H : Hp) (a : Addr) (y v : V) (H' : Hp) : Prop :=
  (∃ kvs k, H a = some (.dK kvs) ∧ y = kV k ∧ kvs.length < sizeLine ∧ H' = upd H a (.dK (putK kvs k v))) ∨
  ∃ kvs k b, H a = some (.dT kvs) ∧ y = .ref b ∧ H b = some (.tup (k.map kV)) ∧ kvs.length < sizeLine ∧ H' = upd H a (.dT (putK kvs k v))
theorem DGet.k {H : Hp} {a : Addr} {kvs : List (Key × V)} {k : Key} (e : H a = some (.dK kvs)) : DGet H a (kV k) (valV kvs k) := .inl ⟨kvs, k, .inl e, rfl, rfl⟩
theorem DPut.k {H : Hp} {a : Addr} {kvs : List (Key × V)} {k : Key} {v : V} (e : H a = some (.dK kvs)) (hl : kvs.length < sizeLine) : DPut H a (kV k) v (upd H a (.dK (putK kvs k v))) := .inl ⟨kvs, k, e, rfl, hl, rfl⟩
section
variable {X : Cx} {pins : List (Addr × Obj)} {σ : St} {H : Hp} {s : Shared} {a : Addr} {y v : V} {u r : Value} {o : Option V} {A : Around} {E : Value → Shared → Prop}
theorem Inv.big (I : Inv X pins σ H s) : sysModules < s.heap.objs.size := by
  have h : mainGlobals < s.heap.objs.size := (I.mod.glob.keeps I.bk).lt
  exact Nat.lt_trans (by decide) h
theorem d_getItem {Q : Value → Shared → Prop} (hu : A.units + 1 < cLine) (I : Inv X pins σ H s) (g : DGet H a y (some v)) (ry : RelV y u) (h : ∀ w' s', Inv X pins σ H s' → RelV v w' → Q w' s') :
    wpAny (model X.prog X.w) A (getItem (.ref a) u) Q E s := by
  rcases g with ⟨kvs, k, e, ey, l⟩ | ⟨kvs, k, b, e, ey, eb, l⟩
  · subst ey
    obtain ⟨z, hd, vs, rel, dd⟩ := dk_rd I.hok e
    obtain ⟨w', hw, rw'⟩ := RelO.some_of (v := v) (o := valueAt vs k) (by rw [l]; exact rel.val k)
    exact wpAny_getItem_of (kV_is ry) dd.mapOf hw (h w' _ (I.tok _) rw')
  · subst ey
    cases (show u = Value.ref b from ry)
    obtain ⟨z, hd, xs, rel, dd⟩ := dt_rd I.hok e
    obtain ⟨w', hw, rw'⟩ := RelO.some_of (v := v) (o := (atKey xs k).map (·.2)) (by rw [l]; exact rel.val k)
    obtain ⟨p, hp, hp2⟩ := Option.map_eq_some_iff.mp hw
    refine wpAny_getItem_heap (tupleKind_room_in1 hu) (key_of I.hok eb) dd hp ?_
    rw [hp2]
    exact h w' _ (I.tok _) rw'
theorem d_write {h' : Heap} {t' : Nat} {ob : HO} (I : Inv X pins σ H s) (mu : Mut (H a)) (hs : Heap.SameBut a s.heap h') (he : ∃ q, h'.get? a = some q) (new : ObjOk X.prog X.w (upd H a ob) h' a ob) :
    Inv X pins σ (upd H a ob) { s with heap := h', toks := t' } :=
  I.write (x := a) (e := a) mu (.inl rfl) (fun b q hb z => (hs.2 b hb).trans z) he new
theorem dk_new {P : Program} {w : World} {H' : Hp} {h' : Heap} {kvs : List (Key × V)} {vs : List (Key × Value)} (z : kvs.length ≤ sizeLine) (hd : (a == sysModules) = false) (rel : KV kvs vs) (dd : h'.DictOf (mixKind P w) a vs) :
    ObjOk P w H' h' a (.dK kvs) := ⟨z, hd, vs, rel, dd⟩
theorem d_setItem {H' : Hp} {Q : Unit → Shared → Prop} (hu : A.units + 1 < cLine) (I : Inv X pins σ H s) (g : DPut H a y v H') (ry : RelV y u) (rv : RelV v r) (h : ∀ s', Inv X pins σ H' s' → Q () s') :
    wpAny (model X.prog X.w) A (setItem (.ref a) u r) Q E s := by
  rcases g with ⟨kvs, k, e, ey, l, eH⟩ | ⟨kvs, k, b, e, ey, eb, l, eH⟩
  · subst ey eH
    obtain ⟨z, hd, vs, rel, dd⟩ := dk_of I.hok e
    have hz : vs.length ≤ sizeLine := by rw [← rel.length]; exact z
    have hl : (putK kvs k v).length ≤ sizeLine := by have := length_putK kvs k v; omega
    refine wpAny_setItem_pairs (hsz := hz) (kV_is ry) dd fun h' dd' hs => h _ ?_
    have he : ∃ q, h'.get? a = some q := let ⟨q, _, _, hq, _⟩ := dd'; ⟨q, hq⟩
    exact d_write I (by rw [e]; exact True.intro) hs he (dk_new hl hd (rel.put k rv) dd')
  · subst ey eH
    cases (show u = Value.ref b from ry)
    obtain ⟨z, hd, xs, rel, dd⟩ := dt_of I.hok e
    have hz : xs.length ≤ sizeLine := by rw [← Paired.length rel]; exact z
    have hl : (putK kvs k v).length ≤ sizeLine := by have := length_putK kvs k v; omega
    refine wpAny_setItem_heap (hsz := hz) (tupleKind_room_in1 hu) (key_of I.hok eb) dd fun h' dd' hs => h _ ?_
    obtain ⟨q, es, ep, hq, h2, h3, h4, _, h5⟩ := dd'
    refine d_write I (by rw [e]; exact True.intro) hs ⟨q, hq⟩ ⟨hl, hd, _, (rel.put k eb rv).keeps fun c ys ec => ?_, q, es, ep, hq, h2, h3, h4, h5⟩
    rw [upd_ne (ne_of ec e (fun z => nomatch z))]
    exact ec
end
section
variable {X : Cx} {pins : List (Addr × Obj)} {σ : St} {H : Hp} {s : Shared} {a : Addr} {kvs : List (Key × V)} {k : Key} {u : Value} {A : Around} {E : Value → Shared → Prop}
end
def NoSl (i : Expr) : Prop := ∀ ov iv, subscripted i false ov iv = operate [ov, iv] (getItem ov iv)
theorem subD_of {prog : Program} {w : World} {A : Around} {E : Value → Shared → Prop} {s : Shared} {env : Env} {value slice : Expr} {pos : Pos} {T id : String} {Q : Value → Shared → Prop}
    (hl : typeLookup (.type T) "__getitem__" = pure (some (.builtin id))) (hs : NoSl slice)
    (h : wpAny (model prog w) A (eval value env) (fun o s₁ => wpAny (model prog w) A (eval slice env) (fun i s₂ => s₂.TypeIs o T ∧ wpAny (model prog w) A (getItem o i) Q E s₂) E s₁) E s) :
    wpAny (model prog w) A (eval (.Subscript value slice pos) env) Q E s := by
  refine Subscript_ (wpAny_mono h (fun o s₁ h₁ => wpAny_mono h₁ (fun i s₂ h₂ => ?_) fun _ _ x => x) fun _ _ x => x)
  obtain ⟨hT, h₂⟩ := h₂
  unfold subscriptTail
  refine wpAny_bind ?_
  rw [getitemInPython_of_ne hT.not_modules]
  refine wpAny_bind (wpAny_specialOf hT hl ?_)
  have fin : wpAny (model prog w) A (subscripted slice false o i) (fun r s₃ => wpAny (model prog w) A (letTemporaryGo value o r >>= fun _ => pure r) Q E s₃) E s₂ := by
    rw [hs o i]
    exact wpAny_operating (wpAny_mono h₂ (fun r s₃ h₃ => wpAny_bind (wpAny_letTemporaryGo (wpAny_pure h₃))) fun _ _ x => x)
  first
    | exact wpAny_pure (wpAny_bind fin)
    | exact wpAny_bind (wpAny_pure (wpAny_bind fin))
    | exact wpAny_bind fin
theorem dict_typeIs {X : Cx} {pins : List (Addr × Obj)} {σ : St} {H : Hp} {s : Shared} {a : Addr} {y : V} {o : Option V} (I : Inv X pins σ H s) (g : DGet H a y o) : s.TypeIs (.ref a) "dict" := by
  rcases g with ⟨kvs, k, e, _, _⟩ | ⟨kvs, k, b, e, _, _, _⟩
  · obtain ⟨_, _, vs, _, dd⟩ := dk_rd I.hok e
    exact dd.typeIs
  · obtain ⟨_, _, xs, _, dd⟩ := dt_rd I.hok e
    exact dd.typeIs
def tDGet (td ty : TE) : TE := fun σ H Q => td σ H fun x H1 => ty σ H1 fun y H2 => ∃ a v, x = .ref a ∧ DGet H2 a y (some v) ∧ Q v H2
section
variable {X : Cx} {o i e value : Expr} {pos pos' tpos : Pos} {td ty tv : TE}
theorem pe_dget (hu : X.A.units + 1 < cLine) (ho : PE X o td) (hi : PE X i ty) (hs : NoSl i) : PE X (.Subscript o i pos) (tDGet td ty) := by
  intro pins s σ H Q I h
  refine subD_of PySem.F.slot_dict_getitem.lookup hs (thn (ho pins s σ H _ I h) fun u s1 ⟨x, H1, I1, rx, q1⟩ => thn (hi pins s1 σ H1 _ I1 q1) fun iv s2 ⟨y, H2, I2, ry, a, v, ex, g, q2⟩ => ?_)
  subst ex
  obtain rfl : u = Value.ref a := rx
  exact ⟨dict_typeIs I2 g, d_getItem hu I2 g ry fun w' s3 I3 rw' => ⟨v, H2, I3, rw', q2⟩⟩
end
theorem dk_empty {P : Program} {w : World} {H : Hp} (h : Heap) (hb : sysModules < h.objs.size) : ObjOk P w H (h.push { cls := .type "dict", data := .dict #[] }) h.objs.size (.dK []) :=
  ⟨Nat.zero_le _, beq_eq_false_iff_ne.mpr (Ne.symm (Nat.ne_of_lt hb)), [], .nil, Heap.DictOf.new h⟩
def tDNewK : TE := fun _ H Q => ∀ p, H p = none → Q (.ref p) (upd H p (.dK []))
section
variable {X : Cx} {pos : Pos}
theorem pe_dnewK : PE X (.Dict [] [] pos) tDNewK := fun pins s σ H Q I h =>
  wpAny_Dict_empty ⟨.ref s.heap.objs.size, _, I.laid (a := s.heap.objs.size) (o := .dK []) (t' := s.toks) (fun _ _ q => Heap.get?_push_of_some _ q) (Nat.le_refl _) (dk_empty s.heap I.big), rfl, h _ (I.hok.fresh (Nat.le_refl _))⟩
end
def mergeK (kvs more : List (Key × V)) : List (Key × V) := more.foldl (fun acc kv => putK acc kv.1 kv.2) kvs
theorem length_mergeK : ∀ (more kvs : List (Key × V)), (mergeK kvs more).length ≤ kvs.length + more.length
  | [], kvs => by show kvs.length ≤ kvs.length + 0; omega
  | p :: r, kvs => by
    have h1 := length_mergeK r (putK kvs p.1 p.2)
    have h2 := length_putK kvs p.1 p.2
    show (mergeK (putK kvs p.1 p.2) r).length ≤ _
    rw [List.length_cons]; omega
structure M2 (X : Cx) (o : Expr) (m : Str) (apos : Pos) (e f : Expr) (cpos : Pos) : Prop where
  base : attributeBase o m X.env (eval o X.env) = eval o X.env
  few : ((backTo cpos (starEach [e, f] X.env)).all (fun x => !x.1) && (backToKw cpos (keywordEach [] X.env)).all (fun x => x.1.isSome)
    && decide (([e, f] : List Expr).length + ([] : List Keyword).length + (if ([] : List Keyword).isEmpty then 0 else 1) < 30)) = true
  line : (apos.endLine == cpos.line) = true
  trees : backTo cpos (starEach [e, f] X.env) = [(false, eval e X.env), (false, eval f X.env)]
def IsD (H : Hp) (a : Addr) : Prop := (∃ kvs, Rd H a (.dK kvs)) ∨ ∃ kvs, Rd H a (.dT kvs)
theorem isD_at {X : Cx} {pins : List (Addr × Obj)} {σ : St} {H : Hp} {s : Shared} {a : Addr} (I : Inv X pins σ H s) (d : IsD H a) :
    s.TypeIs (.ref a) "dict" ∧ (∀ b, Value.ref a = .ref b → ∃ ob, s.heap.get? b = some ob ∧ ob.dict = none) ∧ (a == sysModules) = false := by
  rcases d with ⟨kvs, e⟩ | ⟨kvs, e⟩
  · obtain ⟨_, hd, vs, _, dd⟩ := dk_rd I.hok e
    refine ⟨dd.typeIs, fun b q => ?_, hd⟩
    cases q
    obtain ⟨ob, _, _, h1, h2, _⟩ := dd
    exact ⟨ob, h1, h2.2.1⟩
  · obtain ⟨_, hd, xs, _, dd⟩ := dt_rd I.hok e
    refine ⟨dd.typeIs, fun b q => ?_, hd⟩
    cases q
    obtain ⟨ob, _, _, h1, h2, _⟩ := dd
    exact ⟨ob, h1, h2.2.1⟩
section
variable {X : Cx} {pins : List (Addr × Obj)} {σ : St} {H : Hp} {s : Shared} {a : Addr} {y d : V} {u r : Value} {o : Option V} {A : Around} {E : Value → Shared → Prop}
theorem d_get2 {Q : Value → Shared → Prop} (hu : A.units + 1 < cLine) (I : Inv X pins σ H s) (g : DGet H a y o) (ry : RelV y u) (rd : RelV d r) (h : ∀ w' s', Inv X pins σ H s' → RelV (o.getD d) w' → Q w' s') :
    wpAny (model X.prog X.w) A (call (.builtin "dict.get") [.ref a, u, r]) Q E s := by
  rcases g with ⟨kvs, k, e, ey, l⟩ | ⟨kvs, k, b, e, ey, eb, l⟩
  · subst ey
    obtain ⟨z, hd, vs, rel, dd⟩ := dk_rd I.hok e
    refine call_meetsIn PySem.F.slot_dict_get dd.typeIs PySem.F.entry_dict_get (PySem.F.args_dict_get_3 _ _ _) (meets_dict_get_default (mixKind X.prog X.w) a (kV_is ry) hd r) ⟨_, dd.mapOf, h _ _ (I.tok _) ?_⟩
    rw [l]
    exact (rel.val k).getD rd
  · subst ey
    cases (show u = Value.ref b from ry)
    obtain ⟨z, hd, xs, rel, dd⟩ := dt_rd I.hok e
    refine call_meetsIn PySem.F.slot_dict_get dd.typeIs PySem.F.entry_dict_get (PySem.F.args_dict_get_3 _ _ _) (meetsH_dict_get_default (tupleKind (mixKind X.prog X.w)) a b hd r) ⟨tupleKind_room_in1 hu, k, xs, key_of I.hok eb, dd, h _ _ (I.tok _) ?_⟩
    rw [l]
    exact (rel.val k).getD rd
end
def tDGet2 (td ty tx : TE) : TE := fun σ H Q => td σ H fun x H1 => ∃ a, x = .ref a ∧ IsD H1 a ∧ ty σ H1 fun y H2 => tx σ H2 fun z H3 => ∃ o, DGet H3 a y o ∧ Q (o.getD z) H3
section
variable {X : Cx} {o e f : Expr} {apos cpos : Pos} {td ty tx : TE}
theorem pe_dget2 (hu : X.A.units + 1 < cLine) (ho : PE X o td) (he : PE X e ty) (hf : PE X f tx) (m : M2 X o "get" apos e f cpos) : PE X (.Call (.Attribute o "get" apos) [e, f] [] cpos) (tDGet2 td ty tx) := by
  intro pins s σ H Q I h
  refine wpAny_Call_method m.base m.few m.line PySem.F.plainAttrs_dict PySem.F.slot_dict_get PySem.F.type_dict_get (thn (ho pins s σ H _ I h) fun u s1 ⟨x, H1, I1, rx, a, ex, d, q1⟩ => ?_)
  subst ex
  obtain rfl : u = Value.ref a := rx
  obtain ⟨t1, t2, _⟩ := isD_at I1 d
  refine ⟨t1, t2, ?_⟩
  rw [m.trees]
  refine Calls.callWith_builtin rfl (Calls.evalArgs_plain (Calls.spliced_cons (thn (he pins s1 σ H1 _ I1 q1) fun iv s2 ⟨y, H2, I2, ry, q2⟩ =>
    Calls.spliced_cons (thn (hf pins s2 σ H2 _ I2 q2) fun fv s3 ⟨z, H3, I3, rz, ov, g, q3⟩ => Calls.spliced_nil ?_))))
  exact d_get2 hu I3 g ry rz fun w' s4 I4 rw' => ⟨_, H3, I4, rw', q3⟩
end
section
variable {X : Cx} {pins : List (Addr × Obj)} {σ : St} {H : Hp} {s : Shared} {a : Addr} {kvs : List (Key × V)} {A : Around} {E : Value → Shared → Prop}
end
section
variable {X : Cx} {pins : List (Addr × Obj)} {σ : St} {H : Hp} {s : Shared} {a : Addr} {y : V} {u : Value} {A : Around} {E : Value → Shared → Prop}
end
end L2
namespace Att
open PySem PySem.W PySem.Calls PyProof.Rows
theorem ints_of_wellAll {P : Params} {h : Heap} : ∀ (ns : List Int) (vs : List Value), WellAll P h vs (ns.map WData.int) → IntsAre vs ns := by
  intro ns
  induction ns with
  | nil =>
    intro vs w
    rw [List.map_nil] at w
    cases w
    exact .nil
  | cons n ns ih =>
    intro vs w
    rw [List.map_cons] at w
    cases w with
    | cons a b =>
      cases a
      exact .cons _ _ (ih _ b)
theorem script_of {l : OpenLaw} {n : Nat} (hn : l.most = some n) {P : Params} {h : Heap} {args : List WData} {vals : List Value}
    (hpre : l.row.toRowW.claim.pre args = true) (hwl : WellAll P h vals args) :
    ∃ a vs ns, vals = [Value.ref a] ∧ args = [WData.list (ns.map WData.int)] ∧ h.get? a = some { cls := .type "list", data := .seq vs.toArray } ∧ IntsAre vs ns ∧ ns.length ≤ n := by
  have hsh : WShape.hasAll [] args [.list .int] = true := (pre_splitW hpre).1
  have hc : l.pre.holds [] { args := args } = true := (pre_splitW hpre).2
  obtain ⟨d, r, rfl, h1, h2⟩ := hasAllW_cons hsh
  obtain rfl := hasAllW_nil h2
  obtain ⟨xs, rfl, h3⟩ := hasW_list h1
  obtain ⟨ns, rfl⟩ := items_int h3
  have hlen : ns.length ≤ n := by
    unfold OpenLaw.pre at hc
    have h4 : (WTm.not (.lt (.lit (.int (n : Int))) (.len (.arg 0)))).holds [] { args := [.list (ns.map .int)] } = true := by
      have h4 := (holds_andW hc).1
      rw [hn] at h4
      exact h4
    have h5 := condW_of h4 (w_not (w_lt w_lit (w_len_list (w_arg rfl))))
    rw [List.length_map] at h5
    refine Nat.le_of_not_lt fun q => ?_
    have q' : (n : Int) < ((ns.length : Nat) : Int) := by omega
    first
      | (rw [decide_eq_true q'] at h5; exact absurd h5 (by decide))
      | (simp at h5; omega)
  cases hwl with
  | cons w1 w2 =>
    cases w2
    cases w1 with
    | list ho hall => exact ⟨_, _, ns, rfl, rfl, ho, ints_of_wellAll ns _ hall, hlen⟩
theorem post_true (l : OpenLaw) (args : List WData) : l.row.toRowW.claim.post args (.bool true) args = true :=
  postW_of (r := l.row.toRowW) (X := (true == true))
    (show WShape.has [] (.bool true) .bool = true by first | rfl | decide | simp [WShape.has, WShape.arms, WShape.armsAll])
    (show (WTm.eq .res (.lit (.bool true))).value [] { args := args, res := some (.bool true), after := args } = some (.bool (true == true)) from w_eq_bool (w_res rfl) w_lit) rfl
theorem attach_call {l : OpenLaw} {n : Nat} {q : Program} {loose : List Str} {XP : (Str → Option Value) → Heap → Prop} {YP : World → Heap → Prop} {d : DefRec}
    (hn : l.most = some n) (hdf : d.params.defaults = [])
    (call : ∀ (w : World) (s₀ s₁ : Shared) (mg mb : Str → Option Value) (fa : Addr) (o : Obj) (pm cd doc : Value) (a : Addr) (vs : List Value) (ns : List Int),
      Ground q loose [] XP w s₀ mg mb s₁.heap → YP w s₁.heap →
      s₁.heap.get? fa = some o → o.data = .func (docDef d.name d.params d.body d.scope pm cd doc) → s₁.heap.CodeRec cd d.name → mg d.name = some (.ref fa) →
      s₁.heap.get? a = some { cls := .type "list", data := .seq vs.toArray } → IntsAre vs ns → ns.length ≤ n → s₁.gens = #[] →
      codeAny (model l.prog w) callerA (.call (.ref fa) ⟨[.ref a], []⟩) (fun r s' => r = .ok (.ret (.bool true)) ∧ OldK s₁.heap s'.heap ∧ s'.os = s₁.os ∧ AllBare s'.gens) s₁) :
    WalkO q loose XP YP l.row.toRowW d [] (fun f vs => PySem.call f vs) := by
  intro w s₀ s₁ mg mb G Y fa o pm cd doc dV kV ho hd hcd hD hmg hg args vals as hpre hlay hrd hwl hlo
  obtain rfl : dV = .none := Dflts.none hD hdf
  obtain rfl : kV = .none := Dflts.noKw hD
  obtain ⟨a, vs, ns, rfl, rfl, hobj, hints, hlen⟩ := script_of hn hpre hwl
  refine enter_call (codeAny_mono (call w s₀ s₁ mg mb fa o pm cd doc a vs ns G Y ho (fd_plain hd) hcd hmg hobj hints hlen hg) fun r s' hq => ?_)
  obtain ⟨rfl, h2, h3, h4⟩ := hq
  exact ⟨.inl ⟨.bool true, .bool true, [], rfl, fun _ => rfl, .bool true, post_true l _, fun _ => ⟨List.Pairwise.nil, fun _ hm => (nomatch hm)⟩⟩, h2, h3, h4⟩
section
variable {prog : Program} {w : World} {A : Around} {E : Value → Shared → Prop} {s : Shared} {K : Frag}
end
end Att
namespace L2
open PySem PySem.Spec PyProof.Rows
theorem vals_ints : ∀ {vs : List Value} {ns : List Int}, IntsAre vs ns → Vals (ns.map V.int) vs
  | _, _, .nil => .nil
  | _, _, .cons n t h => .cons ⟨t, rfl⟩ (vals_ints h)
def Only (H : Hp) : Prop := ∀ b, H b = none ∨ ∃ o xs, H b = some (.frz o (.lst xs))
theorem law_call {P : Program} {w : World} {K : W.Frag} {mg mb : Str → Option Value} {CX : CXT} {k : Nat} {fa a : Addr} {fd : FuncData} {x : Str} {sp : Sp} {s₁ : Shared} {vs : List Value} {ns : List Int}
    (KX : K.In s₁.heap) (hns : s₁.heap.Ns mainGlobals mg) (hb : s₁.heap.Ns builtinsNs mb) (hbb : ∀ x : Str, x ≠ "__name__" → mb x = bootBuiltins x) (hlim : s₁.heap.NoLimit) (hg : s₁.gens = #[])
    (ha : s₁.heap.get? a = some { cls := .type "list", data := .seq vs.toArray }) (hi : IntsAre vs ns) (hl : ns.length ≤ sizeLine) (hr : Room k callerA)
    (F : ∀ base : Heap, K.In base → base.Ns mainGlobals mg → FnOk P w K mg base CX k fa fd [x] sp) (hbind : ∀ (s : Shared) (u : Value), BindsTo s fd ⟨[u], []⟩ [(x, u)])
    (hsp : ∀ H : Hp, Only H → SqL K H a (ns.map V.int) → sp [.ref a] H (fun v _ => v = .bl true) fun _ _ _ => False)
    (hCX : ∀ H e s', CX [] H s₁ (fun _ _ _ => False) e s' → False) :
    codeAny (model P w) callerA (.call (.ref fa) ⟨[.ref a], []⟩) (fun r s' => r = .ok (.ret (.bool true)) ∧ OldK s₁.heap s'.heap ∧ s'.os = s₁.os ∧ AllBare s'.gens) s₁ := by
  have rv := vals_ints hi
  have lenV := hi.length
  have core : ∀ H : Hp, Only H → SqL K H a (ns.map V.int) → HOk P w H s₁.heap → (∀ b, H b ≠ none → b = a) → (H a ≠ none → K.lookup a = none) →
      codeAny (model P w) callerA (.call (.ref fa) ⟨[.ref a], []⟩) (fun r s' => r = .ok (.ret (.bool true)) ∧ OldK s₁.heap s'.heap ∧ s'.os = s₁.os ∧ AllBare s'.gens) s₁ := by
    intro H hO hS hok hA hK
    have base_of : ∀ {b : Addr} {o : Obj}, s₁.heap.get? b = some o → H b = none → (hidT s₁.heap H).get? b = some o := fun e n => hidT_get e n
    have noA : ∀ {b : Addr} {o : Obj} {es : Array DictEntry} {ep : Nat}, s₁.heap.get? b = some o → o.data = .dict es ep → H b = none := fun {b o es ep} e d => by
      cases q : H b with
      | none => rfl
      | some u =>
        have e' : b = a := hA b (by rw [q]; simp)
        subst e'
        rw [ha] at e; cases e
        have d' : Data.seq vs.toArray _ = Data.dict es ep := d
        cases d'
    have nsK : ∀ {b : Addr} {m : Str → Option Value}, s₁.heap.Ns b m → (hidT s₁.heap H).Ns b m := fun {b m} ⟨o, es, ep, e, d, r⟩ => ⟨o, es, ep, base_of e (noA e d), d, r⟩
    have hKb : K.In (hidT s₁.heap H) := fun b o e => base_of (KX b o e) (by
      cases q : H b with
      | none => rfl
      | some u =>
        have e' : b = a := hA b (by rw [q]; simp)
        subst e'
        rw [hK (by rw [q]; simp)] at e; cases e)
    have hM : Mod K mg (hidT s₁.heap H) := ⟨hKb, nsK hns, ⟨mb, nsK hb, hbb⟩, let ⟨mc, h1, h2⟩ := hlim; ⟨mc, nsK h1, h2⟩⟩
    have e0 : Env0 P w K mg (hidT s₁.heap H) callerA [] s₁ H := ⟨rfl, hM, fun b o e => of_hidT e, Nat.le_of_eq (hidT_size _ _), trivial, fun b hb => absurd (show b ∈ ([] : List Addr) from hb) (by simp), hok, .of_eq hg⟩
    refine codeAny_mono ((F _ hKb (nsK hns)).run callerA [] s₁ H ⟨[.ref a], []⟩ [.ref a] [.ref a] _ _ hr e0 (hbind s₁ (.ref a)) (.cons rfl .nil) (hsp H hO hS)) fun r s' h => ?_
    cases r with
    | error e => exact (hCX H e s' h).elim
    | ok fl =>
      cases fl with
      | next => exact False.elim h
      | brk => exact False.elim h
      | cont => exact False.elim h
      | ret u =>
        obtain ⟨v, H', os, bare, un, hok', r', q⟩ := h
        have q' : v = .bl true := q
        subst q'
        obtain rfl : u = Value.bool true := r'
        refine ⟨rfl, OldK.of_keep fun b o e => ?_, os, bare⟩
        cases q : H b with
        | none => exact un.keep b o e q (by intro z; exact absurd (show b ∈ ([] : List Addr) from z) (by simp)) (by simp)
        | some u =>
          rcases hO b with z | ⟨ob, xs, z⟩
          · rw [q] at z; cases z
          · have z2 := un.frzs b ob _ z
            obtain ⟨e1, _⟩ := hok b _ z
            obtain ⟨e2, _⟩ := hok' b _ z2
            rw [e] at e1; cases e1
            exact e2
  cases hk : K.lookup a with
  | some o =>
    have e := KX a o hk
    rw [ha] at e
    cases e
    refine core (fun _ => none) (fun _ => .inl rfl) (.inr ⟨_, vs.toArray, _, hk, rfl, rfl, rfl, by rw [List.size_toArray, lenV]; exact hl, by simpa using rv⟩) (fun b u z => by have z' : (none : Option HO) = some u := z; cases z') (fun b z => absurd rfl z) fun z => absurd rfl z
  | none =>
    refine core (fun b => if b = a then some (.frz { cls := .type "list", data := .seq vs.toArray } (.lst (ns.map V.int))) else none) (fun b => ?_) (.inl (.inr ⟨{ cls := .type "list", data := .seq vs.toArray }, if_pos rfl⟩)) (fun b u z => ?_) (fun b z => ?_) fun _ => hk
    · by_cases hb : b = a
      · exact .inr ⟨_, _, if_pos hb⟩
      · exact .inl (if_neg hb)
    · by_cases hb : b = a
      · have z' := (if_pos hb).symm.trans z
        cases z'
        subst hb
        exact ⟨ha, by rw [List.length_map]; exact hl, vs, _, rv, ha⟩
      · have z' := (if_neg hb).symm.trans z
        cases z'
    · by_cases hb : b = a
      · exact hb
      · exact absurd (if_neg hb) z
end L2
namespace L2
open PySem PySem.Spec PyProof.Rows
theorem walk_of {l : W.OpenLaw} {n k : Nat} {q : Program} {loose : List Str} {XP : (Str → Option Value) → Heap → Prop} {YP : World → Heap → Prop} {d : DefRec} {K : Params → W.Frag} {CX : World → CXT} {sp : World → Sp} {x : Str}
    (hn : l.most = some n) (hn2 : n ≤ sizeLine) (hdf : d.params.defaults = []) (hr : Room k callerA)
    (hY : ∀ (w : World) (h : Heap), YP w h → (K w.params).In h)
    (F : ∀ (w : World) (mg : Str → Option Value) (fa : Addr) (h : Heap), (K w.params).In h → h.Ns mainGlobals mg → mg d.name = some (.ref fa) →
      ∃ fd : FuncData, (∀ (s : Shared) (u : Value), BindsTo s fd ⟨[u], []⟩ [(x, u)]) ∧
        ∀ base : Heap, (K w.params).In base → base.Ns mainGlobals mg → FnOk l.prog w (K w.params) mg base (CX w) k fa fd [x] (sp w))
    (hsp : ∀ (w : World) (H : Hp) (a : Addr) (ns : List Int), ns.length ≤ n → Only H → SqL (K w.params) H a (ns.map V.int) → sp w [.ref a] H (fun v _ => v = .bl true) fun _ _ _ => False)
    (hCX : ∀ (w : World) (H : Hp) (s : Shared) (e : Value) (s' : Shared), CX w [] H s (fun _ _ _ => False) e s' → False) :
    W.WalkO q loose XP YP l.row.toRowW d [] (fun f vs => PySem.call f vs) := by
  refine Att.attach_call hn hdf fun w s₀ s₁ mg mb fa o pm cd doc a vs ns G Y ho hd hcd hmg hobj hints hlen hg => ?_
  have KX := hY w _ Y
  obtain ⟨fd, hb, hF⟩ := F w mg fa _ KX G.T.g hmg
  exact law_call KX G.T.g G.T.b G.T.builtins G.T.nolimit hg hobj hints (Nat.le_trans hlen hn2) hr hF hb (fun H hO hS => hsp w H a ns hlen hO hS) fun H e s' => hCX w H s₁ e s'
end L2
/- THE LAST THEOREM (shape; LID, My.* are yours):
   My.Adr: a structure of the addresses that your layer names (classes, functions); My.Txt K t: a structure (Prop) of the equations over K;
   My.txt_mk : {K} {implicit addresses ..} (e1 : nsIn K mainGlobals "law" = some (some (.ref f))) (e2 : K.lookup f = some ⟨oc, od, .func (fnOf "law" "law" params body scope dV kV doc pm an cdv ct), sl⟩) (e3 : codeIn K cdv "law" = true) .. : ∃ t, My.Txt K t
set_option maxRecDepth 100000 in
set_option maxHeartbeats 0 in
theorem PySem.Challenge.cw_LID_holds : PySem.Challenge.rw_LID.Holds := by
  w_on; o_law; k_head; (case hw => w_witness2)
  k_fill
  refine L2.walk_of (l := PySem.Challenge.rw_LID) (n := 63) (k := 40) (x := "script") (CX := fun w => ..) (sp := fun _ => My.sp_law) rfl (by decide) rfl ⟨rfl, by decide, by decide⟩ (fun w h Y => W.kIn_of Y) ?F ?S ?C
  case F =>
    intro w mg fa h KX G hmg
    have T : ∃ t, My.Txt (L2.KOf KX) t := by
      dsimp only [L2.KOf]                          -- K must stand as «<heap const> w.params» for k_is
      refine' My.txt_mk ?e1 ?e2 ?e3 ..
      (case e1 => W.k_is)                    -- in the order: a name -> its address -> its object -> its parts
      (case e2 => W.k_is)
      ..
    obtain ⟨t, T⟩ := T
    have e0 := hmg.symm.trans (W.mg_of KX G T.law)
    cases e0                                       -- fa is the law's own address
    exact ⟨_, fun s u => .of_eq rfl, fun base kb nb => My.law_fn T kb nb⟩     -- if «.of_eq rfl» comes too early: refine' ⟨_, ?b, fun base kb nb => My.law_fn T kb nb⟩; exact fun s u => .of_eq rfl
  case S => exact fun w H a ns hl hO hS => ..
  case C => exact ..
(the tactic k_is has no namespace: write k_is) -/
namespace L2
open PySem PySem.Spec PyProof.Rows
def inClass (s : Stmt) (j : Nat) : Stmt := match s with
  | .ClassDef _ _ _ body _ _ _ _ _ _ _ => body.getD j (.Pass ⟨0, 0, 0, 0⟩)
  | _ => .Pass ⟨0, 0, 0, 0⟩
def defArgs (s : Stmt) : Arguments := match s with
  | .FunctionDef _ a _ _ _ _ _ _ _ _ => a
  | _ => { posonlyargs := [], args := [], vararg := none, kwonlyargs := [], kw_defaults := [], kwarg := none, defaults := [] }
def defBody (s : Stmt) : List Stmt := match s with
  | .FunctionDef _ _ b _ _ _ _ _ _ _ => b
  | _ => []
def defScope (s : Stmt) : Scope := match s with
  | .FunctionDef _ _ _ _ _ _ sc _ _ _ => sc
  | _ => { kind := .function, names := [], isGenerator := false, isCoroutine := false }
abbrev CX0 : CXT := fun _ _ _ _ _ _ => False
abbrev E0 : XK := fun _ _ _ => False
theorem pass0 {X : Cx} : Passes CX0 X E0 := fun _ _ _ _ _ _ _ h => h.elim
structure Fun (K : W.Frag) (x qual : Str) (st : Stmt) (f : Addr) (fd : FuncData) : Prop where
  ex : ∃ (oc : Value) (od : Option Addr) (kV doc pm : Value) (an : Option Addr) (cdv ct : Value) (osl : Array (Option Value)),
    fd = W.fnOf x qual (defArgs st) (defBody st) (defScope st) .none kV doc pm an cdv ct ∧ K.lookup f = some ⟨oc, od, .func fd, osl⟩ ∧ W.codeIn K cdv qual = true
  kp : W.keepIn K (.ref f) = true
section
variable {P : Program} {w : World} {K : W.Frag} {mg : Str → Option Value} {base : Heap}
theorem Fun.ok {x qual : Str} {st : Stmt} {f : Addr} {fd : FuncData} {N ps : List Str} {k : Nat} {sp : Sp} (F : Fun K x qual st f fd) (S : FnScope N ps (defScope st)) (len : ∀ vs H Q E, sp vs H Q E → vs.length = ps.length)
    (hbody : ∀ (cdv : Value) (A : Around) (outer : List Env) (s : Shared) (H : Hp) (vs : List V) (Q : VK) (E : XK), Room k (A.deeper (envOfC qual (defScope st) s.heap.objs.size f cdv)) → sp vs H Q E →
      ∃ t, PSs (cxOf CX0 P w K mg base N qual (defScope st) f cdv A outer s H E).nox (defBody st) t ∧ t { nx := fun _ H' => Q .non H', rt := Q } (start N vs) H) : FnOk P w K mg base CX0 (k + 1) f fd ps sp := by
  obtain ⟨oc, od, kV, doc, pm, an, cdv, ct, osl, rfl, lk, hcd⟩ := F.ex
  refine fn_of lk hcd S len fun A outer s H vs Q E hr hsp => ?_
  obtain ⟨t, h, q⟩ := hbody cdv A outer s H vs Q E hr hsp
  exact ⟨t, h.nox, q⟩
theorem Fun.binds {x qual : Str} {st : Stmt} {f : Addr} {fd : FuncData} {ps : List Str} (F : Fun K x qual st f fd)
    (h : ∀ (kV doc pm : Value) (an : Option Addr) (cdv ct : Value) (us : List Value), us.length = ps.length → bindArgs (W.fnOf x qual (defArgs st) (defBody st) (defScope st) .none kV doc pm an cdv ct) ⟨us, []⟩ = pure (ps.zip us)) : Binds K fd ps [] := by
  obtain ⟨oc, od, kV, doc, pm, an, cdv, ct, osl, rfl, lk, hcd⟩ := F.ex
  exact .all (h kV doc pm an cdv ct)
theorem fun_mk {x qual : Str} {st : Stmt} {f : Addr} {oc : Value} {od an : Option Addr} {osl : Array (Option Value)} {kV doc pm cdv ct : Value} (l : K.lookup f = some ⟨oc, od, .func (W.fnOf x qual (defArgs st) (defBody st) (defScope st) .none kV doc pm an cdv ct), osl⟩)
    (c : W.codeIn K cdv qual = true) (k : W.keepIn K (.ref f) = true) : Fun K x qual st f (W.fnOf x qual (defArgs st) (defBody st) (defScope st) .none kV doc pm an cdv ct) := ⟨⟨oc, od, kV, doc, pm, an, cdv, ct, osl, rfl, l, c⟩, k⟩
end
theorem hu_of {A : Around} {k : Nat} (hr : Room k A) : A.units + 1 < cLine := Nat.lt_of_le_of_lt (Nat.add_le_add_left (by decide : 1 ≤ 64) _) hr.units
section
variable {X : Cx}
end
def Same (H H' : Hp) : Prop := ∀ b o, H b = some o → H' b = some o
theorem Same.refl (H : Hp) : Same H H := fun _ _ h => h
theorem Same.trans {H H1 H2 : Hp} (a : Same H H1) (b : Same H1 H2) : Same H H2 := fun c o h => b c o (a c o h)
theorem Same.free {H H' : Hp} (e : Same H H') {l : Addr} (h : H' l = Option.none) : H l = Option.none := by
  cases q : H l with
  | none => rfl
  | some o =>
    rw [e l o q] at h
    cases h
theorem Same.seq {K : W.Frag} {H H' : Hp} {a : Addr} {xs : List V} (e : Same H H') (h : SqL K H a xs) : SqL K H' a xs := by
  rcases h with (h | ⟨o, h⟩) | h
  · exact .inl (.inl (e _ _ h))
  · exact .inl (.inr ⟨o, e _ _ h⟩)
  · exact .inr h
section
variable {κ : Type} [DecidableEq κ]
theorem valV_in {kvs : List (κ × V)} {k : κ} {v : V} (h : valV kvs k = some v) : k ∈ kvs.map (·.1) := by
  have q : (kvs.any fun kv => decide (kv.1 = k)) = true := by
    rw [valV_any, h]
    all_goals rfl
  obtain ⟨p, hp, e⟩ := List.any_eq_true.mp q
  exact List.mem_map.mpr ⟨p, hp, of_decide_eq_true e⟩
theorem nd_snoc : ∀ {l : List κ} {k : κ}, l.Nodup → ¬ k ∈ l → (l ++ [k]).Nodup
  | [], k, _, _ => by simp
  | a :: r, k, h, hk => by
    obtain ⟨h1, h2⟩ := List.nodup_cons.mp h
    show (a :: (r ++ [k])).Nodup
    refine List.nodup_cons.mpr ⟨fun m => ?_, nd_snoc h2 fun m => hk (List.mem_cons.mpr (Or.inr m))⟩
    rcases List.mem_append.mp m with q | q
    · exact h1 q
    · exact hk (List.mem_cons.mpr (Or.inl (List.mem_singleton.mp q).symm))
end
end L2
namespace L2
open PySem PySem.Spec PyProof.Rows
def clOf (env : Env) : List (Str × NameKind) → List (Str × Addr) → List (Str × Addr)
  | [], cs => cs
  | (n, k) :: r, cs => clOf env r (if k = .free then (match env.cells.lookup n with | some c => (n, c) :: cs | none => cs) else cs)
theorem closure_go {env : Env} : ∀ (names : List (Str × NameKind)) (cs : List (Str × Addr)), (∀ x ∈ names, x.2 = .free → ∃ c, env.cells.lookup x.1 = some c) →
    (forIn names cs fun (x : Str × NameKind) (r : List (Str × Addr)) => (do
      if x.2 == .free then do
        let c ← cellOf env x.1
        pure (ForInStep.yield ((x.1, c) :: r))
      else pure (ForInStep.yield r) : Sem _)) = pure (clOf env names cs)
  | [], cs, _ => rfl
  | (n, k) :: r, cs, h => by
    rw [List.forIn_cons]
    by_cases hk : k = .free
    · subst hk
      obtain ⟨c, hc⟩ := h (n, .free) List.mem_cons_self rfl
      have hc' : env.cells.lookup n = some c := hc
      have e1 : cellOf env n = pure c := by unfold cellOf; rw [hc']
      simp only [beq_self_eq_true, if_true, e1, pure_bind]
      rw [closure_go r ((n, c) :: cs) fun x hx => h x (List.mem_cons_of_mem _ hx)]
      simp [clOf, hc']
    · have hb : (k == NameKind.free) = false := by simpa using hk
      simp only [hb, Bool.false_eq_true, if_false, pure_bind]
      rw [closure_go r cs fun x hx => h x (List.mem_cons_of_mem _ hx)]
      simp [clOf, hk]
theorem closure_ok {scope : Scope} {env : Env} (h : ∀ x ∈ scope.names, x.2 = .free → ∃ c, env.cells.lookup x.1 = some c) : closureFor scope env = pure (clOf env scope.names []) := by
  have e := closure_go scope.names [] h
  unfold closureFor
  exact (congrArg (fun z => z >>= fun (r : List (Str × Addr)) => (pure r : Sem _)) e).trans (pure_bind _ _)
theorem cl_sound {env : Env} : ∀ (names : List (Str × NameKind)) (cs : List (Str × Addr)), (∀ y d, (y, d) ∈ cs → env.cells.lookup y = some d) → ∀ y d, (y, d) ∈ clOf env names cs → env.cells.lookup y = some d
  | [], _, h => h
  | (n, k) :: r, cs, h => by
    unfold clOf
    refine cl_sound r _ fun y d hm => ?_
    split at hm
    · split at hm
      · rename_i c hc
        rcases List.mem_cons.mp hm with e | e
        · cases e; exact hc
        · exact h y d e
      · exact h y d hm
    · exact h y d hm
theorem cl_from {env : Env} : ∀ (names : List (Str × NameKind)) (cs : List (Str × Addr)) (y : Str) (d : Addr), (y, d) ∈ clOf env names cs → (y, .free) ∈ names ∨ (y, d) ∈ cs
  | [], _, _, _, h => .inr h
  | (n, k) :: r, cs, y, d, h => by
    unfold clOf at h
    rcases cl_from r _ y d h with e | hm
    · exact .inl (List.mem_cons_of_mem _ e)
    · split at hm
      · rename_i hk
        split at hm
        · rcases List.mem_cons.mp hm with e | e
          · cases e; subst hk; exact .inl List.mem_cons_self
          · exact .inr e
        · exact .inr hm
      · exact .inr hm
theorem cl_has {env : Env} : ∀ (names : List (Str × NameKind)) (cs : List (Str × Addr)) (y : Str), ((∃ d, (y, d) ∈ cs) ∨ (y, .free) ∈ names) → (∀ x ∈ names, x.2 = .free → ∃ c, env.cells.lookup x.1 = some c) → ∃ d, (y, d) ∈ clOf env names cs
  | [], _, _, h, _ => by
    rcases h with h | h
    · exact h
    · cases h
  | (n, k) :: r, cs, y, h, hf => by
    unfold clOf
    refine cl_has r _ y ?_ fun x hx => hf x (List.mem_cons_of_mem _ hx)
    rcases h with ⟨d, hd⟩ | h
    · refine .inl ⟨d, ?_⟩
      split
      · split
        · exact List.mem_cons_of_mem _ hd
        · exact hd
      · exact hd
    · rcases List.mem_cons.mp h with e | e
      · have e1 : y = n := congrArg Prod.fst e
        have e2 : NameKind.free = k := congrArg Prod.snd e
        subst e1 e2
        obtain ⟨c, hc⟩ := hf (y, .free) List.mem_cons_self rfl
        have hc' : env.cells.lookup y = some c := hc
        refine .inl ⟨c, ?_⟩
        rw [if_pos rfl, hc']
        exact List.mem_cons_self
      · exact .inr e
theorem mem_lookup {α : Type} : ∀ {l : List (Str × α)} {y : Str} {d : α}, (y, d) ∈ l → ∃ d', l.lookup y = some d' ∧ (y, d') ∈ l
  | (n, c) :: r, y, d, h => by
    by_cases e : y = n
    · subst e
      exact ⟨c, by simp [List.lookup_cons], List.mem_cons_self⟩
    · rcases List.mem_cons.mp h with q | q
      · cases q; exact absurd rfl e
      · obtain ⟨d', h1, h2⟩ := mem_lookup q
        have hb : (y == n) = false := by simpa using e
        exact ⟨d', by rw [List.lookup_cons, hb]; exact h1, List.mem_cons_of_mem _ h2⟩
theorem cl_lookup {env : Env} {names : List (Str × NameKind)} {y : Str} {c : Addr} (h : (clOf env names []).lookup y = some c) : env.cells.lookup y = some c ∧ (y, .free) ∈ names := by
  have hm := PySem.mem_of_lookup h
  refine ⟨cl_sound names [] (fun _ _ z => nomatch z) y c hm, ?_⟩
  rcases cl_from names [] y c hm with e | e
  · exact e
  · cases e
theorem cl_some {env : Env} {names : List (Str × NameKind)} {y : Str} (h : (y, .free) ∈ names) (hf : ∀ x ∈ names, x.2 = .free → ∃ c, env.cells.lookup x.1 = some c) : ∃ c, (clOf env names []).lookup y = some c ∧ env.cells.lookup y = some c := by
  obtain ⟨d, hd⟩ := cl_has names [] y (.inr h) hf
  obtain ⟨c, hc, _⟩ := mem_lookup hd
  exact ⟨c, hc, (cl_lookup hc).1⟩
theorem relabel_free {scope : Scope} {env : Env} (hcell : ∀ y ∈ scope.names, y.2 ≠ .cell) {x : Str} (h : (relabel scope env).names.lookup x = some .cell ∨ (relabel scope env).names.lookup x = some .free) : (x, .free) ∈ scope.names := by
  have go : ∀ {k : NameKind}, k = .cell ∨ k = .free → (relabel scope env).names.lookup x = some k → (x, .free) ∈ scope.names := fun {k} hk h => by
    have hm := PySem.mem_of_lookup h
    unfold relabel at hm
    obtain ⟨⟨n, j⟩, hp, e⟩ := List.mem_map.mp hm
    dsimp only at e
    split at e
    · rename_i hc
      cases e
      have : j = .free := by
        have := (Bool.and_eq_true_iff.mp (Bool.and_eq_true_iff.mp hc).1).1
        simpa using this
      subst this; exact hp
    · cases e
      rcases hk with q | q
      · exact absurd q (hcell _ hp)
      · subst q; exact hp
  rcases h with h | h
  · exact go (.inl rfl) h
  · exact go (.inr rfl) h
theorem relabel_some {env : Env} : ∀ {names : List (Str × NameKind)} {x : Str}, names.lookup x = some .free →
    (names.map fun (n, k) => if (k == NameKind.free && env.scope.kind == .function && env.kindOf n == some .cell) then (n, NameKind.cell) else (n, k)).lookup x = some .cell ∨
    (names.map fun (n, k) => if (k == NameKind.free && env.scope.kind == .function && env.kindOf n == some .cell) then (n, NameKind.cell) else (n, k)).lookup x = some .free
  | [], _, h => by simp at h
  | (n, k) :: r, x, h => by
    have ih := @relabel_some env r x
    rw [List.map_cons]
    dsimp only
    cases hx : x == n with
    | true =>
      simp only [List.lookup_cons, hx] at h
      cases h
      split
      · left; simp [List.lookup_cons, hx]
      · right; simp [List.lookup_cons, hx]
    | false =>
      simp only [List.lookup_cons, hx] at h
      split
      · simp only [List.lookup_cons, hx]; exact ih h
      · simp only [List.lookup_cons, hx]; exact ih h
def cxC (X : Cx) (scope : Scope) (C : Addr) (N : List Str) (s₂ : Shared) (H₂ : Hp) (fp : List Addr) : Cx where
  prog := X.prog
  w := X.w
  K := X.K
  mg := X.mg
  base := X.base
  A := X.A
  N := N
  s₀ := s₂
  H₀ := H₂
  env := compEnvC scope (clOf X.env scope.names []) C X.env
  outer := X.stack
  stack := X.stack
  ex := fp
  fn := fun _ => false
  calm := X.calm
  pn := []
  xe := fun _ _ => False
def stC (js : List (Option Nat)) (σ : St) : St := js.map fun o => match o with | some j => (σ[j]?).getD none | none => none
structure CompScope (X : Cx) (scope : Scope) (N : List Str) (js : List (Option Nat)) : Prop where
  kind : scope.kind = .function
  nocell : ∀ y ∈ scope.names, y.2 ≠ .cell
  loc : ∀ y ∈ scope.names, y.2 = .local → scope.names.lookup y.1 = some .local
  len : js.length = N.length
  cap : ∀ (i j : Nat), js[i]? = some (some j) → ∃ x, N[i]? = some x ∧ X.N[j]? = some x ∧ scope.names.lookup x = some .free
  out : ∀ y ∈ scope.names, y.2 = .free → X.env.kindOf y.1 = some .cell ∨ X.env.kindOf y.1 = some .free
def GOwn (js : List (Option Nat)) (g : TG) : Prop := ∀ x σ H Q, g x σ H Q → g x σ H fun σ2 H2 => Q σ2 H2 ∧ σ2.length = σ.length ∧ ∀ (i j : Nat), js[i]? = some (some j) → σ2[i]? = σ[i]?
theorem gown_name {js : List (Option Nat)} {k : Nat} (h : js[k]? = some none) : GOwn js (gName k) := fun x σ H Q q => by
  refine ⟨q, by simp, fun i j e => ?_⟩
  have : k ≠ i := fun z => by subst z; rw [h] at e; cases e
  rw [List.getElem?_set_ne this]
section
variable {X : Cx} {pins : List (Addr × Obj)} {σ : St} {H H' : Hp} {s : Shared}
theorem Un.more {fs ex : List Addr} {H H' : Hp} {h h' : Heap} {D : Addr} {o : HO} (u : Un fs ex H H' h h') (hD : h.get? D = none) (hH : H D = none) : Un fs ex H (upd H' D o) h h' where
  keep := u.keep
  slot := u.slot
  free := fun b ob q n hx => by
    have : b ≠ D := fun z => by rw [z, hD] at q; cases q
    rw [upd_ne this]; exact u.free b ob q n hx
  there := u.there
  tups := fun b xs q => by rw [upd_ne (ne_of_none q hH)]; exact u.tups b xs q
  frzs := fun b ob xs q => by rw [upd_ne (ne_of_none q hH)]; exact u.frzs b ob xs q
  tbls := fun b ps q => by rw [upd_ne (ne_of_none q hH)]; exact u.tbls b ps q
theorem HOk.more {P : Program} {w : World} {h : Heap} {D : Addr} {o : HO} (k : HOk P w H h) (hH : H D = none) (new : ObjOk P w (upd H D o) h D o) : HOk P w (upd H D o) h := fun b u e => by
  by_cases hb : b = D
  · subst hb; rw [upd_same] at e; cases e; exact new
  · rw [upd_ne hb] at e
    exact (k b u e).stay (fun _ _ _ q => q) (fun c q => by rw [upd_ne (ne_of_none q hH)]; exact q) fun c xs q => by rw [upd_ne (ne_of_none q hH)]; exact q
theorem CompScope.ok {scope : Scope} {N : List Str} {js : List (Option Nat)} {C : Addr} {fp : List Addr} (S : CompScope X scope N js) (I : Inv X pins σ H s) (hC : s.heap.objs.size ≤ C) (hf : ∀ b ∈ fp, FpOk X pins H b) (hl : ∀ b ∈ fp, b < s.heap.objs.size) :
    (cxC X scope C N s H fp).Ok where
  mod := I.ok.mod
  kind := S.kind
  glob := I.ok.glob
  blt := I.ok.blt
  above := hC
  inj := fun x y c h1 h2 => I.ok.inj x y c (cl_lookup h1).1 (cl_lookup h2).1
  has := fun x hx => by
    have hm : (x, .free) ∈ scope.names := relabel_free S.nocell hx
    obtain ⟨c, h1, _⟩ := cl_some (env := X.env) hm fun y hy hk => I.ok.has y.1 (S.out y hy hk)
    exact ⟨c, h1⟩
  cab := fun x c z => nomatch z
  hd := I.ok.hd
  frames := I.ok.frames
  stk := .inl rfl
  exf := fun b hb => ⟨Nat.ne_of_lt (Nat.lt_of_lt_of_le (hl b hb) hC), fun x c e => (hf b hb).2.2.2.2.1 x c (cl_lookup e).1⟩
  bs := I.bs
  bsz := Nat.le_trans I.ok.bsz I.sz
  noex := fun b o e hb => by
    rcases (hf b hb).2.2.2.1 with z | z
    · exact I.ok.noex b o e z
    · exact absurd (Nat.lt_of_lt_of_le (Heap.lt_size e) (Nat.le_trans I.ok.bsz z)) (Nat.lt_irrefl _)
  exfs := fun b hb hm => by
    rcases List.mem_cons.mp (I.stkSub b hm) with z | z
    · exact (hf b hb).2.1 z
    · exact (hf b hb).2.2.1 z
  funs := I.stack
  frf := I.stkFree
theorem CompScope.start {scope : Scope} {N : List Str} {js : List (Option Nat)} {C D : Addr} {fp : List Addr} {ob : Obj} {h₁ : Heap} {m : Str → Option Value} {tk : Nat} (S : CompScope X scope N js) (I : Inv X pins σ H s) (hC : s.heap.objs.size ≤ C) (hD : s.heap.objs.size ≤ D) (hDC : D ≠ C)
    (hf : ∀ b ∈ fp, FpOk X pins H b) (hl : ∀ b ∈ fp, b < s.heap.objs.size) (k : ∀ b o, s.heap.get? b = some o → h₁.get? b = some o) (hns : h₁.Ns C m) (eD : h₁.get? D = some ob) (nc : ∀ v, ob.data ≠ .cell v) :
    Inv (cxC X scope C N s H fp) [(D, ob)] (stC js σ) H { s with heap := h₁, toks := tk } where
  ok := S.ok I hC hf hl
  os := rfl
  bare := I.bare
  base := Un.kept k
  loc := by
    refine ⟨m, hns, fun i x v h1 h2 h3 => ?_⟩
    have h1 : N[i]? = some x := h1
    unfold stC at h2
    rw [List.getElem?_map] at h2
    cases e : js[i]? with
    | none => rw [e] at h2; cases h2
    | some o =>
      rw [e] at h2
      cases o with
      | none => cases h2
      | some j =>
        have h2' : (σ[j]?).getD none = some v := Option.some.inj h2
        have hσ : σ[j]? = some (some v) := by
          cases q : σ[j]? with
          | none => rw [q] at h2'; cases h2'
          | some z => rw [q] at h2'; exact congrArg some h2'
        obtain ⟨y, e1, e2, e3⟩ := S.cap i j e
        rw [h1] at e1; cases e1
        have hfree : (x, .free) ∈ scope.names := PySem.mem_of_lookup e3
        have ho := S.out (x, .free) hfree rfl
        obtain ⟨mX, _, hlX⟩ := I.loc
        have hvX : Vis X.env.scope x := by
          rcases ho with z | z
          · exact .inr (.inl z)
          · exact .inr (.inr z)
        obtain ⟨u, r, l⟩ := hlX j x v e2 hσ hvX
        refine ⟨u, r, .inr ?_⟩
        rcases l with ⟨hk, _⟩ | ⟨hk, c, hc, hcell⟩
        · rcases ho with z | z
          · have z' : X.env.kindOf x = some .cell := z
            rw [hk] at z'; cases z'
          · have z' : X.env.kindOf x = some .free := z
            rw [hk] at z'; cases z'
        · obtain ⟨c', h1', h2''⟩ := cl_some (env := X.env) hfree fun y hy hk => I.ok.has y.1 (S.out y hy hk)
          rw [hc] at h2''; cases h2''
          refine ⟨relabel_some e3, c, h1', ?_⟩
          obtain ⟨oc, q1, q2⟩ := hcell
          exact ⟨oc, k c oc q1, q2⟩
  cell := fun x c e => by
    obtain ⟨v, oc, q1, q2⟩ := I.cell x c (cl_lookup e).1
    exact ⟨v, oc, k c oc q1, q2⟩
  free := I.hok.fresh hC
  freeC := fun x c e => I.freeC x c (cl_lookup e).1
  pin := fun p hp => by
    have e : p = (D, ob) := by
      rcases List.mem_append.mp hp with z | z
      · exact absurd (show p ∈ ([] : List (Addr × Obj)) from z) (by simp)
      · simpa using z
    subst e
    refine ⟨eD, I.hok.fresh hD, hDC, fun hm => ?_, nc⟩
    rcases List.mem_cons.mp (I.stkSub D hm) with z | z
    · have z : D = X.env.locals := z
      have := I.lt
      rw [← z] at this
      exact absurd (Nat.lt_of_lt_of_le this hD) (Nat.lt_irrefl _)
    · exact I.nofs hD z
  hok := I.hok.kept k
  len := by
    unfold stC
    rw [List.length_map]
    exact S.len
end
def PTs (X : Cx) (cs : List Expr) (t : TT) : Prop :=
  ∀ (pins : List (Addr × Obj)) (s : Shared) (σ : St) (H : Hp) (Q : Bool → Hp → Prop) (E : Value → Shared → Prop), Inv X pins σ H s → t σ H Q →
    wpAny (model X.prog X.w) X.A (forIn cs true fun c r => if r = true then do let ok ← isTrue c X.env (eval c X.env); pure (ForInStep.yield ok) else pure (ForInStep.yield r)) (TP X pins σ Q) E s
def tTrue : TT := fun _ H Q => Q true H
theorem pts_nil {X : Cx} : PTs X [] tTrue := fun pins s σ H Q E I h => wpAny_tests_nil ⟨H, I, h⟩
theorem pts_one {X : Cx} {c : Expr} {t : TT} (h : PT X c t) (hx : X.xe = fun _ _ => False := by rfl) : PTs X [c] t := fun pins s σ H Q E I q =>
  wpAny_tests_one (wpAny_mono (h pins s σ H Q I q) (fun _ _ z => z) fun e s' z => by rw [hx] at z; exact z.elim)
def wComp (js : List (Option Nat)) (g : TG) (tt : TT) (te : TE) (σ : St) (J : It) (H1 : Hp) (Q : List V → Hp → Prop) : Prop :=
  ∃ W : Nat → Nat → List V → Hp → Prop, (∃ m, W 0 m [] H1) ∧ ∀ i m ys H, W i m ys H →
    (J.stop i H ∧ Q ys H) ∨
    (J.go i H ∧ ys.length < sizeLine ∧ ∃ N : List V → Hp → Prop, (∀ ys' H', N ys' H' → ∃ m', m' < m ∧ W (i + 1) m' ys' H') ∧
      ∀ x H', J.yld i H x H' → g x (stC js σ) H' fun σ2 H2 => tt σ2 H2 fun b H3 => if b = true then te σ2 H3 fun y H4 => N (ys ++ [y]) H4 else N ys H3)
def tComp (wi : TI) (js : List (Option Nat)) (g : TG) (tt : TT) (te : TE) : TE := fun σ H Q => wi σ H fun J H1 =>
  wComp js g tt te σ J H1 fun ys H2 => ∀ p, H2 p = none → Q (.ref p) (upd H2 p (.lst ys))
def sComp (i : Nat) (wi : TI) (js : List (Option Nat)) (g : TG) (tt : TT) (te : TE) : TS := fun D σ H => wi σ H fun J H1 =>
  wComp js g tt te σ J H1 fun ys H2 => ∀ p, H2 p = none → D.nx (σ.set i (some (.ref p))) (upd H2 p (.lst ys))
section
variable {X : Cx} {tg iter elt : Expr} {ifs : List Expr} {scope : Scope} {N : List Str} {js : List (Option Nat)} {wi : TI} {g : TG} {tt : TT} {te : TE} {pos : Pos}
theorem comp_block {pins : List (Addr × Obj)} {σ : St} {H2 : Hp} {s2 : Shared} {it : Addr} {fp : List Addr} {tn : Nat → Heap → Prop} {J : It} {Qf : List V → Hp → Prop} {RR : Value → Addr → Result → Shared → Prop} {E : Value → Shared → Prop} (hc : X.calm = true) (S : CompScope X scope N js) (go : GOwn js g)
    (hb : ∀ (C : Addr) (s₂ : Shared) (H₂ : Hp) (fp : List Addr), PG (cxC X scope C N s₂ H₂ fp) tg g ∧ PTs (cxC X scope C N s₂ H₂ fp) ifs tt ∧ PE (cxC X scope C N s₂ H₂ fp) elt te)
    (I2 : Inv X pins σ H2 s2) (T : Turn X.prog X.w X.K tg J fp it tn) (st2 : tn 0 s2.heap) (f2 : ∀ b ∈ fp, FpOk X pins H2 b) (hw : wComp js g tt te σ J H2 Qf)
    (hRR : ∀ (C D : Addr) (ys : List V) (H3 : Hp) (s3 : Shared) (m : Str → Option Value), s2.heap.objs.size ≤ C → s2.heap.objs.size ≤ D → D ≠ C → Inv X pins σ (upd H3 D (.lst ys)) s3 → H3 C = none → H3 D = none → s3.heap.Ns C m → Qf ys H3 → RR (.ref D) C (.ok .next) s3) :
    wpAny (model X.prog X.w) X.A (newList []) (fun acc s₃ => wpAny (model X.prog X.w) X.A (newFunctionEnv scope X.env.globals (clOf X.env scope.names []) [] X.env.qual none .none (some X.env)) (fun cenv s₄ =>
      codeAny (model X.prog X.w) X.A (.compStart (.ListComp elt [⟨tg, iter, ifs, 0⟩] scope pos) 0 (.ref it) acc { cenv with scope := relabel scope X.env }) (RR acc cenv.locals) s₄) E s₃) E s2 := by
  obtain ⟨W, ⟨m0, w0⟩, turn⟩ := hw
  refine wpAny_newObj_type (wpAny_newFunctionEnv S.nocell (by intro y hy; simp at hy) (fun h₁ hns₁ hsb₁ => ?_) S.kind)
  dsimp only at hns₁ hsb₁ ⊢
  generalize hH2 : s2.heap.push { cls := .type "list", dict := none, data := .seq ([] : List Value).toArray } = HP at hns₁ hsb₁ ⊢
  have hC : HP.objs.size = s2.heap.objs.size + 1 := by rw [← hH2, Heap.size_push]
  have hDC : s2.heap.objs.size ≠ HP.objs.size := by rw [hC]; exact Nat.ne_of_lt (Nat.lt_succ_self _)
  have hCle : s2.heap.objs.size ≤ HP.objs.size := by rw [hC]; exact Nat.le_succ _
  have old : ∀ b o, s2.heap.get? b = some o → h₁.get? b = some o := fun b o e => hsb₁.extBut b o (by rw [hC]; exact Nat.ne_of_lt (Nat.lt_succ_of_lt (Heap.lt_size e))) (Heap.get?_push_of_some _ (hH2 ▸ Heap.get?_push_of_some _ e))
  have hacc : h₁.get? s2.heap.objs.size = some { cls := .type "list", data := .seq ([] : List Value).toArray 0 } := hsb₁.extBut _ _ hDC (Heap.get?_push_of_some _ (hH2 ▸ Heap.get?_push_size _ rfl))
  have hfl : ∀ b ∈ fp, b < s2.heap.objs.size := fun b hb => by
    obtain ⟨o, e, _⟩ := T.obj _ _ st2 b hb
    exact Heap.lt_size e
  generalize hDn : s2.heap.objs.size = D at hDC hCle hacc ⊢
  generalize hCn : HP.objs.size = C at hDC hCle hns₁ ⊢
  have hCs : s2.heap.objs.size ≤ C := by rw [hDn]; exact hCle
  have hDs : s2.heap.objs.size ≤ D := Nat.le_of_eq hDn
  obtain ⟨pg, pt, pe⟩ := hb C s2 H2 fp
  have I0 := S.start (D := D) (fp := fp) (tk := s2.toks + ([] : List (Str × Value)).length) I2 hCs hDs hDC f2 hfl old hns₁ hacc (fun v z => nomatch z)
  have fpY : ∀ {H' : Hp} {pl : List (Addr × Obj)}, (∀ b ∈ fp, H' b = none) → (∀ p ∈ pl, p.1 ∉ fp) → ∀ b ∈ fp, FpOk (cxC X scope C N s2 H2 fp) pl H' b := fun hn hp b hb =>
    ⟨hn b hb, Nat.ne_of_lt (Nat.lt_of_lt_of_le (hfl b hb) hCs), (S.ok I2 hCs f2 hfl).exfs b hb, .inl hb, fun x c e => (f2 b hb).2.2.2.2.1 x c (cl_lookup e).1, fun p hm z => by
      rcases List.mem_append.mp hm with q | q
      · exact absurd (show p ∈ ([] : List (Addr × Obj)) from q) (by simp)
      · exact hp p q (z ▸ hb)⟩
  have dfp : D ∉ fp := fun z => absurd (Nat.lt_of_lt_of_le (hfl D z) hDs) (Nat.lt_irrefl _)
  have one : ∀ {ob : Obj}, ∀ p ∈ [(D, ob)], p.1 ∉ fp := fun p hp => by
    have e := List.mem_singleton.mp hp
    subst e; exact dfp
  have loop : ∀ s₃ : Shared, s₃ = { s2 with heap := h₁, toks := s2.toks + ([] : List (Str × Value)).length } →
      codeAny (model X.prog X.w) X.A (.compLoop (.ListComp elt [⟨tg, iter, ifs, 0⟩] scope pos) 0 (.ref it) (.ref D) (compEnvC scope (clOf X.env scope.names []) C X.env)) (RR (.ref D) C) s₃ := by
    rintro s₃ rfl
    refine codeAny_loop rfl (fun n s' => ∃ (i : Nat) (ys : List V) (H' : Hp) (its : List Value) (k : Nat), Inv (cxC X scope C N s2 H2 fp) [(D, { cls := .type "list", data := .seq its.toArray k })] (stC js σ) H' s' ∧ Vals ys its ∧ ys.length ≤ sizeLine ∧ tn i s'.heap ∧ (∀ b ∈ fp, H' b = none) ∧ W i n ys H') ?_ m0 ?_
    · rintro n s3 ⟨i, ys, H3, its, k, I3, rv, hz, st3, fr3, w3⟩
      show wpAny _ X.A ((compTurn (.ListComp elt [⟨tg, iter, ifs, 0⟩] scope pos) 0 (.ref it) (.ref D) (compEnvC scope (clOf X.env scope.names []) C X.env)).onRaise (fun x => do noteFrame x _; theTreesLotGoes x)) _ _ s3
      refine wpAny_noted (wpAny_noRaise ?_)
      rw [compTurn_list]
      rcases turn i n ys H3 w3 with ⟨stop, qn⟩ | ⟨goes, hlt, Nx, hN, step⟩
      · refine wpAny_bind (wpAny_standAt (wpAny_bind (thn (T.done (cxC X scope C N s2 H2 fp) rfl rfl rfl hc i _ s3 (stC js σ) H3 (fun _ _ => False) I3 (fpY fr3 one) st3 stop) fun r s4 ⟨hr, I4⟩ => ?_)))
        subst hr
        refine wpAny_pure ?_
        have pD := I4.pin (D, { cls := .type "list", data := .seq its.toArray k }) (by simp [cxC])
        obtain ⟨mC, hnC, _⟩ := id I4.loc
        have IX : Inv X pins σ (upd H3 D (.lst ys)) s4 := by
          refine I2.call' (ch := fp) I4.os (Un.more I4.base (Heap.get?_none_of_le hDs) (I2.hok.fresh hDs)) (HOk.more I4.hok pD.2.1 ⟨hz, its, k, rv, pD.1⟩) I4.bare fun b hb => ?_
          obtain ⟨_, f1, _, f3, f4, f5⟩ := f2 b hb
          exact ⟨f3, f1, f4, f5⟩
        exact hRR C D ys H3 s4 mC hCs hDs hDC IX I4.free pD.2.1 hnC qn
      · refine wpAny_bind (wpAny_standAt (wpAny_bind (thn (T.item (cxC X scope C N s2 H2 fp) rfl rfl rfl hc i _ s3 (stC js σ) H3 (fun _ _ => False) I3 (fpY fr3 one) st3 goes) fun r s4 ⟨u, hr, h4⟩ => ?_)))
        subst hr
        refine wpAny_bind (thn h4 fun _ s5 ⟨x, H5, I5, r5, y5, st5, fr5⟩ => ?_)
        have I5' := I5.pinned (fpY fr5 one) (T.obj _ _ st5)
        refine wpAny_bind (thn (pg _ s5 (stC js σ) H5 x u _ I5' r5 (go _ _ _ _ (step x H5 y5))) fun _ s6 ⟨σ6, H6, I6, ⟨q6, l6, e6⟩⟩ => ?_)
        have weak : ∀ {pl : List (Addr × Obj)} {H7 : Hp} {s7 : Shared}, Inv (cxC X scope C N s2 H2 fp) pl σ6 H7 s7 → Inv (cxC X scope C N s2 H2 fp) pl (stC js σ) H7 s7 := fun {pl H7 s7} I7 => by
          refine I7.weak l6.symm fun j v hj => ?_
          cases e : js[j]? with
          | none => unfold stC at hj; rw [List.getElem?_map, e] at hj; cases hj
          | some o =>
            cases o with
            | none => unfold stC at hj; rw [List.getElem?_map, e] at hj; cases hj
            | some j' => rw [e6 j j' e]; exact hj
        have keepN : ∀ {H7 : Hp} {s7 : Shared} {pl : List (Addr × Obj)}, Inv (cxC X scope C N s2 H2 fp) (pl ++ pinsAt fp s5.heap) (stC js σ) H7 s7 → tn (i + 1) s7.heap ∧ ∀ b ∈ fp, H7 b = none := fun {H7 s7 pl} I7 => by
          refine ⟨T.keep _ _ _ st5 fun b hb o e => (I7.pin (b, o) (List.mem_append_right _ (List.mem_append_right _ (mem_pinsAt hb e)))).1, fun b hb => ?_⟩
          obtain ⟨o, e, d⟩ := T.obj _ _ st5 b hb
          exact (I7.pin (b, o) (List.mem_append_right _ (List.mem_append_right _ (mem_pinsAt hb e)))).2.1
        refine wpAny_bind (thn (pt _ s6 σ6 H6 _ _ I6 q6) fun ok s7 ⟨H7, I7, q7⟩ => ?_)
        cases ok with
        | false =>
          rw [if_neg Bool.false_ne_true] at q7
          refine wpAny_pure ⟨rfl, ?_⟩
          obtain ⟨m', hm, w7⟩ := hN ys H7 q7
          have I7' := weak I7
          obtain ⟨k1, k2⟩ := keepN I7'
          exact ⟨m', hm, i + 1, ys, H7, its, k, I7'.unpinned, rv, hz, k1, k2, w7⟩
        | true =>
          rw [if_pos rfl] at q7
          show wpAny _ _ ((eval elt _ >>= fun x => call (.builtin "list.append") [.ref D, x] >>= fun _ => pure ()) >>= fun _ => again _) _ _ _
          refine wpAny_bind (wpAny_bind (thn (pe _ s7 σ6 H7 _ I7 q7) fun y s8 ⟨yv, H8, I8, r8, q8⟩ => ?_))
          obtain ⟨m', hm, w8⟩ := hN (ys ++ [yv]) H8 q8
          have I8' := weak I8
          obtain ⟨k1, k2⟩ := keepN I8'
          have pD := I8'.pin (D, { cls := .type "list", data := .seq its.toArray k }) (by simp [cxC])
          have hln := rv.length
          refine wpAny_bind (call_meets F.slot_list_append ⟨_, pD.1, rfl⟩ F.entry_list_append (F.args_list_append_2 _ _) (PySem.list_append D its.toArray k y (by rw [List.size_toArray]; omega)) ⟨pD.1, ?_⟩)
          refine wpAny_pure (wpAny_pure ⟨rfl, m', hm, i + 1, ys ++ [yv], H8, its ++ [y], ?_⟩)
          have q := PySem.IsL.update pD.1 (fun z => z.push y)
          have eA : its.toArray.push y = (its ++ [y]).toArray := by simp
          rw [eA] at q
          have I9 : Inv (cxC X scope C N s2 H2 fp) [] (stC js σ) H8 s8 := I8'.pins_of fun p hp => absurd hp (by simp)
          have hob : ∀ b o, b ≠ D → s8.heap.get? b = some o → (s8.heap.update D (Obj.mapSeq fun z => z.push y)).get? b = some o := fun b o hb hu => (Heap.get?_update_other s8.heap _ (Ne.symm hb)).trans hu
          have I10 : Inv (cxC X scope C N s2 H2 fp) [] (stC js σ) H8 { s8 with heap := s8.heap.update D (Obj.mapSeq fun z => z.push y), toks := s8.toks } := I9.turned hob pD.2.1 pD.2.2.1 (.inr hDs)
            (fun x c e z => by
              obtain ⟨v, oc, q1, q2⟩ := I2.cell x c (cl_lookup e).1
              rw [z] at q1
              exact absurd (Nat.lt_of_lt_of_le (Heap.lt_size q1) hDs) (Nat.lt_irrefl _))
            (fun p hp => by
              rcases List.mem_append.mp hp with q | q
              · exact absurd (show p ∈ ([] : List (Addr × Obj)) from q) (by simp)
              · exact absurd q (by simp))
          refine ⟨(if ((its ++ [y]).toArray).size == its.toArray.size then k else k + 1), I10.pins_of fun p hp => ?_, rv.append (.cons r8 .nil), ?_, ?_, k2, w8⟩
          · have e := List.mem_singleton.mp hp
            subst e
            exact ⟨q, pD.2.1, pD.2.2.1, pD.2.2.2.1, fun v z => nomatch z⟩
          · rw [List.length_append, List.length_singleton]; omega
          · exact T.keep _ _ _ k1 fun b hb o e => hob b o (fun z => dfp (z ▸ hb)) e
    · exact ⟨0, [], H2, [], 0, I0, .nil, Nat.zero_le _, T.keep _ _ _ st2 fun b _ o e => old b o e, fun b hb => (f2 b hb).1, w0⟩
  exact codeAny_compStart_list (loop _ rfl) (T.self _ 0 _ _ _ (T.keep _ _ _ st2 fun b _ o e => old b o e) (loop _ rfl))
theorem pe_comp (hc : X.calm = true) (S : CompScope X scope N js) (go : GOwn js g) (hi : PI X tg iter wi)
    (hb : ∀ (C : Addr) (s₂ : Shared) (H₂ : Hp) (fp : List Addr), PG (cxC X scope C N s₂ H₂ fp) tg g ∧ PTs (cxC X scope C N s₂ H₂ fp) ifs tt ∧ PE (cxC X scope C N s₂ H₂ fp) elt te)
    (hs : ∀ x, foldedSetIterable iter X.env x = pure x := by intro _; rfl) : PE X (.ListComp elt [⟨tg, iter, ifs, 0⟩] scope pos) (tComp wi js g tt te) := by
  intro pins s σ H Q I h
  rw [eval_ListComp]
  refine wpAny_comprehension_free (use := none) rfl hs (closure_ok fun y hy hk => I.ok.has y.1 (S.out y hy hk)) S.kind S.loc (thn (hi pins s σ H _ I h) fun v s1 h1 => thn h1 fun itv s2 h2 => ?_)
  obtain ⟨it, fp, tn, J, H2, e, I2, T, st2, f2, hw⟩ := h2
  subst e
  refine comp_block (RR := fun acc C => compPost (model X.prog X.w) X.A X.xe none (EP X pins σ Q) acc C) hc S go hb I2 T st2 f2 hw ?_
  intro C D ys H3 s3 m hC hD hDC I3 fC fD hn q
  refine ⟨m, hn, fun h' hs' => ?_⟩
  refine ⟨.ref D, upd H3 D (.lst ys), I3.turned (it := C) (t' := s3.toks) (fun b o hb e => (hs'.2 b hb).trans e) (by rw [upd_ne (Ne.symm hDC)]; exact fC) ?_ (.inr (Nat.le_trans I2.sz hC)) ?_ ?_, rfl, q D fD⟩
  · exact Nat.ne_of_gt (Nat.lt_of_lt_of_le I2.lt hC)
  · intro x c e z
    obtain ⟨v, oc, q1, q2⟩ := I2.cell x c e
    rw [z] at q1
    exact absurd (Nat.lt_of_lt_of_le (Heap.lt_size q1) hC) (Nat.lt_irrefl _)
  · intro p hp z
    have := Heap.lt_size (I2.pin p hp).1
    rw [z] at this
    exact absurd (Nat.lt_of_lt_of_le this hC) (Nat.lt_irrefl _)
theorem ps_comp {i : Nat} {y : Str} {py spos : Pos} (hN : X.N.Nodup) (hy : X.N[i]? = some y) (hx : Loc X.env.scope y) (hc : X.calm = true) (S : CompScope X scope N js) (go : GOwn js g) (hi : PI X tg iter wi)
    (hb : ∀ (C : Addr) (s₂ : Shared) (H₂ : Hp) (fp : List Addr), PG (cxC X scope C N s₂ H₂ fp) tg g ∧ PTs (cxC X scope C N s₂ H₂ fp) ifs tt ∧ PE (cxC X scope C N s₂ H₂ fp) elt te)
    (hsw : swapsWith (.ListComp elt [⟨tg, iter, ifs, 0⟩] scope pos) (some (.Name y py)) spos.line X.env = pure true)
    (hs : ∀ x, foldedSetIterable iter X.env x = pure x := by intro _; rfl) (hf : X.fn y = true ∨ X.env.scope.names.lookup y = some .local := by first | exact .inl rfl | exact .inr rfl | assumption) :
    PS X (.Assign [.Name y py] (.ListComp elt [⟨tg, iter, ifs, 0⟩] scope pos) spos) (sComp i wi js g tt te) := by
  intro pins s σ H D I h
  rw [exec_Assign_Name_used _ _ _ _ hsw]
  refine wpAny_bind (wpAny_standAt (wpAny_bind ?_))
  show wpAny _ X.A (do let _ ← comprehension (.ListComp elt [⟨tg, iter, ifs, 0⟩] scope pos) scope X.env _ (newList []) false (eval iter X.env) (some (assign (.Name y py) X.env))) _ _ s
  refine wpAny_bind (thn (wpAny_comprehension_free (use := some (assign (.Name y py) X.env)) (Q := fun _ s' => SP X pins D .next s') rfl hs (closure_ok fun y hy hk => I.ok.has y.1 (S.out y hy hk)) S.kind S.loc
    (thn (hi pins s σ H _ I h) fun v s1 h1 => thn h1 fun itv s2 h2 => ?_)) fun _ s' hq => wpAny_pure (wpAny_pure hq))
  obtain ⟨it, fp, tn, J, H2, e, I2, T, st2, f2, hw⟩ := h2
  subst e
  refine comp_block (RR := fun acc C => compPost (model X.prog X.w) X.A X.xe (some (assign (.Name y py) X.env)) (fun _ s' => SP X pins D .next s') acc C) hc S go hb I2 T st2 f2 hw ?_
  intro C Da ys H3 s3 m hC hD hDC I3 fC fD hn q
  have cne : ∀ x c, X.env.cells.lookup x = some c → c ≠ C := fun x c e z => by
    obtain ⟨v, oc, q1, q2⟩ := I2.cell x c e
    rw [z] at q1
    exact absurd (Nat.lt_of_lt_of_le (Heap.lt_size q1) hC) (Nat.lt_irrefl _)
  have lne : C ≠ X.env.locals := Nat.ne_of_gt (Nat.lt_of_lt_of_le I2.lt hC)
  show wpAny _ X.A (assign (.Name y py) X.env (.ref Da)) _ _ _
  refine wpAny_assign_Name (store_ok2 (v := .ref Da) I3 hN hy hx rfl (fun s4 I4 hs4 => ?_) hf)
  obtain ⟨a, hsb, ha⟩ := hs4
  have aC : C ≠ a := by
    rcases ha with z | z
    · rw [z]; exact lne
    · exact Ne.symm (cne y a z)
  refine ⟨m, hn.sameBut hsb aC, fun h' hs' => ?_⟩
  refine ⟨_, _, I4.turned (it := C) (t' := s4.toks) (fun b o hb e => (hs'.2 b hb).trans e) (by rw [upd_ne (Ne.symm hDC)]; exact fC) lne (.inr (Nat.le_trans I2.sz hC)) cne ?_, q Da fD⟩
  intro p hp z
  have := Heap.lt_size (I2.pin p hp).1
  rw [z] at this
  exact absurd (Nat.lt_of_lt_of_le this hC) (Nat.lt_irrefl _)
end
end L2
namespace L2
open PySem PySem.Spec PyProof.Rows
section
variable {X : Cx} {tg : Expr}
end
abbrev tx (l : List Nat) : Str := ⟨l.toArray⟩
theorem tx_cps (x : Str) : tx x.cps.toList = x := by cases x; simp
theorem tx_len (l : List Nat) : (tx l).length = l.length := by simp [Str.length]
theorem app_len (x y : Str) : (x ++ y).length = x.length + y.length := by
  show (Str.append x y).length = _
  unfold Str.append Str.length
  simp
def cut {α : Type} (xs : List α) (lo hi : Option Int) : List α := (xs.drop (HT.sIx xs.length 0 lo)).take (HT.sIx xs.length xs.length hi - HT.sIx xs.length 0 lo)
section
variable {X : Cx}
theorem strsAre_of {ns : List Str} : ∀ {us : List Value}, Vals (ns.map V.str) us → StrsAre us ns := by
  induction ns with
  | nil => intro us r; rw [List.map_nil] at r; cases r; exact .nil
  | cons n ns ih =>
    intro us r
    rw [List.map_cons] at r
    cases r with
    | cons r1 r2 =>
      obtain ⟨t, e⟩ := r1
      subst e
      exact .cons n t (ih r2)
def rJoin (K : W.Frag) : V → List V → Hp → VK → Prop := fun x vs H Q => ∃ sep p ys, x = .str sep ∧ vs = [.ref p] ∧ SqL K H p (ys.map V.str) ∧ (ys.map (·.length)).sum + ys.length * sep.length ≤ 16777216 ∧ Q (.str (Txt.join sep ys)) H
theorem mt_join : MtR X "str.join" (rJoin X.K) := by
  intro pins s σ H x vs v us Q I rx rv h
  obtain ⟨sep, p, ys, rfl, rfl, hq, hz, q⟩ := h
  obtain ⟨t, rfl⟩ := rx
  obtain ⟨u, rfl, ru⟩ := rv.one
  cases ru
  obtain ⟨its, r, pl, _⟩ := I.list hq
  exact join_list pl.isList (by simpa using strsAre_of r) hz fun t' k => ⟨.str _, H, I.tok _, ⟨_, rfl⟩, q⟩
def rIsi (K : W.Frag) : List V → Hp → VK → Prop := fun vs H Q => ∃ x T t b, vs = [x, .ty T] ∧ TyOf K H x t ∧ W.kitOne K t (.type T) = some b ∧ Q (.bl b) H
theorem call_isi : CallR X (.builtin "isinstance") (rIsi X.K) := by
  intro pins s σ H xs us Q I r h
  obtain ⟨x, T, t, b, rfl, ty, e, q⟩ := h
  obtain ⟨u, c, rfl, ru, rc⟩ : ∃ u c, us = [u, c] ∧ RelV x u ∧ RelV (.ty T) c := by
    cases r with
    | cons p q =>
      cases q with
      | cons p' q' =>
        cases q'
        exact ⟨_, _, rfl, p, p'⟩
  cases (show c = Value.type T from rc)
  exact isinst_ok I ru ty e fun tk => ⟨.bl b, H, I.tok _, rfl, q⟩
def rSum (K : W.Frag) : List V → Hp → VK → Prop := fun vs H Q => ∃ (p : Addr) (ns : List Int), vs = [.ref p] ∧ SqL K H p (ns.map V.int) ∧ Q (.int (List.sum ns)) H
theorem call_sum (hc : X.calm = true) : CallR X (.builtin "sum") (rSum X.K) := by
  intro pins s σ H xs us Q I r h
  obtain ⟨p, ns, rfl, hq, q⟩ := h
  obtain ⟨u, rfl, ru⟩ := vals1 r
  cases ru
  obtain ⟨its, rv, pl, hz⟩ := I.list hq
  have hi := intsAre_of rv
  obtain ⟨xs, hx⟩ := hi.allInts.items
  have hl' : s.heap.IsList p (intItems xs) := hx ▸ pl.isList
  refine sum_intListG (I.ok.hd hc) hl' fun h' tk t' hk => ?_
  have e1 : ns = xs.toList.map (·.1) := by
    rw [← nums_intItems, ← hx]
    exact (show numsOf its.toArray.toList = ns from hi.numsOf).symm
  have e2 : preSum (numAt xs) xs.size = ns.sum := by
    rw [preSum_eq, List.take_of_length_le (by simp), e1]
  rw [e2]
  exact ⟨.int _, H, I.kept hk, ⟨_, rfl⟩, q⟩
end
section
variable {prog : Program} {w : World} {A : Around} {E : Value → Shared → Prop} {s : Shared}
theorem nolen_lri : typeLookup (.type "list_reverseiterator") "__len__" = pure none := by rw [typeLookup_type, builtinLookup_eq_fast]; kernel_rfl
theorem hint_lri : typeLookup (.type "list_reverseiterator") "__length_hint__" = pure (some (.builtin "list_reverseiterator.__length_hint__")) := by rw [typeLookup_type, builtinLookup_eq_fast]; kernel_rfl
theorem lri_hint {r : Addr} {Q : Bool → Shared → Prop} (hT : s.TypeIs (.ref r) "list_reverseiterator") (h : Q false s) : wpAny (model prog w) A (Builtin.List.listLengthHint (.ref r)) Q E s := by
  unfold Builtin.List.listLengthHint
  refine wpAny_bind (wpAny_specialOf hT nolen_lri ?_)
  show wpAny _ A (specialOf (Value.ref r) (Str.ofString "__length_hint__") >>= _) _ _ _
  refine wpAny_bind (wpAny_specialOf hT hint_lri ?_)
  generalize hid : ("list_reverseiterator.__length_hint__" : String) = id0
  wp_delta
  rw [show splitId id0 = some ("list_reverseiterator", "__length_hint__") from by subst hid; decide +kernel]
  subst hid
  refine wpAny_bind (wpAny_isInstance (T := "list_reverseiterator") (b := true) hT (by rw [isSubtype_type]; kernel_rfl) ?_)
  exact wpAny_pure h
theorem call_list_rev {l : Addr} {items : Array Value} {Q : Value → Shared → Prop} (hh : A.handled = none) (hl : s.heap.IsList l items) (hn : items.size ≤ sizeLine)
    (hQ : ∀ h' tk acc' c', (∀ b o, s.heap.get? b = some o → h'.get? b = some o) → h'.get? (s.heap.objs.size + 1) = some { cls := .type "list", dict := none, data := .seq acc' c', slots := #[] } →
      acc'.toList = items.toList.reverse → Q (.ref (s.heap.objs.size + 1)) { s with heap := h', toks := tk }) :
    wpAny (model prog w) A (call (.type "list") [.ref s.heap.objs.size]) Q E { s with heap := s.heap.push (revObj l ((items.size : Int) - 1)) } := by
  have hlt : l < s.heap.objs.size := by obtain ⟨_, e, _⟩ := hl; exact Heap.lt_size e
  have hsz : (s.heap.push (revObj l ((items.size : Int) - 1))).objs.size = s.heap.objs.size + 1 := Heap.size_push ..
  have W := (Walks.listRev (prog := prog) (w := w) (A := A.in1.in1) hh s.heap.objs.size l (Nat.ne_of_lt hlt) items).toS
  refine callType_codes (Q₁ := fun obj s₁ => obj = .ref (s.heap.objs.size + 1) ∧ s₁ = { s with heap := (s.heap.push (revObj l ((items.size : Int) - 1))).push { cls := .type "list", data := .seq #[] } }) PySem.F.called_list (PySem.F.typeCall_list_1 _) PySem.F.entry_list_init
    (code_list_new _ ⟨by rw [hsz], rfl⟩) fun obj s₁ h₁ => ?_
  obtain ⟨rfl, rfl⟩ := h₁
  have hS : ((s.heap.push (revObj l ((items.size : Int) - 1))).push { cls := .type "list", data := .seq #[] }).get? (s.heap.objs.size + 1) = some { cls := .type "list", data := .seq #[] } := by
    rw [← hsz]; exact Heap.get?_push_size _ rfl
  refine ⟨⟨_, hS, rfl⟩, PySem.F.args_list_init_2 _ _, ?_⟩
  show wpAny _ _ (do let old ← Builtin.List.listItems (.ref (s.heap.objs.size + 1)); Builtin.List.listUpdate (.ref (s.heap.objs.size + 1)) (fun _ => #[]); letGo old.toList.reverse; Builtin.List.listExtendWith (.ref (s.heap.objs.size + 1)) (.ref s.heap.objs.size) .none) _ _ _
  refine wpAny_bind ?_
  unfold Builtin.List.listItems
  refine wpAny_bind (wpAny_seqItems hS rfl (wpAny_pure ?_))
  show wpAny _ _ (updateSeq (s.heap.objs.size + 1) (fun _ => #[]) >>= fun _ => letGo (#[] : Array Value).toList.reverse >>= fun _ => Builtin.List.listExtendWith (.ref (s.heap.objs.size + 1)) (.ref s.heap.objs.size) .none) _ _ _
  refine wpAny_bind (wpAny_updateSeq hS rfl ?_)
  have hS₂ := Heap.get?_update_self (Obj.mapSeq (fun _ => (#[] : Array Value))) hS rfl
  generalize hH : (((s.heap.push (revObj l ((items.size : Int) - 1))).push { cls := .type "list", data := .seq #[] }).update (s.heap.objs.size + 1) (Obj.mapSeq (fun _ => (#[] : Array Value)))) = H2 at hS₂ ⊢
  have oth : ∀ b o, b ≠ s.heap.objs.size + 1 → (s.heap.push (revObj l ((items.size : Int) - 1))).get? b = some o → H2.get? b = some o :=
    fun b o hb e => by rw [← hH]; exact (Heap.get?_update_other _ _ (Ne.symm hb)).trans (Heap.get?_push_of_some _ e)
  refine wpAny_bind (wpAny_letGo ?_)
  have hit : H2.IsRevIter s.heap.objs.size l ((items.size : Int) - 1) := ⟨_, oth _ _ (Nat.ne_of_lt (Nat.lt_succ_self _)) (Heap.get?_push_size _ rfl), rfl, rfl⟩
  have hl2 : H2.IsList l items := hl.at fun o e => oth l o (Nat.ne_of_lt (Nat.lt_succ_of_lt hlt)) (Heap.get?_push_of_some _ e)
  have hT : ∀ s' : Shared, s'.heap = H2 → s'.TypeIs (.ref s.heap.objs.size) "list_reverseiterator" := fun s' e => by
    obtain ⟨o, ho, hc, _⟩ := hit
    exact ⟨o, by rw [e]; exact ho, hc⟩
  unfold Builtin.List.listExtendWith
  refine wpAny_bind (wpAny_typeOf (T := "list_reverseiterator") (hT _ rfl) ?_)
  have h1 : Builtin.List.listSameRef (.ref (s.heap.objs.size + 1)) (.ref s.heap.objs.size) = false := by simp [Builtin.List.listSameRef]
  have h2 : (Value.type "list_reverseiterator" == Value.type "list") = false := by decide
  have h3 : (Value.type "list_reverseiterator" == Value.type "tuple") = false := by decide
  simp only [h1, h2, h3, Bool.or_false, Bool.false_eq_true, if_false]
  refine wpAny_bind (wpAny_pyIter_revIter hit ?_)
  refine wpAny_bind (wpAny_holding (lri_hint (hT _ rfl) ?_))
  rw [if_neg (by decide)]
  have hSf : s.heap.objs.size + 1 ∉ [s.heap.objs.size, l] := by
    intro hm
    rcases List.mem_cons.mp hm with e | hm
    · exact Nat.succ_ne_self _ e
    · have e := List.mem_singleton.mp hm
      exact absurd hlt (by rw [← e]; exact Nat.not_lt.mpr (Nat.le_succ _))
  refine wpAny_pure ⟨plainId_quiet PySem.F.plain_extend_loop _, codeAny_extend_loopS W hn _ hSf _ items.size 0 _ #[] _ rfl (Nat.zero_le _) ⟨Nat.zero_le _, by simpa using hit, hl2⟩ hS₂ (ItemsOf.nil _) fun s' acc' c' hm hS' hacc => ?_⟩
  rw [Moved.eq_with hm]
  refine ⟨rfl, hQ s'.heap s'.toks acc' c' (fun b o e => hm.heap b o (fun hmem => ?_) (oth b o ?_ (Heap.get?_push_of_some _ e))) hS' ?_⟩
  · have := Heap.lt_size e
    rcases List.mem_cons.mp hmem with q | q
    · rw [q] at this; exact absurd this (Nat.not_lt.mpr (Nat.le_succ _))
    · rw [List.mem_singleton.mp q] at this; exact absurd this (Nat.lt_irrefl _)
  · have := Heap.lt_size e
    exact Nat.ne_of_lt (Nat.lt_succ_of_lt this)
  · refine List.ext_getElem? fun j => ?_
    by_cases hj : j < items.size
    · have hj' : j < acc'.size := by rw [hacc.1]; exact hj
      have e1 := hacc.2 j _ (Array.getElem?_eq_getElem hj')
      rw [Array.getElem?_toList, Array.getElem?_eq_getElem hj', List.getElem?_reverse (by simpa using hj), Array.getElem?_toList, Array.length_toList]
      exact e1.symm
    · rw [List.getElem?_eq_none (by rw [Array.length_toList, hacc.1]; omega), List.getElem?_eq_none (by rw [List.length_reverse, Array.length_toList]; omega)]
end
section
variable {X : Cx} {e : Expr} {te : TE} {p p2 pos pos2 : Pos}
theorem Vals.rev : ∀ {xs : List V} {us : List Value}, Vals xs us → Vals xs.reverse us.reverse := fun {xs us} r => Vals.reverse r
def tRev (K : W.Frag) (te : TE) : TE := fun σ H Q => te σ H fun x H1 => ∃ (a : Addr) (xs : List V), x = .ref a ∧ SqL K H1 a xs ∧ ∀ l, H1 l = none → Q (.ref l) (upd H1 l (.lst xs.reverse))
theorem pe_listrev (hc : X.calm = true) (hg : Gl X "list") (hm : X.mg "list" = none) (hg2 : Gl X "reversed") (hm2 : X.mg "reversed" = none) (he : PE X e te)
    (hs : starEach [e] X.env = [(false, eval e X.env)] := by rfl)
    (hs2 : starEach [.Call (.Name "reversed" p2) [e] [] pos2] X.env = [(false, eval (.Call (.Name "reversed" p2) [e] [] pos2) X.env)] := by rfl) :
    PE X (.Call (.Name "list" p) [.Call (.Name "reversed" p2) [e] [] pos2] [] pos) (tRev X.K te) := by
  intro pins s σ H Q I h
  refine wpAny_Call_Name_kw (ld_blt I hg hm boot_list ?_)
  refine PyProof.Rows.callWith_type1 ?_ hs2 rfl
  rw [hs2]
  show wpAny _ _ (spliced ((false, eval (.Call (.Name "reversed" p2) [e] [] pos2) X.env) :: backTo pos [])) _ _ s
  refine Calls.spliced_cons ?_
  refine wpAny_Call_Name_kw (ld_blt I hg2 hm2 boot_reversed ?_)
  refine PyProof.Rows.callWith_type1 ?_ hs rfl
  rw [hs]
  show wpAny _ _ (spliced ((false, eval e X.env) :: backTo pos2 [])) _ _ s
  refine Calls.spliced_cons (thn (he pins s σ H _ I h) fun u s1 ⟨x, H1, I1, r1, a, xs, ex, hq, q⟩ => ?_)
  subst ex
  cases r1
  refine Calls.spliced_nil ?_
  obtain ⟨its, rv, pl, hz⟩ := I1.list hq
  refine call_reversed_list pl.isList ?_
  refine Calls.spliced_nil ?_
  refine call_list_rev (I1.ok.hd hc) pl.isList (by rw [List.size_toArray, ← rv.length]; exact hz) fun h' tk acc' c' hk hS hrev => ?_
  have e1 : acc' = its.reverse.toArray := by
    rw [← Array.toArray_toList (xs := acc'), hrev]
  subst e1
  refine ⟨.ref (s1.heap.objs.size + 1), _, I1.laid (t' := tk) (o := .lst xs.reverse) hk (Nat.le_succ _) ⟨by rw [List.length_reverse]; exact hz, its.reverse, c', rv.rev, hS⟩, rfl, q _ (I1.hok.fresh (Nat.le_succ _))⟩
end
section
variable {X : Cx}
def rEqNil (K : W.Frag) (neg : Bool) : R2 := fun x y H Q => ∃ (a b : Addr) (xs : List V), x = .ref a ∧ y = .ref b ∧ SqL K H a xs ∧ SqL K H b [] ∧ Q (.bl (if neg then !xs.isEmpty else xs.isEmpty)) H
theorem nil_items {us : List Value} (r : Vals [] us) : us = [] := by cases r; rfl
theorem op_eqNil (hu : X.A.units < cLine) : OpR X (compareOp .Eq) (rEqNil X.K false) := by
  intro pins s σ H x y v u Q I rx ry h
  obtain ⟨a, b, xs, rfl, rfl, h1, h2, q⟩ := h
  cases rx
  cases ry
  obtain ⟨its, r1, p1, _⟩ := I.list h1
  obtain ⟨its2, r2, p2, _⟩ := I.list h2
  have e2 := nil_items r2
  subst e2
  have hl := r1.length
  cases xs with
  | nil =>
    have e1 := nil_items r1
    subst e1
    exact SeqAt.eq_listAt (e := fun _ => true) p1.isList p2.isList rfl hu (fun j h => absurd h (by simp)) ⟨.bl true, H, I, rfl, q⟩
  | cons z zs =>
    exact SeqAt.eq_list_lengthsAt p1.isList p2.isList (by simp only [List.size_toArray, ← hl]; simp) hu ⟨.bl false, H, I, rfl, q⟩
theorem op_neNil (hu : X.A.units < cLine) : OpR X (compareOp .NotEq) (rEqNil X.K true) := by
  intro pins s σ H x y v u Q I rx ry h
  obtain ⟨a, b, xs, rfl, rfl, h1, h2, q⟩ := h
  cases rx
  cases ry
  obtain ⟨its, r1, p1, _⟩ := I.list h1
  obtain ⟨its2, r2, p2, _⟩ := I.list h2
  have e2 := nil_items r2
  subst e2
  have hl := r1.length
  cases xs with
  | nil =>
    have e1 := nil_items r1
    subst e1
    exact SeqAt.RcNeAt.lists (e := fun _ => true) p1.isList p2.isList rfl hu (fun j h => absurd h (by simp)) _ _ _ _ ⟨.bl false, H, I, rfl, q⟩
  | cons z zs =>
    exact SeqAt.RcNeAt.lists_lengths p1.isList p2.isList (by simp only [List.size_toArray, ← hl]; simp) hu _ _ _ _ ⟨.bl true, H, I, rfl, q⟩
end
end L2
namespace L2
open PySem PySem.Spec PyProof.Rows
def mB (x : V) (k : Bool → Prop) : Prop := match x with | .bl b => k b | _ => False
def mI (x : V) (k : Int → Prop) : Prop := match x with | .int b => k b | _ => False
def mS (x : V) (k : Str → Prop) : Prop := match x with | .str b => k b | _ => False
def mR (x : V) (k : Addr → Prop) : Prop := match x with | .ref b => k b | _ => False
theorem mB_eq (x : V) (k : Bool → Prop) : mB x k = ∃ b, x = .bl b ∧ k b := by
  cases x <;> simp [mB]
theorem mI_eq (x : V) (k : Int → Prop) : mI x k = ∃ b, x = .int b ∧ k b := by
  cases x <;> simp [mI]
theorem mS_eq (x : V) (k : Str → Prop) : mS x k = ∃ b, x = .str b ∧ k b := by
  cases x <;> simp [mS]
theorem mR_eq (x : V) (k : Addr → Prop) : mR x k = ∃ b, x = .ref b ∧ k b := by
  cases x <;> simp [mR]
theorem szl {n : Nat} (h : Nat.ble n 1000 = true) : n ≤ sizeLine := Nat.le_trans (Nat.le_of_ble_eq_true h) (by decide)
theorem szl' {n : Nat} (h : n ≤ 1000) : n ≤ sizeLine := Nat.le_trans h (by decide)
section
variable {X : Cx} {a b c e : Expr} {ta tb tc te : TE} {pos : Pos}
def vr (i : Nat) : TE := fun σ H Q => match σ[i]? with | some (some v) => Q v H | _ => False
theorem vr_eq (i : Nat) : vr i = tVar i := by
  funext σ H Q
  unfold vr tVar
  apply propext
  cases σ[i]? with
  | none => simp
  | some o => cases o <;> simp
theorem xv (i : Nat) {x : Str} {pos : Pos} (hN : X.N[i]? = some x := by rfl) (hv : Vis X.env.scope x := by first | exact Or.inl rfl | exact Or.inr (Or.inl rfl) | exact Or.inr (Or.inr rfl)) (hd : (x == ("__debug__" : Str)) = false := by decide)
    (hcd : (x == ("__classdict__" : Str)) = false := by decide) : PE X (.Name x pos) (vr i) := by
  rw [vr_eq]; exact pe_var hN hv hd hcd
theorem OpR.imp {f : Value → Value → Sem Value} {r r' : R2} (h : OpR X f r) (hi : ∀ x y H Q, r' x y H Q → r x y H Q) : OpR X f r' := fun pins s σ H x y v u Q I rx ry q => h pins s σ H x y v u Q I rx ry (hi x y H Q q)
theorem CallR.imp {f : Value} {r r' : List V → Hp → VK → Prop} (h : CallR X f r) (hi : ∀ xs H Q, r' xs H Q → r xs H Q) : CallR X f r' := fun pins s σ H xs us Q I rs q => h pins s σ H xs us Q I rs (hi xs H Q q)
theorem IxR.imp {r r' : R2} (h : IxR X r) (hi : ∀ x y H Q, r' x y H Q → r x y H Q) : IxR X r' := fun value slice pins s σ H x y v u Q I rx ry q => h value slice pins s σ H x y v u Q I rx ry (hi x y H Q q)
theorem SlR.imp {r r' : V → Option Int → Option Int → Hp → VK → Prop} (h : SlR X r) (hi : ∀ x l u H Q, r' x l u H Q → r x l u H Q) : SlR X r' := fun pins s σ H x v vl vu lo hi' sl Q I rx hs pl pu q => h pins s σ H x v vl vu lo hi' sl Q I rx hs pl pu (hi x lo hi' H Q q)
def m2 (C : Int → Int → Prop) (g : Int → Int → V) : R2 := fun x y H Q => mI x fun i => mI y fun j => C i j ∧ Q (g i j) H
def m20 (g : Int → Int → V) : R2 := fun x y H Q => mI x fun i => mI y fun j => Q (g i j) H
theorem m20_imp {g : Int → Int → V} (x y : V) (H : Hp) (Q : VK) (h : m20 g x y H Q) : rI0 g x y H Q := by
  unfold m20 at h
  rw [mI_eq] at h
  obtain ⟨i, rfl, h⟩ := h
  rw [mI_eq] at h
  obtain ⟨j, rfl, h⟩ := h
  exact ⟨i, j, rfl, rfl, h⟩
theorem m2_imp {C : Int → Int → Prop} {g : Int → Int → V} (x y : V) (H : Hp) (Q : VK) (h : m2 C g x y H Q) : rI C g x y H Q := by
  unfold m2 at h
  rw [mI_eq] at h
  obtain ⟨i, rfl, h⟩ := h
  rw [mI_eq] at h
  obtain ⟨j, rfl, hc, h⟩ := h
  exact ⟨i, j, rfl, rfl, hc, h⟩
theorem o_add : OpR X (binaryOp .Add) (m20 fun i j => .int (i + j)) := op_add.imp m20_imp
theorem o_sub : OpR X (binaryOp .Sub) (m20 fun i j => .int (i - j)) := op_sub.imp m20_imp
theorem o_mul : OpR X (binaryOp .Mult) (m2 CMul fun i j => .int (i * j)) := op_mul.imp m2_imp
theorem o_fdiv : OpR X (binaryOp .FloorDiv) (m2 CDiv fun i j => .int (i / j)) := op_fdiv.imp m2_imp
theorem o_mod : OpR X (binaryOp .Mod) (m2 (fun _ j => 0 < j) fun i j => .int (i % j)) := op_mod.imp m2_imp
theorem o_pow : OpR X (binaryOp .Pow) (m2 CPow fun i j => .int (i ^ j.toNat)) := op_pow.imp m2_imp
theorem o_lt : OpR X (compareOp .Lt) (m20 fun i j => .bl (decide (i < j))) := op_lt.imp m20_imp
theorem o_le : OpR X (compareOp .LtE) (m20 fun i j => .bl (decide (i ≤ j))) := op_le.imp m20_imp
theorem o_gt : OpR X (compareOp .Gt) (m20 fun i j => .bl (decide (j < i))) := op_gt.imp m20_imp
def mAddS : R2 := fun x y H Q => mS x fun i => mS y fun j => i.length + j.length ≤ sizeLine ∧ Q (.str (i ++ j)) H
theorem o_addS : OpR X (binaryOp .Add) mAddS := op_add_str.imp fun x y H Q h => by
  unfold mAddS at h
  rw [mS_eq] at h
  obtain ⟨i, rfl, h⟩ := h
  rw [mS_eq] at h
  obtain ⟨j, rfl, hc, h⟩ := h
  exact ⟨i, j, rfl, rfl, hc, h⟩
def mEq : R2 := fun x y H Q => match x, y with
  | .int i, .int j => Q (.bl (decide (i = j))) H
  | .str i, .str j => Q (.bl (decide (i = j))) H
  | .bl i, .bl j => Q (.bl (decide (i = j))) H
  | .non, .non => Q (.bl true) H
  | .int _, .non => Q (.bl false) H | .non, .int _ => Q (.bl false) H
  | .str _, .non => Q (.bl false) H | .non, .str _ => Q (.bl false) H
  | .bl _, .non => Q (.bl false) H | .non, .bl _ => Q (.bl false) H
  | .int _, .str _ => Q (.bl false) H | .str _, .int _ => Q (.bl false) H
  | .bl _, .str _ => Q (.bl false) H | .str _, .bl _ => Q (.bl false) H
  | _, _ => False
def mNe : R2 := fun x y H Q => match x, y with
  | .int i, .int j => Q (.bl (!decide (i = j))) H
  | .str i, .str j => Q (.bl (!decide (i = j))) H
  | .bl i, .bl j => Q (.bl (!decide (i = j))) H
  | .non, .non => Q (.bl false) H
  | .int _, .non => Q (.bl true) H | .non, .int _ => Q (.bl true) H
  | .str _, .non => Q (.bl true) H | .non, .str _ => Q (.bl true) H
  | .bl _, .non => Q (.bl true) H | .non, .bl _ => Q (.bl true) H
  | .int _, .str _ => Q (.bl true) H | .str _, .int _ => Q (.bl true) H
  | .bl _, .str _ => Q (.bl true) H | .str _, .bl _ => Q (.bl true) H
  | _, _ => False
theorem o_eq : OpR X (compareOp .Eq) mEq := op_eq.imp fun x y H Q h => by
  unfold mEq at h
  unfold rEq
  split at h <;> first | exact h.elim | (refine ⟨rfl, ?_⟩; first | simpa using h | exact h)
theorem o_ne : OpR X (compareOp .NotEq) mNe := op_ne.imp fun x y H Q h => by
  unfold mNe at h
  unfold rNe
  split at h <;> first | exact h.elim | (refine ⟨rfl, ?_⟩; first | simpa using h | exact h)
theorem o_isN : OpR X (compareOp .Is) (fun x y H Q => match y with | .non => Q (.bl (decide (x = .non))) H | _ => False) := op_isN.imp fun x y H Q h => by
  cases y <;> first | exact ⟨rfl, h⟩ | exact h.elim
theorem o_notN : OpR X (compareOp .IsNot) (fun x y H Q => match y with | .non => Q (.bl (!decide (x = .non))) H | _ => False) := op_notN.imp fun x y H Q h => by
  cases y <;> first | exact ⟨rfl, h⟩ | exact h.elim
def mT (t : TE) : TT := fun σ H Q => t σ H fun x H' => mB x fun k => Q k H'
theorem mT_eq (t : TE) : mT t = tTest t := by
  funext σ H Q
  unfold mT tTest
  congr 1
  funext x H'
  exact mB_eq x _
theorem mT_eqB (t : TE) : mT t = tB t := by
  funext σ H Q
  unfold mT tB
  congr 1
  funext x H'
  exact mB_eq x _
theorem t_cmp {op : CmpOp} {r : R2} (ho : OpR X (compareOp op) r) (ha : PE X a ta) (hb : PE X b tb) (hm : behindInMarks op b = false := by first | exact nomark _ | rfl) : PT X (.Compare a [op] [b] pos) (mT (tOp r ta tb)) := by
  rw [mT_eq]; exact pt_cmpR ho ha hb hm
theorem x_cmp {op : CmpOp} {r : R2} (ho : OpR X (compareOp op) r) (ha : PE X a ta) (hb : PE X b tb) (hm : behindInMarks op b = false := by first | exact nomark _ | rfl) : PE X (.Compare a [op] [b] pos) (tOp r ta tb) := pe_cmpR ho ha hb hm
def mChain (r r' : R2) (ta tb tc : TE) : TE := fun σ H Q => ta σ H fun x H1 => tb σ H1 fun y H2 => r x y H2 fun z H3 => mB z fun k => (if k = true then tc σ H3 fun w' H4 => r' y w' H4 Q else Q (.bl false) H3)
theorem mChain_eq (r r' : R2) (ta tb tc : TE) : mChain r r' ta tb tc = tChain r r' ta tb tc := by
  funext σ H Q
  unfold mChain tChain
  congr 1
  funext x H1
  congr 1
  funext y H2
  congr 1
  funext z H3
  exact mB_eq z _
theorem t_chain {op op' : CmpOp} {r r' : R2} (ho : OpR X (compareOp op) r) (ho' : OpR X (compareOp op') r') (ha : PE X a ta) (hb : PE X b tb) (hc : PE X c tc)
    (hm : lastMarks [op, op'] [b, c] = false := by with_unfolding_all rfl) : PT X (.Compare a [op, op'] [b, c] pos) (mT (mChain r r' ta tb tc)) := by
  rw [mT_eq, mChain_eq]; exact pt_chain ho ho' ha hb hc hm
theorem t_val {t : TE} (h : PE X e t) (he : ∀ whole, isTrue e X.env whole = (do let v ← whole; standAt e.pos; holding [v] (truthy v)) := by intro _; rfl) : PT X e (mT t) := by
  rw [mT_eqB]; exact pt_val h he
def mIxL (K : W.Frag) : R2 := fun x y H Q => mR x fun p => mI y fun i => ∃ xs, SqL K H p xs ∧ ∃ v, atI xs i = some v ∧ Q v H
def mIxS : R2 := fun x y H Q => mS x fun z => mI y fun i => z.length ≤ sizeLine ∧ ∃ c, atI z.cps.toList i = some c ∧ Q (.str (tx [c])) H
theorem i_list : IxR X (mIxL X.K) := ix_list.imp fun x y H Q h => by
  unfold mIxL at h
  rw [mR_eq] at h
  obtain ⟨p, rfl, h⟩ := h
  rw [mI_eq] at h
  obtain ⟨i, rfl, xs, hq, v, hv, h⟩ := h
  exact ⟨p, xs, i, v, rfl, rfl, hq, hv, h⟩
theorem i_str : IxR X mIxS := ix_str.imp fun x y H Q h => by
  unfold mIxS at h
  rw [mS_eq] at h
  obtain ⟨z, rfl, h⟩ := h
  rw [mI_eq] at h
  obtain ⟨i, rfl, hz, c, hc, h⟩ := h
  exact ⟨z, i, c, rfl, rfl, hz, hc, h⟩
theorem x_ix {r : R2} (hr : IxR X r) (ha : PE X a ta) (hb : PE X b tb) (hs : PlainIx b := by exact fun _ _ => rfl) : PE X (.Subscript a b pos) (tOp r ta tb) := pe_ix hr ha hb hs
def mPart (t : TE) : TO := fun σ H Q => t σ H fun x H1 => mI x fun i => Q (some i) H1
theorem p_some (h : PE X e te) : PO X (some e) (mPart te) := by
  have : mPart te = tPart te := by
    funext σ H Q; unfold mPart tPart; congr 1; funext x H1; exact mI_eq x _
  rw [this]; exact po_some h
def mSlL (K : W.Frag) : V → Option Int → Option Int → Hp → VK → Prop := fun x lo hi H Q => mR x fun a => ∃ xs, SqL K H a xs ∧ ∀ p, H p = none → Q (.ref p) (upd H p (.lst (cut xs lo hi)))
theorem s_list : SlR X (mSlL X.K) := sl_list.imp fun x l u H Q h => by
  unfold mSlL at h
  rw [mR_eq] at h
  obtain ⟨a, rfl, xs, hq, h⟩ := h
  exact ⟨a, xs, rfl, hq, h⟩
theorem c_lenS : CallR X (.builtin "len") (fun vs H Q => match vs with | [.str z] => z.length ≤ sizeLine ∧ Q (.int z.length) H | _ => False) := call_len_str.imp fun vs H Q h => by
  split at h
  · rename_i z
    exact ⟨z, rfl, h.1, h.2⟩
  · exact h.elim
theorem c_lenL : CallR X (.builtin "len") (fun vs H Q => match vs with | [.ref p] => ∃ ys, (SqL X.K H p ys ∨ SqT X.K H p ys) ∧ Q (.int ys.length) H | _ => False) := call_len_seq.imp fun vs H Q h => by
  split at h
  · rename_i p
    obtain ⟨ys, hq, h⟩ := h
    exact ⟨p, ys, rfl, hq, h⟩
  · exact h.elim
theorem c_int : CallR X (.type "int") (fun vs H Q => match vs with | [.bl k] => Q (.int (if k then 1 else 0)) H | _ => False) := call_int1.imp fun vs H Q h => by
  split at h
  · rename_i k
    exact .inr ⟨k, rfl, h⟩
  · exact h.elim
end
inductive Kd where | non | bl | int | str | lst | tup | dct
def kdT : Kd → String | .non => "NoneType" | .bl => "bool" | .int => "int" | .str => "str" | .lst => "list" | .tup => "tuple" | .dct => "dict"
def Kof (H : Hp) : V → Kd → Prop
  | .non, .non => True | .bl _, .bl => True | .int _, .int => True | .str _, .str => True
  | .ref a, .lst => (∃ xs, H a = some (.lst xs)) ∨ ∃ o xs, H a = some (.frz o (.lst xs))
  | .ref a, .tup => ∃ xs, H a = some (.tup xs)
  | .ref a, .dct => ∃ kvs, H a = some (.dK kvs)
  | _, _ => False
def isK : Kd → Kd → Bool | .non, .non => true | .bl, .bl => true | .int, .int => true | .int, .bl => true | .str, .str => true | .lst, .lst => true | .tup, .tup => true | .dct, .dct => true | _, _ => false
theorem kit_K (K : W.Frag) (want k : Kd) : W.kitOne K (.type (kdT k)) (.type (kdT want)) = some (isK want k) := by
  cases want <;> cases k <;> first | rfl | kernel_rfl
theorem ty_K {K : W.Frag} {H : Hp} {x : V} {k : Kd} (h : Kof H x k) : TyOf K H x (.type (kdT k)) := by
  cases x <;> cases k <;> first
    | exact h.elim
    | exact .non
    | exact .bl _
    | exact .int _
    | exact .str _
    | (obtain ⟨xs, e⟩ := h; exact .tup e)
    | (obtain ⟨xs, e⟩ := h; exact .dK e)
    | (rcases h with ⟨xs, e⟩ | ⟨o, xs, e⟩
       · exact .lst e
       · exact .frz e)
def mIsi (want : Kd) : List V → Hp → VK → Prop := fun vs H Q => match vs with
  | [x, y] => y = .ty (kdT want) ∧ ∃ k, Kof H x k ∧ Q (.bl (isK want k)) H
  | _ => False
section
variable {X : Cx}
theorem c_isi (want : Kd) : CallR X (.builtin "isinstance") (mIsi want) := call_isi.imp fun vs H Q h => by
  unfold mIsi at h
  split at h
  · rename_i x y
    obtain ⟨rfl, k, hk, h⟩ := h
    exact ⟨x, _, _, _, rfl, ty_K hk, kit_K X.K want k, h⟩
  · exact h.elim
variable {e : Expr} {te : TE} {p p2 pos : Pos} {T : Str}
def tIsi (want : Kd) (te : TE) : TE := fun σ H Q => te σ H fun x H1 => ∃ k, Kof H1 x k ∧ Q (.bl (isK want k)) H1
theorem x_isi (want : Kd) (he : PE X e te) (hg : Gl X "isinstance") (hm : X.mg "isinstance" = none) (hgT : Gl X T) (hmT : X.mg T = none) (hT : bootBuiltins T = some (.type (kdT want)))
    (hs : starEach [e, .Name T p2] X.env = (false, eval e X.env) :: starEach [.Name T p2] X.env := by rfl) (hs2 : starEach [.Name T p2] X.env = (false, eval (.Name T p2) X.env) :: starEach [] X.env := by rfl)
    (hn : T ≠ "__name__" := by decide) (hd : (T == ("__debug__" : Str)) = false := by decide) (hpl : (backTo pos (starEach [.Name T p2] X.env)).any (·.1) = false := by rfl) :
    PE X (.Call (.Name "isinstance" p) [e, .Name T p2] [] pos) (tIsi want te) := by
  have h := pe_callB (X := X) (x := "isinstance") (p := p) (pos := pos) (c_isi want) hg hm PyProof.Rows.boot_isinstance (pa_cons he (pa_cons (pe_bltn (v := .ty (kdT want)) (pos := p2) hgT hmT hT rfl hn hd) pa_nil hs2) hs) (by decide) (by decide) hs hpl
  intro pins s σ H Q I q
  exact h pins s σ H Q I (by
    show te σ H _
    have : (fun (x : V) (H1 : Hp) => mIsi want [x, .ty (kdT want)] H1 Q) = (fun x H1 => ∃ k, Kof H1 x k ∧ Q (.bl (isK want k)) H1) := by
      funext x H1
      apply propext
      constructor
      · rintro ⟨_, z⟩; exact z
      · intro z; exact ⟨rfl, z⟩
    exact this ▸ q)
end
structure Callee (P : Program) (w : World) (K : W.Frag) (mg : Str → Option Value) (base : Heap) (n : Nat) (x : Str) (ps : List Str) (sp : Sp) : Prop where
  ex : ∃ (f : Addr) (fd : FuncData), FnOk P w K mg base CX0 n f fd ps sp ∧ mg x = some (.ref f) ∧ W.keepIn K (.ref f) = true ∧ Binds K fd ps []
section
variable {X : Cx} {n : Nat} {x : Str} {ps : List Str} {sp : Sp} {p pos : Pos} {e : Expr} {es : List Expr} {t : TA}
def tFn (sp : Sp) (t : TA) : TE := fun σ H Q => t σ H fun vs H1 => sp vs H1 Q E0
theorem x_fn (c : Callee X.prog X.w X.K X.mg X.base n x ps sp) (hr : Room n X.A) (hg : Gl X x) (ha : PA X (e :: es) t) (hdb : (x == ("__debug__" : Str)) = false := by decide)
    (he : starEach (e :: es) X.env = (false, eval e X.env) :: starEach es X.env := by rfl) (hpl : (backTo pos (starEach es X.env)).any (·.1) = false := by rfl) : PE X (.Call (.Name x p) (e :: es) [] pos) (tFn sp t) := by
  obtain ⟨f, fd, F, hm, hk, hb⟩ := c.ex
  have h := pe_call (X := X) (p := p) (pos := pos) (E := E0) F hr hg hm hk hb (dvs := []) .nil pass0 ha hdb he hpl
  intro pins s σ H Q I q
  exact h pins s σ H Q I (by
    show t σ H _
    have : (fun (vs : List V) (H1 : Hp) => sp (vs ++ []) H1 Q E0) = (fun vs H1 => sp vs H1 Q E0) := by
      funext vs H1; rw [List.append_nil]
    rw [this]; exact q)
end
structure DefAt (K : W.Frag) (mg : Str → Option Value) (x : Str) (st : Stmt) (ps : List Str) : Prop where
  ex : ∃ (f : Addr) (fd : FuncData), Fun K x x st f fd ∧ mg x = some (.ref f) ∧ Binds K fd ps []
theorem DefAt.ok {P : Program} {w : World} {K : W.Frag} {mg : Str → Option Value} {base : Heap} {x : Str} {st : Stmt} {N ps : List Str} {k : Nat} {sp : Sp} (D : DefAt K mg x st ps) (S : FnScope N ps (defScope st)) (len : ∀ vs H Q E, sp vs H Q E → vs.length = ps.length)
    (hbody : ∀ (f : Addr) (cdv : Value) (A : Around) (outer : List Env) (s : Shared) (H : Hp) (vs : List V) (Q : VK) (E : XK), Room k (A.deeper (envOfC x (defScope st) s.heap.objs.size f cdv)) → sp vs H Q E →
      ∃ t, PSs (cxOf CX0 P w K mg base N x (defScope st) f cdv A outer s H E).nox (defBody st) t ∧ t { nx := fun _ H' => Q .non H', rt := Q } (start N vs) H) : Callee P w K mg base (k + 1) x ps sp := by
  obtain ⟨f, fd, F, hm, hb⟩ := D.ex
  exact ⟨f, fd, F.ok S len (hbody f), hm, F.kp, hb⟩
def compOk (sc0 : Scope) (N0 : List Str) (scope : Scope) (N : List Str) (js : List (Option Nat)) : Bool :=
  (scope.kind == .function) && scope.names.all (fun y => y.2 != .cell) && scope.names.all (fun y => y.2 != .local || scope.names.lookup y.1 == some .local) && (js.length == N.length) &&
  (List.range js.length).all (fun i => match js[i]? with | some (some j) => (match N[i]? with | some x => N0[j]? == some x && scope.names.lookup x == some .free | none => false) | _ => true) &&
  scope.names.all (fun y => y.2 != .free || sc0.names.lookup y.1 == some .cell || sc0.names.lookup y.1 == some .free)
theorem CompScope.by {X : Cx} {scope : Scope} {N : List Str} {js : List (Option Nat)} (sc0 : Scope) (N0 : List Str) (h0 : X.env.scope = sc0) (hN : X.N = N0) (ok : compOk sc0 N0 scope N js = true) : CompScope X scope N js := by
  unfold compOk at ok
  simp only [Bool.and_eq_true] at ok
  obtain ⟨⟨⟨⟨⟨h1, h2⟩, h3⟩, h4⟩, h5⟩, h6⟩ := ok
  refine ⟨by simpa using h1, fun y hy => ?_, fun y hy hk => ?_, by simpa using h4, fun i j e => ?_, fun y hy hk => ?_⟩
  · have := List.all_eq_true.mp h2 y hy
    simpa using this
  · have := List.all_eq_true.mp h3 y hy
    rw [hk] at this
    simpa using this
  · have hi : i < js.length := (List.getElem?_eq_some_iff.mp e).1
    have := List.all_eq_true.mp h5 i (List.mem_range.mpr hi)
    rw [e] at this
    cases q : N[i]? with
    | none => simp [q] at this
    | some x =>
      simp only [q, Bool.and_eq_true, beq_iff_eq] at this
      exact ⟨x, rfl, by rw [hN]; exact this.1, this.2⟩
  · have := List.all_eq_true.mp h6 y hy
    rw [hk] at this
    have z : (sc0.names.lookup y.1 == some .cell) = true ∨ (sc0.names.lookup y.1 == some .free) = true := by simpa using this
    have ek : X.env.kindOf y.1 = sc0.names.lookup y.1 := by rw [← h0]; rfl
    rw [ek]
    rcases z with z | z
    · exact .inl (by simpa using z)
    · exact .inr (by simpa using z)
end L2
namespace L2
open PySem PySem.Spec PyProof.Rows
def notStar : Expr → Bool | .Starred _ _ => false | _ => true
theorem star_cons {e : Expr} {es : List Expr} {env : Env} (h : notStar e = true) : starEach (e :: es) env = (false, eval e env) :: starEach es env := by
  cases e <;> first | rfl | cases h
theorem star_any {es : List Expr} {env : Env} {pos : Pos} (h : es.all notStar = true) : (backTo pos (starEach es env)).any (·.1) = false := by
  induction es with
  | nil => rfl
  | cons e es ih =>
    rw [List.all_cons, Bool.and_eq_true] at h
    rw [star_cons h.1]
    have := ih h.2
    show (false || (backTo pos (starEach es env)).any (·.1)) = false
    rw [this]; rfl
section
variable {X : Cx} {e o : Expr} {es : List Expr} {te to : TE} {t : TA} {x : Str} {p pos apos cpos : Pos} {id T : String} {r : List V → Hp → VK → Prop}
theorem a_cons (ha : PE X e te) (hr : PA X es t) (h : notStar e = true := by rfl) : PA X (e :: es) (tCons te t) := pa_cons ha hr (star_cons h)
theorem x_callB (hc : CallR X (.builtin id) r) (hg : Gl X x) (hm : X.mg x = none) (hv : bootBuiltins x = some (.builtin id)) (ha : PA X (e :: es) t) (hn : x ≠ "__name__" := by decide) (hdb : (x == ("__debug__" : Str)) = false := by decide)
    (h1 : notStar e = true := by rfl) (h2 : es.all notStar = true := by rfl) : PE X (.Call (.Name x p) (e :: es) [] pos) (tCB r t) := pe_callB hc hg hm hv ha hn hdb (star_cons h1) (star_any h2)
theorem x_callTy (hc : CallR X (.type T) r) (hg : Gl X x) (hm : X.mg x = none) (hv : bootBuiltins x = some (.type T)) (ha : PA X (e :: es) t) (hn : x ≠ "__name__" := by decide) (hdb : (x == ("__debug__" : Str)) = false := by decide)
    (h1 : notStar e = true := by rfl) (h2 : es.all notStar = true := by rfl) : PE X (.Call (.Name x p) (e :: es) [] pos) (tCB r t) := pe_callTy hc hg hm hv ha hn hdb (star_cons h1) (star_any h2)
theorem x_fnc {n : Nat} {ps : List Str} {sp : Sp} (c : Callee X.prog X.w X.K X.mg X.base n x ps sp) (hr : Room n X.A) (hg : Gl X x) (ha : PA X (e :: es) t) (hdb : (x == ("__debug__" : Str)) = false := by decide)
    (h1 : notStar e = true := by rfl) (h2 : es.all notStar = true := by rfl) : PE X (.Call (.Name x p) (e :: es) [] pos) (tFn sp t) := x_fn c hr hg ha hdb (star_cons h1) (star_any h2)
theorem star_few {es : List Expr} {env : Env} {cpos : Pos} (h : es.all notStar = true) : (backTo cpos (starEach es env)).all (fun x => !x.1) = true := by
  induction es with
  | nil => rfl
  | cons e es ih =>
    rw [List.all_cons, Bool.and_eq_true] at h
    rw [star_cons h.1]
    show (!false && (backTo cpos (starEach es env)).all (fun x => !x.1)) = true
    rw [ih h.2]; rfl
theorem x_bm {name : Str} {r : V → List V → Hp → VK → Prop} (pa : PlainAttrs T) (slot : Slot T name id) (hty : typeOf (.builtin id) = pure (.type "method_descriptor")) (hm : MtR X id r) (ho : PE X o to) (ha : PA X (e :: es) t)
    (hbase : attributeBase o name X.env (eval o X.env) = eval o X.env := by rfl) (hline : (apos.endLine == cpos.line) = true := by rfl) (h1 : notStar e = true := by rfl) (h2 : es.all notStar = true := by rfl) (hn : es.length + 1 < 30 := by decide) :
    PE X (.Call (.Attribute o name apos) (e :: es) [] cpos) (tBM X.K T r to t) := by
  refine pe_bm pa slot hty hm ho ha hbase ?_ hline (star_cons h1) (star_any h2)
  rw [star_few (by rw [List.all_cons, h1, h2]; rfl)]
  show (true && true && decide (es.length + 1 + 0 + 0 < 30)) = true
  simp
  omega
theorem x_isin {p2 : Pos} {T : Str} (want : Kd) (he : PE X e te) (hg : Gl X "isinstance") (hm : X.mg "isinstance" = none) (hgT : Gl X T) (hmT : X.mg T = none) (hT : bootBuiltins T = some (.type (kdT want)))
    (hn : T ≠ "__name__" := by decide) (hd : (T == ("__debug__" : Str)) = false := by decide) (h1 : notStar e = true := by rfl) : PE X (.Call (.Name "isinstance" p) [e, .Name T p2] [] pos) (tIsi want te) :=
  x_isi want he hg hm hgT hmT hT (star_cons h1) (star_cons rfl) hn hd (star_any rfl)
end
end L2
namespace L2
open PySem PySem.Spec PyProof.Rows
theorem bb_len : bootBuiltins "len" = some (.builtin "len") := by decide +kernel
theorem bb_isinstance : bootBuiltins "isinstance" = some (.builtin "isinstance") := by decide +kernel
theorem bb_sum : bootBuiltins "sum" = some (.builtin "sum") := by decide +kernel
theorem bb_sorted : bootBuiltins "sorted" = some (.builtin "sorted") := by decide +kernel
theorem bb_max : bootBuiltins "max" = some (.builtin "max") := by decide +kernel
theorem bb_list : bootBuiltins "list" = some (.type "list") := by decide +kernel
theorem bb_int : bootBuiltins "int" = some (.type "int") := by decide +kernel
theorem bb_bool : bootBuiltins "bool" = some (.type "bool") := by decide +kernel
theorem bb_tuple : bootBuiltins "tuple" = some (.type "tuple") := by decide +kernel
theorem bb_dict : bootBuiltins "dict" = some (.type "dict") := by decide +kernel
structure Dk (H : Hp) (d b : Addr) : Prop where
  ex : ∃ (ns : List Int) (s k : Int), H d = some (.lst [.ref b, .int s, .int k]) ∧ H b = some (.lst (ns.map V.int)) ∧ ns.length ≤ 63
def Kp (d b : Addr) (H H' : Hp) : Prop := ∀ c o, H c = some o → c ≠ d → c ≠ b → H' c = some o
theorem Kp.trans {d b : Addr} {H H1 H2 : Hp} (x : Kp d b H H1) (y : Kp d b H1 H2) : Kp d b H H2 := fun c o e h1 h2 => y c o (x c o e h1 h2) h1 h2
theorem Kp.new {d b p : Addr} {H : Hp} {o : HO} (h : H p = none) : Kp d b H (upd H p o) := fun c u e _ _ => by rw [upd_ne (ne_of_none e h)]; exact e
theorem Dk.new {d b p : Addr} {H : Hp} {o : HO} (x : Dk H d b) (h : H p = none) : Dk (upd H p o) d b := by
  obtain ⟨ns, s, k, h1, h2, h3⟩ := x.ex
  exact ⟨ns, s, k, by rw [upd_ne (ne_of_none h1 h)]; exact h1, by rw [upd_ne (ne_of_none h2 h)]; exact h2, h3⟩
def spMixed : Sp := fun vs H Q _ => ∃ n k, vs = [.int n, .int k] ∧ ∀ r, Q (.int r) H
def spDraw : Sp := fun vs H Q _ => ∃ d b m, vs = [.ref d, .int m] ∧ Dk H d b ∧ 0 < m ∧ m < 1073741824 ∧ ∀ r H', 0 ≤ r → r < m → Dk H' d b → Kp d b H H' → Q (.int r) H'
def spDeck (K : W.Frag) : Sp := fun vs H Q _ => ∃ (a : Addr) (ns : List Int), vs = [.ref a] ∧ SqL K H a (ns.map V.int) ∧ ∀ d b H', H d = none → H b = none → Dk H' d b → Same H H' → Q (.ref d) H'
end L2
namespace L2
theorem if_f {c : Bool} {A B : Prop} (h : c = false) (k : B) : if c = true then A else B := by rw [if_neg (by rw [h]; exact Bool.false_ne_true)]; exact k
theorem if_b {c : Bool} {A B : Prop} (ht : c = true → A) (hf : c = false → B) : if c = true then A else B := by
  cases h : c with
  | true => rw [if_pos rfl]; exact ht h
  | false => rw [if_neg Bool.false_ne_true]; exact hf h
end L2
namespace L2
open PySem PySem.Spec PyProof.Rows
structure Seqs (J : It) (xs : List V) (A : Hp → Prop) : Prop where
  go : ∀ i H, i < xs.length → A H → J.go i H
  yld : ∀ i H x H', i < xs.length → A H → J.yld i H x H' → H' = H ∧ xs[i]? = some x
  stop : ∀ H, A H → J.stop xs.length H
def rangeV (lo : Int) (n : Nat) : List V := (List.range n).map fun (i : Nat) => V.int (lo + (i : Int))
theorem seq_range (lo : Int) (n : Nat) : Seqs (Itr lo n) (rangeV lo n) (fun _ => True) := by
  have hl : (rangeV lo n).length = n := by simp [rangeV]
  refine ⟨fun i H hi _ => by rw [hl] at hi; exact hi, fun i H v H' hi _ ⟨e, ev⟩ => ⟨e, ?_⟩, fun H _ => by rw [hl]; exact Nat.le_refl _⟩
  subst ev
  rw [hl] at hi
  unfold rangeV
  rw [List.getElem?_map, List.getElem?_range hi]; rfl
theorem seq_list (K : W.Frag) (a : Addr) (xs : List V) : Seqs (Itl K a) xs (fun H => SqL K H a xs) :=
  ⟨fun i H hi h => ⟨xs, xs[i], h, by simp [hi]⟩, fun i H x H' _ h ⟨e, y⟩ => ⟨e, y xs h⟩, fun H h => ⟨xs, h, Nat.le_refl _⟩⟩
theorem seq_tup (K : W.Frag) (a : Addr) (xs : List V) : Seqs (Itt K a) xs (fun H => SqT K H a xs) :=
  ⟨fun i H hi h => ⟨xs, xs[i], h, by simp [hi]⟩, fun i H x H' _ h ⟨e, y⟩ => ⟨e, y xs h⟩, fun H h => ⟨xs, h, Nat.le_refl _⟩⟩
theorem comp_seq {J : It} {xs : List V} {A : Hp → Prop} {js : List (Option Nat)} {g : TG} {tt : TT} {te : TE} {σ : St} {H : Hp} {Q : List V → Hp → Prop} (S : Seqs J xs A) (hz : xs.length ≤ 100000) (Pv : Nat → List V → Hp → Prop) (hA : ∀ i ys H, Pv i ys H → A H ∧ ys.length ≤ i) (h0 : Pv 0 [] H)
    (hs : ∀ i x ys H, xs[i]? = some x → Pv i ys H → g x (stC js σ) H fun σ2 H2 => tt σ2 H2 fun b H3 => if b = true then te σ2 H3 fun y H4 => Pv (i + 1) (ys ++ [y]) H4 else Pv (i + 1) ys H3)
    (hd : ∀ ys H, Pv xs.length ys H → Q ys H) : wComp js g tt te σ J H Q := by
  refine ⟨fun i m ys H => m = xs.length - i ∧ i ≤ xs.length ∧ Pv i ys H, ⟨xs.length, by simp, Nat.zero_le _, h0⟩, ?_⟩
  rintro i m ys H ⟨rfl, hi, p⟩
  obtain ⟨pa, hy⟩ := hA i ys H p
  by_cases hlt : i < xs.length
  · refine .inr ⟨S.go i H hlt pa, Nat.lt_of_le_of_lt (m := 100000) (by omega) (by decide), Pv (i + 1), fun ys' H' p' => ⟨xs.length - (i + 1), by omega, rfl, hlt, p'⟩, fun x H' y => ?_⟩
    obtain ⟨rfl, hx⟩ := S.yld i H x H' hlt pa y
    exact hs i x ys H' hx p
  · have e : i = xs.length := by omega
    subst e
    exact .inl ⟨S.stop H pa, hd ys H p⟩
theorem comp_pure {J : It} {xs : List V} {A : Hp → Prop} {js : List (Option Nat)} {g : TG} {tt : TT} {te : TE} {σ : St} {H : Hp} {Q : List V → Hp → Prop} (S : Seqs J xs A) (hz : xs.length ≤ 100000) (p : V → Bool) (f : V → V) (hA : A H)
    (hs : ∀ (x : V) (ys : List V) (N : List V → Hp → Prop), x ∈ xs → (p x = true → N (ys ++ [f x]) H) → (p x = false → N ys H) → g x (stC js σ) H fun σ2 H2 => tt σ2 H2 fun b H3 => if b = true then te σ2 H3 fun y H4 => N (ys ++ [y]) H4 else N ys H3)
    (hd : Q ((xs.filter p).map f) H) : wComp js g tt te σ J H Q := by
  refine comp_seq S hz (fun i ys H' => ys = ((xs.take i).filter p).map f ∧ H' = H) (fun i ys H' ⟨e, e2⟩ => ⟨by rw [e2]; exact hA, ?_⟩) ⟨by simp, rfl⟩ (fun i x ys H' hx ⟨e, e2⟩ => ?_) (fun ys H' ⟨e, e2⟩ => ?_)
  · rw [e, List.length_map]
    exact Nat.le_trans (List.length_filter_le _ _) (by rw [List.length_take]; exact Nat.min_le_left _ _)
  · subst e2
    have key : (xs.take (i + 1)).filter p = (xs.take i).filter p ++ (if p x = true then [x] else []) := take_succ_filter p xs i x hx
    refine hs x ys (fun ys' H3 => ys' = ((xs.take (i + 1)).filter p).map f ∧ H3 = H') (List.mem_of_getElem? hx) (fun h => ⟨?_, rfl⟩) (fun h => ⟨?_, rfl⟩)
    · rw [key, if_pos h, List.map_append, e]; rfl
    · rw [key, if_neg (by rw [h]; exact Bool.false_ne_true), List.append_nil, e]
  · subst e2
    rw [e, List.take_of_length_le (Nat.le_refl _)]
    exact hd
theorem for_seq {J : It} {xs : List V} {A : Hp → Prop} {g : TG} {tb : TS} {D : Ends} {σ : St} {H : Hp} (S : Seqs J xs A) (Pv : Nat → St → Hp → Prop) (hA : ∀ i σ H, Pv i σ H → A H) (h0 : Pv 0 σ H)
    (hs : ∀ (i : Nat) (x : V) σ H, xs[i]? = some x → Pv i σ H → g x σ H fun σ2 H2 => tb { D with nx := Pv (i + 1), ct := Pv (i + 1), bk := D.nx } σ2 H2) (hd : ∀ σ H, Pv xs.length σ H → D.nx σ H) :
    ∃ W : Nat → Nat → St → Hp → Prop, (∃ m, W 0 m σ H) ∧ ∀ i m σ H, W i m σ H →
      (J.stop i H ∧ D.nx σ H) ∨ (J.go i H ∧ ∃ N : St → Hp → Prop, (∀ σ' H', N σ' H' → ∃ m', m' < m ∧ W (i + 1) m' σ' H') ∧ ∀ x H', J.yld i H x H' → g x σ H' fun σ2 H2 => tb { D with nx := N, ct := N, bk := D.nx } σ2 H2) := by
  refine ⟨fun i m σ H => m = xs.length - i ∧ i ≤ xs.length ∧ Pv i σ H, ⟨xs.length, by simp, Nat.zero_le _, h0⟩, ?_⟩
  rintro i m σ H ⟨rfl, hi, p⟩
  have pa := hA i σ H p
  by_cases hlt : i < xs.length
  · refine .inr ⟨S.go i H hlt pa, Pv (i + 1), fun σ' H' p' => ⟨xs.length - (i + 1), by omega, rfl, hlt, p'⟩, fun x H' y => ?_⟩
    obtain ⟨rfl, hx⟩ := S.yld i H x H' hlt pa y
    exact hs i x σ H' hx p
  · have e : i = xs.length := by omega
    subst e
    exact .inl ⟨S.stop H pa, hd σ H p⟩
end L2
namespace L2
open PySem
theorem same_upd {H : Hp} {p : Addr} {o : HO} (h : H p = none) : Same H (upd H p o) := fun b u q => by rw [upd_ne (ne_of_none q h)]; exact q
theorem cut_to {α : Type} (xs : List α) (k : Nat) : cut xs none (some (k : Int)) = xs.take k := by
  unfold cut
  rw [HT.sIx_none, HT.sIx_nat, List.drop_zero, Nat.sub_zero, ← List.take_take, List.take_of_length_le (Nat.le_refl _)]
theorem cut_map {α β : Type} (f : α → β) (xs : List α) (lo hi : Option Int) : cut (xs.map f) lo hi = (cut xs lo hi).map f := by
  unfold cut
  rw [List.length_map, ← List.map_drop, ← List.map_take]
end L2
namespace L2
open PySem PySem.Spec PyProof.Rows
theorem at_upd {H : Hp} {p q : Addr} {o u : HO} (h : H p = some o) (hq : H q = none) : upd H q u p = some o := by rw [upd_ne (ne_of_none h hq)]; exact h
theorem atI_some {α : Type} {xs : List α} {i : Int} (h0 : 0 ≤ i) (h1 : i < xs.length) : ∃ v, atI xs i = some v ∧ v ∈ xs := by
  obtain ⟨j, rfl⟩ := Int.eq_ofNat_of_zero_le h0
  have hj : j < xs.length := by omega
  exact ⟨xs[j], atI_nat (by simp [hj]), List.getElem_mem hj⟩
theorem glue_go (g : Array Nat) : ∀ (ps : List Str) (acc : Array Nat), (ps.foldl (fun acc p => acc ++ g ++ p.cps) acc).toList = acc.toList ++ (ps.map fun p => g.toList ++ p.cps.toList).flatten
  | [], acc => by simp
  | p :: ps, acc => by
    rw [List.foldl_cons, glue_go g ps]
    simp
theorem join_cps (ps : List Str) : (Txt.join (tx []) ps).cps.toList = (ps.map fun p => p.cps.toList).flatten := by
  unfold Txt.join Builtin.Str.glued
  rw [glue_go]
  cases ps with
  | nil => simp [Str.empty]
  | cons p ps => simp
theorem join_tx (ps : List Str) : Txt.join (tx []) ps = tx (ps.map fun p => p.cps.toList).flatten := by rw [← join_cps, tx_cps]
theorem join_signs (ts : List Nat) : Txt.join (tx []) (ts.map fun c => tx [c]) = tx ts := by
  rw [join_tx, List.map_map]
  congr 1
  congr 1
  induction ts with
  | nil => rfl
  | cons c r ih => rw [List.map_cons, List.flatten_cons, ih]; rfl
theorem emp_eq : ("" : Str) = tx [] := by decide +kernel
end L2
namespace L2
open PySem PySem.Spec PyProof.Rows
end L2
namespace L2
open PySem
theorem Dk.ne {H : Hp} {d b p : Addr} (x : Dk H d b) (h : H p = none) : p ≠ d ∧ p ≠ b := by
  obtain ⟨ns, s, k, h1, h2, h3⟩ := x.ex
  exact ⟨(ne_of_none h1 h).symm, (ne_of_none h2 h).symm⟩
theorem tx_of (x : Str) : x = tx x.cps.toList := (tx_cps x).symm
end L2
namespace L2
open PySem
theorem sum_ones : ∀ ts : List Nat, ((ts.map fun c => tx [c]).map (·.length)).sum = ts.length
  | [] => rfl
  | c :: ts => by
    rw [List.map_cons, List.map_cons, List.sum_cons, sum_ones ts, List.length_cons]
    show 1 + ts.length = _
    omega
end L2
namespace L2
open PySem
theorem cutS {t : TS} {D : Ends} {σ : St} {H : Hp} (R : St → Hp → Prop) (h : ∀ nx : St → Hp → Prop, (∀ σ' H', R σ' H' → nx σ' H') → t { D with nx := nx } σ H) (h2 : ∀ σ' H', R σ' H' → D.nx σ' H') : t D σ H := h D.nx h2
theorem Dk.same {H H' : Hp} {d b : Addr} (s : Same H H') (h : Dk H d b) : Dk H' d b := by
  obtain ⟨ns, s0, k, h1, h2, h3⟩ := h.ex
  exact ⟨ns, s0, k, s _ _ h1, s _ _ h2, h3⟩
end L2
namespace L2
open PySem PySem.Spec PyProof.Rows
structure XE (X : Cx) (e : Expr) (t : TE) : Prop where
  h : PE X e t
structure XT (X : Cx) (e : Expr) (t : TT) : Prop where
  h : PT X e t
structure XW (X : Cx) (e : Expr) (t : TT) : Prop where
  h : PW X e t
structure XA (X : Cx) (es : List Expr) (t : TA) : Prop where
  h : PA X es t
structure XS (X : Cx) (st : Stmt) (t : TS) : Prop where
  h : PS X st t
structure XB (X : Cx) (st : List Stmt) (t : TS) : Prop where
  h : PSs X st t
structure XI (X : Cx) (tg iter : Expr) (t : TI) : Prop where
  h : PI X tg iter t
structure XG (X : Cx) (e : Expr) (t : TG) : Prop where
  h : PG X e t
structure XGs (X : Cx) (es : List Expr) (t : TGs) : Prop where
  h : PGs X es t
structure XO (X : Cx) (e : Option Expr) (t : TO) : Prop where
  h : PO X e t
structure XTs (X : Cx) (cs : List Expr) (t : TT) : Prop where
  h : PTs X cs t
structure XSet (X : Cx) (t : TSet) : Prop where
  h : PSet X t
structure XOp (X : Cx) (f : Value → Value → Sem Value) (r : R2) : Prop where
  h : OpR X f r
structure XIx (X : Cx) (r : R2) : Prop where
  h : IxR X r
structure XSl (X : Cx) (r : V → Option Int → Option Int → Hp → VK → Prop) : Prop where
  h : SlR X r
structure XC (X : Cx) (f : Value) (r : List V → Hp → VK → Prop) : Prop where
  h : CallR X f r
structure XM (X : Cx) (id : String) (r : V → List V → Hp → VK → Prop) : Prop where
  h : MtR X id r
namespace R
section
variable {X : Cx} {a b c e o i : Expr} {es rest : List Expr} {ta tb tc te to ti : TE} {tA tB' : TT} {t u : TA} {pos p p2 apos cpos pos' : Pos} {x : Str} {n : Nat} {r r' : R2}
theorem v (i : Nat) {x : Str} {pos : Pos} (hN : X.N[i]? = some x := by rfl) (hv : Vis X.env.scope x := by first | exact Or.inl rfl | exact Or.inr (Or.inl rfl) | exact Or.inr (Or.inr rfl)) (hd : (x == ("__debug__" : Str)) = false := by decide)
    (hcd : (x == ("__classdict__" : Str)) = false := by decide) : XE X (.Name x pos) (vr i) := ⟨xv i hN hv hd hcd⟩
theorem int {i j pos} : XE X (.Constant (.int i) j pos) (tC (.int i)) := ⟨pe_int⟩
theorem bl {b j pos} : XE X (.Constant (.bool b) j pos) (tC (.bl b)) := ⟨pe_bl⟩
theorem non {j pos} : XE X (.Constant .none j pos) (tC .non) := ⟨pe_non⟩
theorem str {x j pos} : XE X (.Constant (.str x) j pos) (tC (.str x)) := ⟨pe_str⟩
theorem gI {z : Int} (hg : Gl X x) (hm : ∃ t, X.mg x = some (.int z t)) (hd : (x == ("__debug__" : Str)) = false := by decide) : XE X (.Name x pos) (tC (.int z)) := by
  obtain ⟨t, hm⟩ := hm; exact ⟨pe_glob hg hm ⟨t, rfl⟩ hd⟩
theorem gR {a : Addr} (hg : Gl X x) (hm : X.mg x = some (.ref a)) (hd : (x == ("__debug__" : Str)) = false := by decide) : XE X (.Name x pos) (tC (.ref a)) := ⟨pe_glob hg hm rfl hd⟩
theorem op {op : Operator} (ho : XOp X (binaryOp op) r) (ha : XE X a ta) (hb : XE X b tb) : XE X (.BinOp a op b pos) (tOp r ta tb) := ⟨pe_op ho.h ha.h hb.h⟩
theorem add : XOp X (binaryOp .Add) (m20 fun i j => .int (i + j)) := ⟨o_add⟩
theorem sub : XOp X (binaryOp .Sub) (m20 fun i j => .int (i - j)) := ⟨o_sub⟩
theorem mul : XOp X (binaryOp .Mult) (m2 CMul fun i j => .int (i * j)) := ⟨o_mul⟩
theorem fdiv : XOp X (binaryOp .FloorDiv) (m2 CDiv fun i j => .int (i / j)) := ⟨o_fdiv⟩
theorem mod : XOp X (binaryOp .Mod) (m2 (fun _ j => 0 < j) fun i j => .int (i % j)) := ⟨o_mod⟩
theorem pow : XOp X (binaryOp .Pow) (m2 CPow fun i j => .int (i ^ j.toNat)) := ⟨o_pow⟩
theorem addS : XOp X (binaryOp .Add) mAddS := ⟨o_addS⟩
theorem lt : XOp X (compareOp .Lt) (m20 fun i j => .bl (decide (i < j))) := ⟨o_lt⟩
theorem le : XOp X (compareOp .LtE) (m20 fun i j => .bl (decide (i ≤ j))) := ⟨o_le⟩
theorem gt : XOp X (compareOp .Gt) (m20 fun i j => .bl (decide (j < i))) := ⟨o_gt⟩
theorem eq : XOp X (compareOp .Eq) mEq := ⟨o_eq⟩
theorem ne : XOp X (compareOp .NotEq) mNe := ⟨o_ne⟩
theorem inQ : XOp X (compareOp .In) (rIn X.K false) := ⟨op_in_seq⟩
theorem notInQ : XOp X (compareOp .NotIn) (rIn X.K true) := ⟨op_notIn_seq⟩
theorem isN : XOp X (compareOp .Is) (fun x y H Q => match y with | .non => Q (.bl (decide (x = .non))) H | _ => False) := ⟨o_isN⟩
theorem notN : XOp X (compareOp .IsNot) (fun x y H Q => match y with | .non => Q (.bl (!decide (x = .non))) H | _ => False) := ⟨o_notN⟩
theorem eqNil (hu : X.A.units < cLine) : XOp X (compareOp .Eq) (rEqNil X.K false) := ⟨op_eqNil hu⟩
theorem neNil (hu : X.A.units < cLine) : XOp X (compareOp .NotEq) (rEqNil X.K true) := ⟨op_neNil hu⟩
theorem cmp {op : CmpOp} (ho : XOp X (compareOp op) r) (ha : XE X a ta) (hb : XE X b tb) (hm : behindInMarks op b = false := by first | exact nomark _ | rfl) : XE X (.Compare a [op] [b] pos) (tOp r ta tb) := ⟨x_cmp ho.h ha.h hb.h hm⟩
theorem tcmp {op : CmpOp} (ho : XOp X (compareOp op) r) (ha : XE X a ta) (hb : XE X b tb) (hm : behindInMarks op b = false := by first | exact nomark _ | rfl) : XT X (.Compare a [op] [b] pos) (mT (tOp r ta tb)) := ⟨t_cmp ho.h ha.h hb.h hm⟩
theorem tchain {op op' : CmpOp} (ho : XOp X (compareOp op) r) (ho' : XOp X (compareOp op') r') (ha : XE X a ta) (hb : XE X b tb) (hc : XE X c tc) (hm : lastMarks [op, op'] [b, c] = false := by with_unfolding_all rfl) : XT X (.Compare a [op, op'] [b, c] pos) (mT (mChain r r' ta tb tc)) := ⟨t_chain ho.h ho'.h ha.h hb.h hc.h hm⟩
theorem val {t : TE} (h : XE X e t) (he : ∀ whole, isTrue e X.env whole = (do let v ← whole; standAt e.pos; holding [v] (truthy v)) := by intro _; rfl) : XT X e (mT t) := ⟨t_val h.h he⟩
theorem tnot (ha : XT X a tA) : XT X (.UnaryOp .Not a pos) (tNot tA) := ⟨pt_not ha.h⟩
theorem wand1 (ha : XT X a tA) : XW X (.BoolOp .And [a] pos) tA := ⟨pw_and1 ha.h⟩
theorem wor1 (ha : XT X a tA) : XW X (.BoolOp .Or [a] pos) tA := ⟨pw_or1 ha.h⟩
theorem wand (ha : XT X a tA) (hb : XW X (.BoolOp .And (b :: rest) pos) tB') : XW X (.BoolOp .And (a :: b :: rest) pos) (tAnd tA tB') := ⟨pw_and ha.h hb.h⟩
theorem wor (ha : XT X a tA) (hb : XW X (.BoolOp .Or (b :: rest) pos) tB') : XW X (.BoolOp .Or (a :: b :: rest) pos) (tOr tA tB') := ⟨pw_or ha.h hb.h⟩
theorem tw (h : XW X e tA) : XT X e tA := ⟨h.h.pt⟩
theorem ix (hr : XIx X r) (ha : XE X a ta) (hb : XE X b tb) (hs : PlainIx b := by exact fun _ _ => rfl) : XE X (.Subscript a b pos) (tOp r ta tb) := ⟨x_ix hr.h ha.h hb.h hs⟩
theorem iL : XIx X (mIxL X.K) := ⟨i_list⟩
theorem iS : XIx X mIxS := ⟨i_str⟩
theorem pn : XO X none tNoPart := ⟨po_none⟩
theorem ps (h : XE X e te) : XO X (some e) (mPart te) := ⟨p_some h.h⟩
theorem sl {r : V → Option Int → Option Int → Hp → VK → Prop} {lo hi : Option Expr} {tl th : TO} (hr : XSl X r) (he : XE X e te) (hl : XO X lo tl) (hu : XO X hi th) : XE X (.Subscript e (.Slice lo hi none p2) pos) (tSl r te tl th) := ⟨pe_slice hr.h he.h hl.h hu.h⟩
theorem sL : XSl X (mSlL X.K) := ⟨s_list⟩
theorem nil : XA X [] tNil := ⟨pa_nil⟩
theorem cons (ha : XE X e te) (hr : XA X es t) (h : notStar e = true := by rfl) : XA X (e :: es) (tCons te t) := ⟨a_cons ha.h hr.h h⟩
theorem tup {x1} (h : XA X es t) : XE X (.Tuple es x1 pos) (tTup t) := ⟨pe_tup h.h⟩
theorem lst (h : XA X es t) : XE X (.List es pos) (tLst t) := ⟨pe_lst h.h⟩
theorem callB {id : String} {r : List V → Hp → VK → Prop} (hc : XC X (.builtin id) r) (hg : Gl X x) (hm : X.mg x = none) (hv : bootBuiltins x = some (.builtin id)) (ha : XA X (e :: es) t) (hn : x ≠ "__name__" := by decide) (hdb : (x == ("__debug__" : Str)) = false := by decide)
    (h1 : notStar e = true := by rfl) (h2 : es.all notStar = true := by rfl) : XE X (.Call (.Name x p) (e :: es) [] pos) (tCB r t) := ⟨x_callB hc.h hg hm hv ha.h hn hdb h1 h2⟩
theorem callTy {T : String} {r : List V → Hp → VK → Prop} (hc : XC X (.type T) r) (hg : Gl X x) (hm : X.mg x = none) (hv : bootBuiltins x = some (.type T)) (ha : XA X (e :: es) t) (hn : x ≠ "__name__" := by decide) (hdb : (x == ("__debug__" : Str)) = false := by decide)
    (h1 : notStar e = true := by rfl) (h2 : es.all notStar = true := by rfl) : XE X (.Call (.Name x p) (e :: es) [] pos) (tCB r t) := ⟨x_callTy hc.h hg hm hv ha.h hn hdb h1 h2⟩
theorem lenS : XC X (.builtin "len") (fun vs H Q => match vs with | [.str z] => z.length ≤ sizeLine ∧ Q (.int z.length) H | _ => False) := ⟨c_lenS⟩
theorem lenL : XC X (.builtin "len") (fun vs H Q => match vs with | [.ref p] => ∃ ys, (SqL X.K H p ys ∨ SqT X.K H p ys) ∧ Q (.int ys.length) H | _ => False) := ⟨c_lenL⟩
theorem toInt : XC X (.type "int") (fun vs H Q => match vs with | [.bl k] => Q (.int (if k then 1 else 0)) H | _ => False) := ⟨c_int⟩
theorem sum (hc : X.calm = true) : XC X (.builtin "sum") (rSum X.K) := ⟨call_sum hc⟩
theorem fn {n : Nat} {ps : List Str} {sp : Sp} (c : Callee X.prog X.w X.K X.mg X.base n x ps sp) (hr : Room n X.A) (hg : Gl X x) (ha : XA X (e :: es) t) (hdb : (x == ("__debug__" : Str)) = false := by decide)
    (h1 : notStar e = true := by rfl) (h2 : es.all notStar = true := by rfl) : XE X (.Call (.Name x p) (e :: es) [] pos) (tFn sp t) := ⟨x_fnc c hr hg ha.h hdb h1 h2⟩
theorem bm {T id : String} {name : Str} {r : V → List V → Hp → VK → Prop} (pa : PlainAttrs T) (slot : Slot T name id) (hty : typeOf (.builtin id) = pure (.type "method_descriptor")) (hm : XM X id r) (ho : XE X o to) (ha : XA X (e :: es) t)
    (hbase : attributeBase o name X.env (eval o X.env) = eval o X.env := by rfl) (hline : (apos.endLine == cpos.line) = true := by rfl) (h1 : notStar e = true := by rfl) (h2 : es.all notStar = true := by rfl) (hn : es.length + 1 < 30 := by decide) :
    XE X (.Call (.Attribute o name apos) (e :: es) [] cpos) (tBM X.K T r to t) := ⟨x_bm pa slot hty hm.h ho.h ha.h hbase hline h1 h2 hn⟩
theorem bm0 {T id : String} {name : Str} {r : V → List V → Hp → VK → Prop} (pa : PlainAttrs T) (slot : Slot T name id) (hty : typeOf (.builtin id) = pure (.type "method_descriptor")) (hm : XM X id r) (ho : XE X o to)
    (hbase : attributeBase o name X.env (eval o X.env) = eval o X.env := by rfl) (hline : (apos.endLine == cpos.line) = true := by rfl) : XE X (.Call (.Attribute o name apos) [] [] cpos) (tBM0 X.K T r to) := ⟨pe_bm0 pa slot hty hm.h ho.h hbase hline⟩
theorem append : XM X "list.append" rAppend := ⟨mt_append⟩
theorem pop : XM X "list.pop" rPop := ⟨mt_pop⟩
theorem popAt : XM X "list.pop" rPopAt := ⟨mt_popAt⟩
theorem clear : XM X "list.clear" rClear := ⟨mt_clear⟩
theorem join : XM X "str.join" (rJoin X.K) := ⟨mt_join⟩
theorem isi {T : Str} (want : Kd) (he : XE X e te) (hg : Gl X "isinstance") (hm : X.mg "isinstance" = none) (hgT : Gl X T) (hmT : X.mg T = none) (hT : bootBuiltins T = some (.type (kdT want)))
    (hn : T ≠ "__name__" := by decide) (hd : (T == ("__debug__" : Str)) = false := by decide) (h1 : notStar e = true := by rfl) : XE X (.Call (.Name "isinstance" p) [e, .Name T p2] [] pos) (tIsi want te) := ⟨x_isin want he.h hg hm hgT hmT hT hn hd h1⟩
theorem listrev {pos2 : Pos} (hc : X.calm = true) (hg : Gl X "list") (hm : X.mg "list" = none) (hg2 : Gl X "reversed") (hm2 : X.mg "reversed" = none) (he : XE X e te) (h1 : notStar e = true := by rfl) :
    XE X (.Call (.Name "list" p) [.Call (.Name "reversed" p2) [e] [] pos2] [] pos) (tRev X.K te) := ⟨pe_listrev hc hg hm hg2 hm2 he.h (star_cons h1) (star_cons rfl)⟩
theorem dnew : XE X (.Dict [] [] pos) (tDNewK) := ⟨pe_dnewK⟩
variable {tg : Expr}
theorem wL (hl : XE X e te) : XI X tg e (iList X.K te) := ⟨pi_list hl.h⟩
theorem range1 (hg : Gl X "range") (hm : X.mg "range" = none) (ha : XA X [a] t) (h1 : notStar a = true := by rfl) : XI X tg (.Call (.Name "range" p) [a] [] pos) (iRng1 t) := ⟨pi_range1 hg hm ha.h (star_cons h1)⟩
theorem gn {i : Nat} (hN : X.N.Nodup) (hi : X.N[i]? = some x := by rfl) (hx : Loc X.env.scope x := by first | exact Or.inl rfl | exact Or.inr rfl) (hf : X.fn x = true ∨ X.env.scope.names.lookup x = some .local := by first | exact .inl rfl | exact .inr rfl | assumption) : XG X (.Name x pos) (gName i) := ⟨pg_name hN hi hx hf⟩
theorem gsn : XGs X [] gNil := ⟨pgs_nil⟩
theorem gsc {tg1 : TG} {tgs : TGs} (h1 : XG X e tg1) (h2 : XGs X es tgs) (hs : (assignEach (e :: es) X.env).map (·.2) = assign e X.env :: (assignEach es X.env).map (·.2) := by rfl) : XGs X (e :: es) (gCons tg1 tgs) := ⟨pgs_cons h1.h h2.h hs⟩
theorem gt' {k : Nat} {tgs : TGs} (hc : X.calm = true) (h : XGs X es tgs) (hn : (assignEach es X.env).length = n := by rfl) (hst : (assignEach es X.env).findIdx? (·.1) = none := by rfl) : XG X (.Tuple es k pos) (gTup X.K n tgs) := ⟨pg_tup hc h.h hn hst⟩
theorem setL : XSet X rSetL := ⟨set_list⟩
theorem gsub {ts : TSet} (ho : XE X o to) (hi : XE X i ti) (hs : XSet X ts) (ha : ∀ v, assign (.Subscript o i pos) X.env v = (do
      let ov ← holding [v] (eval o X.env)
      let iv ← holding [v, ov] (eval i X.env)
      standAt pos
      holding [v, ov, iv] (setItem ov iv v)
      release [v, ov, iv] []) := by intro _; rfl) : XG X (.Subscript o i pos) (gSub to ti ts) := ⟨pg_sub ho.h hi.h hs.h ha⟩
end
section
variable {X : Cx} {c e tg iter elt : Expr} {ifs : List Expr} {te : TE} {tc tt : TT} {g : TG} {wi : TI} {st : Stmt} {ss sa sb : List Stmt} {t u : TS} {pos pos' spos py : Pos} {x y : Str} {scope : Scope} {N : List Str} {js : List (Option Nat)}
theorem ts0 : XTs X [] tTrue := ⟨pts_nil⟩
theorem ts1 (h : XT X c tt) (hx : X.xe = fun _ _ => False := by rfl) : XTs X [c] tt := ⟨pts_one h.h hx⟩
theorem comp (hc : X.calm = true) (S : CompScope X scope N js) (go : GOwn js g) (hi : XI X tg iter wi)
    (hb : ∀ (C : Addr) (s₂ : Shared) (H₂ : Hp) (fp : List Addr), XG (cxC X scope C N s₂ H₂ fp) tg g ∧ XTs (cxC X scope C N s₂ H₂ fp) ifs tt ∧ XE (cxC X scope C N s₂ H₂ fp) elt te)
    (hs : ∀ x, foldedSetIterable iter X.env x = pure x := by intro _; rfl) : XE X (.ListComp elt [⟨tg, iter, ifs, 0⟩] scope pos) (tComp wi js g tt te) :=
  ⟨pe_comp hc S go hi.h (fun C s₂ H₂ fp => let ⟨a, b, c⟩ := hb C s₂ H₂ fp; ⟨a.h, b.h, c.h⟩) hs⟩
theorem scomp {i : Nat} (hN : X.N.Nodup) (hy : X.N[i]? = some y) (hx : Loc X.env.scope y) (hc : X.calm = true) (S : CompScope X scope N js) (go : GOwn js g) (hi : XI X tg iter wi)
    (hb : ∀ (C : Addr) (s₂ : Shared) (H₂ : Hp) (fp : List Addr), XG (cxC X scope C N s₂ H₂ fp) tg g ∧ XTs (cxC X scope C N s₂ H₂ fp) ifs tt ∧ XE (cxC X scope C N s₂ H₂ fp) elt te)
    (hsw : swapsWith (.ListComp elt [⟨tg, iter, ifs, 0⟩] scope pos) (some (.Name y py)) spos.line X.env = pure true)
    (hs : ∀ x, foldedSetIterable iter X.env x = pure x := by intro _; rfl) (hf : X.fn y = true ∨ X.env.scope.names.lookup y = some .local := by first | exact .inl rfl | exact .inr rfl | assumption) :
    XS X (.Assign [.Name y py] (.ListComp elt [⟨tg, iter, ifs, 0⟩] scope pos) spos) (sComp i wi js g tt te) :=
  ⟨ps_comp hN hy hx hc S go hi.h (fun C s₂ H₂ fp => let ⟨a, b, c⟩ := hb C s₂ H₂ fp; ⟨a.h, b.h, c.h⟩) hsw hs hf⟩
theorem snil : XB X [] tNext := ⟨pss_nil⟩
theorem sone (h1 : XS X st t) : XB X [st] t := ⟨pss_one h1.h⟩
theorem scons (h1 : XS X st t) (h2 : XB X ss u) : XB X (st :: ss) (tSeq t u) := ⟨pss_cons h1.h h2.h⟩
theorem ret (he : XE X e te) : XS X (.Return (some e) pos) (tRet te) := ⟨ps_ret he.h⟩
theorem expr (he : XE X e te) (hs : swapsWith e none pos.line X.env = pure false := by rfl) : XS X (.Expr e pos) (tDrop te) := ⟨ps_expr he.h hs⟩
theorem ife (hc : XT X c tc) (ha : XB X sa t) (hb : XB X sb u) : XS X (.If c sa sb pos) (tIfS tc t u) := ⟨ps_if hc.h ha.h hb.h⟩
theorem set {i : Nat} (hN : X.N.Nodup) (he : XE X e te) (hi : X.N[i]? = some x := by rfl) (hx : Loc X.env.scope x := by first | exact Or.inl rfl | exact Or.inr rfl) (hs : swapsWith e (some (.Name x pos')) pos.line X.env = pure false := by rfl)
    (hf : X.fn x = true ∨ X.env.scope.names.lookup x = some .local := by first | exact .inl rfl | exact .inr rfl | assumption) : XS X (.Assign [.Name x pos'] e pos) (tAsg te (gName i)) := ⟨ps_set hN hi hx he.h hs hf⟩
theorem asg (he : XE X e te) (hg : XG X tg g) (hs : swapsWithSole [tg] e pos.line X.env = pure false := by rfl) (hw : swappedStores [tg] e X.env = pure none := by rfl) (h1 : (assignEach [tg] X.env).map (·.2) = [assign tg X.env] := by rfl) :
    XS X (.Assign [tg] e pos) (tAsg te g) := ⟨ps_asg he.h hg.h hs hw h1⟩
theorem for_ (hp : PassesOwn (model X.prog X.w) X.A X.env X.xe) (hc : X.calm = true) (hi : XI X tg iter wi) (hg : XG X tg g) (hb : XB X ss t) (hs : ∀ x, foldedSetIterable iter X.env x = pure x := by intro _; rfl) : XS X (.For tg iter ss [] pos) (tFor wi g t) := ⟨ps_for hp hc hi.h hg.h hb.h hs⟩
theorem while_ (hp : PassesOwn (model X.prog X.w) X.A X.env X.xe) (hc : XT X c tc) (hb : XB X ss t) : XS X (.While c ss [] pos) (tWhile tc t) := ⟨ps_while hp hc.h hb.h⟩
end
end R
theorem DefAt.go {P : Program} {w : World} {K : W.Frag} {mg : Str → Option Value} {base : Heap} {x : Str} {st : Stmt} {N ps : List Str} {k : Nat} {sp : Sp} (D : DefAt K mg x st ps) (S : FnScope N ps (defScope st)) (len : ∀ vs H Q E, sp vs H Q E → vs.length = ps.length)
    (hbody : ∀ (f : Addr) (cdv : Value) (A : Around) (outer : List Env) (s : Shared) (H : Hp) (vs : List V) (Q : VK) (E : XK), Room k (A.deeper (envOfC x (defScope st) s.heap.objs.size f cdv)) → sp vs H Q E →
      ∃ t, XB (cxOf CX0 P w K mg base N x (defScope st) f cdv A outer s H E).nox (defBody st) t ∧ t { nx := fun _ H' => Q .non H', rt := Q } (start N vs) H) : Callee P w K mg base (k + 1) x ps sp :=
  D.ok S len fun f cdv A outer s H vs Q E hr h => let ⟨t, h1, h2⟩ := hbody f cdv A outer s H vs Q E hr h; ⟨t, h1.h, h2⟩
theorem Fun.go {P : Program} {w : World} {K : W.Frag} {mg : Str → Option Value} {base : Heap} {x qual : Str} {st : Stmt} {f : Addr} {fd : FuncData} {N ps : List Str} {k : Nat} {sp : Sp} (F : Fun K x qual st f fd) (S : FnScope N ps (defScope st)) (len : ∀ vs H Q E, sp vs H Q E → vs.length = ps.length)
    (hbody : ∀ (cdv : Value) (A : Around) (outer : List Env) (s : Shared) (H : Hp) (vs : List V) (Q : VK) (E : XK), Room k (A.deeper (envOfC qual (defScope st) s.heap.objs.size f cdv)) → sp vs H Q E →
      ∃ t, XB (cxOf CX0 P w K mg base N qual (defScope st) f cdv A outer s H E).nox (defBody st) t ∧ t { nx := fun _ H' => Q .non H', rt := Q } (start N vs) H) : FnOk P w K mg base CX0 (k + 1) f fd ps sp :=
  F.ok S len fun cdv A outer s H vs Q E hr h => let ⟨t, h1, h2⟩ := hbody cdv A outer s H vs Q E hr h; ⟨t, h1.h, h2⟩
theorem def_at {K : W.Frag} {h : Heap} {mg : Str → Option Value} {x : Str} {st : Stmt} {ps : List Str} {f : Addr} {od an : Option Addr} {sl : Array (Option Value)} {oc kV dc pm cd ct : Value} (X : K.In h) (G : h.Ns mainGlobals mg)
    (a : W.nsIn K mainGlobals x = some (some (.ref f))) (l : K.lookup f = some ⟨oc, od, .func (W.fnOf x x (defArgs st) (defBody st) (defScope st) .none kV dc pm an cd ct), sl⟩) (c : W.codeIn K cd x = true) (k : W.keepIn K (.ref f) = true)
    (hb : ∀ (kV doc pm : Value) (an : Option Addr) (cdv ct : Value) (us : List Value), us.length = ps.length → bindArgs (W.fnOf x x (defArgs st) (defBody st) (defScope st) .none kV doc pm an cdv ct) ⟨us, []⟩ = pure (ps.zip us)) : DefAt K mg x st ps :=
  ⟨f, _, fun_mk l c k, W.mg_of X G a, (fun_mk (st := st) l c k).binds hb⟩
namespace R
section
variable {X : Cx} {K : W.Frag} {a b c e o i tg : Expr} {es rest : List Expr} {te to : TE} {t : TA} {pos p p2 apos cpos : Pos} {x : Str} {n : Nat}
theorem kiL (hK : X.K = K := by rfl) : XIx X (mIxL K) := hK ▸ iL
theorem ksL (hK : X.K = K := by rfl) : XSl X (mSlL K) := hK ▸ sL
theorem kinQ (hK : X.K = K := by rfl) : XOp X (compareOp .In) (rIn K false) := hK ▸ inQ
theorem knotInQ (hK : X.K = K := by rfl) : XOp X (compareOp .NotIn) (rIn K true) := hK ▸ notInQ
theorem keqNil (hu : X.A.units < cLine) (hK : X.K = K := by rfl) : XOp X (compareOp .Eq) (rEqNil K false) := hK ▸ eqNil hu
theorem kneNil (hu : X.A.units < cLine) (hK : X.K = K := by rfl) : XOp X (compareOp .NotEq) (rEqNil K true) := hK ▸ neNil hu
theorem klenL (hK : X.K = K := by rfl) : XC X (.builtin "len") (fun vs H Q => match vs with | [.ref p] => ∃ ys, (SqL K H p ys ∨ SqT K H p ys) ∧ Q (.int ys.length) H | _ => False) := hK ▸ lenL
theorem ksum (hc : X.calm = true) (hK : X.K = K := by rfl) : XC X (.builtin "sum") (rSum K) := hK ▸ sum hc
theorem kjoin (hK : X.K = K := by rfl) : XM X "str.join" (rJoin K) := hK ▸ join
theorem kbm {T id : String} {name : Str} {r : V → List V → Hp → VK → Prop} (pa : PlainAttrs T) (slot : Slot T name id) (hty : typeOf (.builtin id) = pure (.type "method_descriptor")) (hm : XM X id r) (ho : XE X o to) (ha : XA X (e :: es) t) (hK : X.K = K := by rfl)
    (hbase : attributeBase o name X.env (eval o X.env) = eval o X.env := by rfl) (hline : (apos.endLine == cpos.line) = true := by rfl) (h1 : notStar e = true := by rfl) (h2 : es.all notStar = true := by rfl) (hn : es.length + 1 < 30 := by decide) :
    XE X (.Call (.Attribute o name apos) (e :: es) [] cpos) (tBM K T r to t) := hK ▸ bm pa slot hty hm ho ha hbase hline h1 h2 hn
theorem kbm0 {T id : String} {name : Str} {r : V → List V → Hp → VK → Prop} (pa : PlainAttrs T) (slot : Slot T name id) (hty : typeOf (.builtin id) = pure (.type "method_descriptor")) (hm : XM X id r) (ho : XE X o to) (hK : X.K = K := by rfl)
    (hbase : attributeBase o name X.env (eval o X.env) = eval o X.env := by rfl) (hline : (apos.endLine == cpos.line) = true := by rfl) : XE X (.Call (.Attribute o name apos) [] [] cpos) (tBM0 K T r to) := hK ▸ bm0 pa slot hty hm ho hbase hline
theorem klistrev {pos2 : Pos} (hc : X.calm = true) (hg : Gl X "list") (hm : X.mg "list" = none) (hg2 : Gl X "reversed") (hm2 : X.mg "reversed" = none) (he : XE X e te) (hK : X.K = K := by rfl) (h1 : notStar e = true := by rfl) :
    XE X (.Call (.Name "list" p) [.Call (.Name "reversed" p2) [e] [] pos2] [] pos) (tRev K te) := hK ▸ listrev hc hg hm hg2 hm2 he h1
theorem kwL (hl : XE X e te) (hK : X.K = K := by rfl) : XI X tg e (iList K te) := hK ▸ wL hl
theorem kgt {k : Nat} {tgs : TGs} (hc : X.calm = true) (h : XGs X es tgs) (hK : X.K = K := by rfl) (hn : (assignEach es X.env).length = n := by rfl) (hst : (assignEach es X.env).findIdx? (·.1) = none := by rfl) : XG X (.Tuple es k pos) (gTup K n tgs) := hK ▸ gt' hc h hn hst
end
end R
end L2
namespace L2
open PySem PySem.Spec PyProof.Rows
section
variable {X : Cx}
end
namespace R
variable {X : Cx}
end R
def LET : List Nat := [97, 98, 99, 100, 101, 102, 103, 104, 105, 106, 107, 108, 109, 110, 111, 112, 113, 114, 115, 116, 117, 118, 119, 120, 121, 122]
theorem let_eq : (("abcdefghijklmnopqrstuvwxyz" : Str)).cps.toList = LET := by decide +kernel
end L2
namespace L2
open PySem PySem.Spec PyProof.Rows
def isNm (z : Str) : Prop := 1 ≤ z.length ∧ z.length ≤ 8 ∧ ∀ c ∈ z.cps.toList, c ∈ LET
def spName : Sp := fun vs H Q _ => ∃ d b, vs = [.ref d] ∧ Dk H d b ∧ ∀ z H', isNm z → Dk H' d b → Kp d b H H' → Q (.str z) H'
def spNames : Sp := fun vs H Q _ => ∃ (d b : Addr) (m : Nat), vs = [.ref d, .int m] ∧ Dk H d b ∧ m ≤ 60 ∧ ∀ (l : Addr) (zs : List Str) (H' : Hp), zs.length = m → (∀ z ∈ zs, isNm z) → zs.Nodup → H l = none → H' l = some (.lst (zs.map V.str)) → Dk H' d b → Kp d b H H' → Q (.ref l) H'
def spAmount : Sp := fun vs H Q _ => ∃ (d b : Addr) (least : Int), vs = [.ref d, .int least] ∧ 0 ≤ least ∧ least ≤ 1 ∧ Dk H d b ∧ ∀ n H', least ≤ n → n ≤ 1000000000000 → Dk H' d b → Kp d b H H' → Q (.int n) H'
theorem inV_str (z : Str) (ns : List Str) : inV (.str z) (ns.map V.str) = decide (z ∈ ns) := by
  unfold inV
  rw [List.any_map, Bool.eq_iff_iff, List.any_eq_true, decide_eq_true_iff]
  constructor
  · rintro ⟨y, hy, e⟩
    have : y = z := by simpa [eqV] using e
    rw [← this]; exact hy
  · intro h
    exact ⟨z, h, by simp [eqV]⟩
theorem flat_strs (ns : List Str) : (ns.map V.str).all flatV = true := by
  rw [List.all_map]; exact List.all_eq_true.mpr fun _ _ => rfl
theorem len_subset {α : Type} [DecidableEq α] : ∀ (l m : List α), l.Nodup → (∀ x ∈ l, x ∈ m) → l.length ≤ m.length
  | [], _, _, _ => Nat.zero_le _
  | a :: l, m, hn, hs => by
    obtain ⟨h1, h2⟩ := List.nodup_cons.mp hn
    have ha : a ∈ m := hs a List.mem_cons_self
    have := len_subset l (m.erase a) h2 fun x hx => (List.mem_erase_of_ne (fun (e : x = a) => h1 (e ▸ hx))).mpr (hs x (List.mem_cons_of_mem _ hx))
    rw [List.length_erase_of_mem ha] at this
    have hp : 0 < m.length := List.length_pos_of_mem ha
    rw [List.length_cons]; omega
theorem some_out {α : Type} [DecidableEq α] (l m : List α) (hn : l.Nodup) (h : m.length < l.length) : l.filter (fun x => !decide (x ∈ m)) ≠ [] := fun e => by
  have : ∀ x ∈ l, x ∈ m := fun x hx => by
    have := List.filter_eq_nil_iff.mp e x hx
    simpa using this
  have := len_subset l m hn this
  omega
def other (k : Nat) : Str := tx [LET.getD (k / 26) 0, LET.getD (k % 26) 0, 113]
def others : List Str := (List.range 100).map other
theorem others_nodup : others.Nodup := by decide +kernel
theorem others_nm : ∀ z ∈ others, isNm z := by
  intro z hz
  obtain ⟨k, hk, rfl⟩ := List.mem_map.mp hz
  have hk' := List.mem_range.mp hk
  have key : ∀ k, k < 100 → (LET.getD (k / 26) 0 ∈ LET ∧ LET.getD (k % 26) 0 ∈ LET) := by decide +kernel
  refine ⟨by show 1 ≤ 3; decide, by show 3 ≤ 8; decide, fun c hc => ?_⟩
  have hc' : c = LET.getD (k / 26) 0 ∨ c = LET.getD (k % 26) 0 ∨ c = 113 := by simpa [other] using hc
  rcases hc' with e | e | e
  · rw [e]; exact (key k hk').1
  · rw [e]; exact (key k hk').2
  · rw [e]; decide
theorem eight {r : Int} (h0 : 0 ≤ r) (h1 : r < 8) : r = 0 ∨ r = 1 ∨ r = 2 ∨ r = 3 ∨ r = 4 ∨ r = 5 ∨ r = 6 ∨ r = 7 := by omega
theorem six {r : Int} (h0 : 0 ≤ r) (h1 : r < 6) : r = 0 ∨ r = 1 ∨ r = 2 ∨ r = 3 ∨ r = 4 ∨ r = 5 := by omega
namespace R
variable {X : Cx}
theorem max (hc : X.calm = true) : XC X (.builtin "max") (fun vs H Q => match vs with | [.int i, .int j] => Q (.int (if j > i then j else i)) H | _ => False) := ⟨(call_max2 hc).imp fun vs H Q h => by
  split at h
  · rename_i i j
    exact ⟨i, j, rfl, h⟩
  · exact h.elim⟩
end R
end L2
namespace L2
open PySem PySem.Spec PyProof.Rows
section
variable {prog : Program} {w : World} {A : Around} {E : Value → Shared → Prop} {s : Shared}
end
section
variable {X : Cx} {e o e1 e2 : Expr} {te : TE} {pos p2 p3 : Pos}
end
def Tab (P : Params) : List DictEntry → List (Str × Int) → Prop
  | [], [] => True
  | e :: r, (x, i) :: q => (∃ t, e.key = .str x t) ∧ e.hash = PyData.keyHash P x ∧ (∃ t, e.val = .int i t) ∧ Tab P r q
  | _, _ => False
section
variable {X : Cx}
end
namespace R
section
variable {X : Cx} {K : W.Frag} {P : Params} {e e1 k v o f : Expr} {te t1 tk tv td ty tx' : TE} {pos p2 apos cpos : Pos} {ks : List (Option Expr)} {vs : List Expr} {trs : List (TE × TE)}
theorem ktoList (hK : X.K = K := by rfl) : XC X (.type "list") (fun vs H Q => match vs with | [.ref p] => ∃ ys, (SqL K H p ys ∨ SqT K H p ys) ∧ ∀ l, H l = none → Q (.ref l) (upd H l (.lst ys)) | _ => False) := hK ▸ ⟨call_list_of.imp fun vs H Q h => by
  split at h
  · rename_i p
    obtain ⟨ys, hq, h⟩ := h
    exact ⟨p, ys, rfl, hq, h⟩
  · exact h.elim⟩
theorem ktoTup (hK : X.K = K := by rfl) : XC X (.type "tuple") (fun vs H Q => match vs with | [.ref p] => ∃ ys, SqL K H p ys ∧ ∀ l, H l = none → Q (.ref l) (upd H l (.tup ys)) | _ => False) := hK ▸ ⟨call_tuple_of.imp fun vs H Q h => by
  split at h
  · rename_i p
    obtain ⟨ys, hq, h⟩ := h
    exact ⟨p, ys, rfl, .inl ⟨hq, h⟩⟩
  · exact h.elim⟩
theorem dget2 (hu : X.A.units + 1 < cLine) (ho : XE X o td) (he : XE X e ty) (hf : XE X f tx') (h1 : attributeBase o "get" X.env (eval o X.env) = eval o X.env := by rfl) (h3 : (apos.endLine == cpos.line) = true := by rfl)
    (h2 : ((backTo cpos (starEach [e, f] X.env)).all (fun x => !x.1) && (backToKw cpos (keywordEach [] X.env)).all (fun x => x.1.isSome)
    && decide (([e, f] : List Expr).length + ([] : List Keyword).length + (if ([] : List Keyword).isEmpty then 0 else 1) < 30)) = true := by rfl)
    (h4 : backTo cpos (starEach [e, f] X.env) = [(false, eval e X.env), (false, eval f X.env)] := by rfl) : XE X (.Call (.Attribute o "get" apos) [e, f] [] cpos) (tDGet2 td ty tx') := ⟨pe_dget2 hu ho.h he.h hf.h ⟨h1, h2, h3, h4⟩⟩
end
end R
end L2
namespace L2
open PySem PySem.Spec PyProof.Rows
end L2
namespace L2
open PySem PySem.Spec PyProof.Rows
def mCat : R2 := fun x y H Q => mR x fun l => mR y fun b => ∃ xs zs, H l = some (.lst xs) ∧ H b = some (.lst zs) ∧ xs.length + zs.length ≤ sizeLine ∧ ∀ p, H p = none → Q (.ref p) (upd H p (.lst (xs ++ zs)))
theorem R.cat {X : Cx} : XOp X (binaryOp .Add) mCat := ⟨op_cat.imp fun x y H Q h => by
  unfold mCat at h
  rw [mR_eq] at h
  obtain ⟨a, rfl, h⟩ := h
  rw [mR_eq] at h
  obtain ⟨b, rfl, xs, zs, h⟩ := h
  exact ⟨a, b, xs, zs, rfl, rfl, h⟩⟩
end L2
namespace L2
open PySem PySem.Spec PyProof.Rows
theorem Same.kp {H H' : Hp} {d b : Addr} (s : Same H H') : Kp d b H H' := fun c o e _ _ => s c o e
theorem Dk.tup_ne {H : Hp} {d b p : Addr} {xs : List V} (D : Dk H d b) (h : H p = some (.tup xs)) : p ≠ d ∧ p ≠ b := by
  obtain ⟨ns, s, k, h1, h2, h3⟩ := D.ex
  exact ⟨fun e => (by rw [e, h1] at h; cases h), fun e => (by rw [e, h2] at h; cases h)⟩
section
variable {d b : Addr} {H : Hp}
end
end L2
namespace L2
open PySem PySem.Spec PyProof.Rows
inductive TV where
  | sc (v : V)
  | tp (xs : List TV)
  | ls (xs : List TV)
def isSc : V → Bool | .non => true | .bl _ => true | .int _ => true | .str _ => true | _ => false
def Rep (H : Hp) : Nat → TV → V → Prop
  | 0, .sc v, x => x = v ∧ isSc v = true
  | _ + 1, .sc v, x => x = v ∧ isSc v = true
  | n + 1, .tp ts, x => ∃ a xs, x = .ref a ∧ H a = some (.tup xs) ∧ Paired (Rep H n) ts xs
  | n + 1, .ls ts, x => ∃ a xs, x = .ref a ∧ H a = some (.lst xs) ∧ Paired (Rep H n) ts xs
  | 0, _, _ => False
theorem Rep.scal {H : Hp} {n : Nat} {v : V} (h : isSc v = true) : Rep H n (.sc v) v := by
  cases n <;> exact ⟨rfl, h⟩
theorem Paired.get' {α β : Type} {R : α → β → Prop} : ∀ {xs : List α} {ys : List β} {j : Nat}, Paired R xs ys → ∀ (h : j < ys.length), ∃ h' : j < xs.length, R xs[j] ys[j]
  | _, _, 0, .cons h t, _ => ⟨Nat.succ_pos _, h⟩
  | _, _, j + 1, .cons h t, hj => let ⟨h', r⟩ := Paired.get' (j := j) t (by simpa using hj); ⟨by simpa using h', by simpa using r⟩
section
variable {X : Cx} {pins : List (Addr × Obj)} {s : Shared} {σ : St} {H : Hp}
theorem in1u (B : Around) : B.in1.units = B.units + 1 := rfl
theorem all_true (n : Nat) : (List.range n).all (fun _ => true) = true := List.all_eq_true.mpr fun _ _ => rfl
theorem rep_eq (I : Inv X pins σ H s) : ∀ (n : Nat) {t : TV} {x y : V} {v u : Value} {A : Around}, Rep H n t x → Rep H n t y → RelV x v → RelV y u → A.units + n < cLine → SeqAt.EqAt A s v u true := by
  have sc : ∀ {v : V} {x y : V} {v1 u1 : Value} {A : Around}, (x = v ∧ isSc v = true) → (y = v ∧ isSc v = true) → RelV x v1 → RelV y u1 → SeqAt.EqAt A s v1 u1 true := by
    rintro v x y v1 u1 A ⟨rfl, hx⟩ ⟨rfl, _⟩ r1 r2
    cases y with
    | non => cases r1; cases r2; exact SeqAt.EqAt.same _
    | bl i => cases r1; cases r2; exact SeqAt.EqAt.same _
    | int i =>
      obtain ⟨t1, rfl⟩ := r1
      obtain ⟨t2, rfl⟩ := r2
      have := SeqAt.EqAt.int_int (A := A) (s := s) i t1 i t2
      rwa [beq_self_eq_true] at this
    | str i =>
      obtain ⟨t1, rfl⟩ := r1
      obtain ⟨t2, rfl⟩ := r2
      have := SeqAt.EqAt.str_str (A := A) (s := s) i t1 i t2
      rwa [beq_self_eq_true] at this
    | _ => cases hx
  intro n
  induction n with
  | zero =>
    intro t x y v u A h1 h2 r1 r2 hu
    cases t with
    | sc z => exact sc h1 h2 r1 r2
    | _ => exact h1.elim
  | succ n ih =>
    intro t x y v u A h1 h2 r1 r2 hu
    cases t with
    | sc z => exact sc h1 h2 r1 r2
    | tp ts =>
      obtain ⟨a, xs, rfl, g1, p1⟩ := h1
      obtain ⟨b, ys, rfl, g2, p2⟩ := h2
      cases r1
      cases r2
      by_cases hab : a = b
      · subst hab; exact SeqAt.EqAt.same _
      · obtain ⟨its, ri, ti, _⟩ := I.tuple (SqT.of g1)
        obtain ⟨its2, ri2, ti2, _⟩ := I.tuple (SqT.of g2)
        have el1 : its.length = ts.length := by rw [← ri.length, p1.length]
        have el2 : its2.length = ts.length := by rw [← ri2.length, p2.length]
        have key := SeqAt.RcAt.tuples (A := A) (s := s) (e := fun _ => true) ti ti2 (by omega) (fun j h1 h2 => by
          rw [List.size_toArray] at h1 h2
          obtain ⟨h1', q1⟩ := Paired.get' (j := j) ri h1
          obtain ⟨h2', q2⟩ := Paired.get' (j := j) ri2 h2
          obtain ⟨h3, q3⟩ := Paired.get' (j := j) p1 h1'
          obtain ⟨h4, q4⟩ := Paired.get' (j := j) p2 h2'
          simpa using ih q3 q4 q1 q2 (by rw [in1u]; omega))
        have e : ((List.range (min its.toArray.size its2.toArray.size)).all (fun _ => true) && its.toArray.size == its2.toArray.size) = true := by
          rw [all_true, List.size_toArray, List.size_toArray, el1, el2, beq_self_eq_true]; rfl
        rw [e] at key
        exact SeqAt.EqAt.of_refs hab key
    | ls ts =>
      obtain ⟨a, xs, rfl, g1, p1⟩ := h1
      obtain ⟨b, ys, rfl, g2, p2⟩ := h2
      cases r1
      cases r2
      by_cases hab : a = b
      · subst hab; exact SeqAt.EqAt.same _
      · obtain ⟨its, ri, ti, _⟩ := I.list (SqL.of g1)
        obtain ⟨its2, ri2, ti2, _⟩ := I.list (SqL.of g2)
        have el1 : its.length = ts.length := by rw [← ri.length, p1.length]
        have el2 : its2.length = ts.length := by rw [← ri2.length, p2.length]
        have key := SeqAt.RcAt.lists (A := A) (s := s) (e := fun _ => true) ti.isList ti2.isList (by rw [List.size_toArray, List.size_toArray, el1, el2]) (by omega) (fun j h1 h2 => by
          rw [List.size_toArray] at h1 h2
          obtain ⟨h1', q1⟩ := Paired.get' (j := j) ri h1
          obtain ⟨h2', q2⟩ := Paired.get' (j := j) ri2 h2
          obtain ⟨h3, q3⟩ := Paired.get' (j := j) p1 h1'
          obtain ⟨h4, q4⟩ := Paired.get' (j := j) p2 h2'
          simpa using ih q3 q4 q1 q2 (by rw [in1u]; omega))
        rw [all_true] at key
        exact SeqAt.EqAt.of_refs hab key
end
section
variable {X : Cx}
def mEqT (neg : Bool) : R2 := fun x y H Q => ∃ n t, n ≤ 50 ∧ Rep H n t x ∧ Rep H n t y ∧ Q (.bl (!neg)) H
theorem rc_tree (neg : Bool) {pins : List (Addr × Obj)} {s : Shared} {σ : St} {H : Hp} {x y : V} {v u : Value} {Q : VK} {op : CmpOp} (hop : op = if neg then .NotEq else .Eq) (hu : X.A.units + 64 < cLine) (I : Inv X pins σ H s) (rx : RelV x v) (ry : RelV y u) (h : mEqT neg x y H Q) :
    wpAny (model X.prog X.w) X.A (compareOp op v u) (EP X pins σ Q) X.xe s := by
  obtain ⟨n, t, hn, h1, h2, q⟩ := h
  have sc : ∀ z, t = .sc z → wpAny (model X.prog X.w) X.A (compareOp op v u) (EP X pins σ Q) X.xe s := by
    rintro z rfl
    have e1 : x = z ∧ isSc z = true := by cases n <;> exact h1
    have e2 : y = z ∧ isSc z = true := by cases n <;> exact h2
    obtain ⟨rfl, hx⟩ := e1
    obtain ⟨rfl, _⟩ := e2
    have hs : L2.scal y y = true := by cases y <;> first | rfl | cases hx
    cases neg with
    | true =>
      subst hop
      exact op_ne pins s σ H y y v u Q I rx ry ⟨hs, by simpa using q⟩
    | false =>
      subst hop
      exact op_eq pins s σ H y y v u Q I rx ry ⟨hs, by simpa using q⟩
  cases n with
  | zero =>
    cases t with
    | sc z => exact sc z rfl
    | _ => exact h1.elim
  | succ n =>
    cases t with
    | sc z => exact sc z rfl
    | tp ts =>
      obtain ⟨a, xs, rfl, g1, p1⟩ := h1
      obtain ⟨b, ys, rfl, g2, p2⟩ := h2
      cases rx
      cases ry
      obtain ⟨its, ri, ti, _⟩ := I.tuple (SqT.of g1)
      obtain ⟨its2, ri2, ti2, _⟩ := I.tuple (SqT.of g2)
      have el1 : its.length = ts.length := by rw [← ri.length, p1.length]
      have el2 : its2.length = ts.length := by rw [← ri2.length, p2.length]
      have each : ∀ j (h1 : j < its.toArray.size) (h2 : j < its2.toArray.size), SeqAt.EqAt X.A.in1 s its.toArray[j] its2.toArray[j] true := fun j h1 h2 => by
        rw [List.size_toArray] at h1 h2
        obtain ⟨h1', q1⟩ := Paired.get' (j := j) ri h1
        obtain ⟨h2', q2⟩ := Paired.get' (j := j) ri2 h2
        obtain ⟨h3, q3⟩ := Paired.get' (j := j) p1 h1'
        obtain ⟨h4, q4⟩ := Paired.get' (j := j) p2 h2'
        simpa using rep_eq I n q3 q4 q1 q2 (by rw [in1u]; omega)
      have e : ((List.range (min its.toArray.size its2.toArray.size)).all (fun _ => true) && its.toArray.size == its2.toArray.size) = true := by
        rw [all_true, List.size_toArray, List.size_toArray, el1, el2, beq_self_eq_true]; rfl
      cases neg with
      | true =>
        subst hop
        have key := SeqAt.RcNeAt.tuples (A := X.A) (s := s) (e := fun _ => true) ti ti2 (by omega) each
        rw [e] at key
        exact key _ _ _ _ ⟨.bl false, H, I, rfl, q⟩
      | false =>
        subst hop
        have key := SeqAt.RcAt.tuples (A := X.A) (s := s) (e := fun _ => true) ti ti2 (by omega) each
        rw [e] at key
        exact key _ _ _ _ ⟨.bl true, H, I, rfl, q⟩
    | ls ts =>
      obtain ⟨a, xs, rfl, g1, p1⟩ := h1
      obtain ⟨b, ys, rfl, g2, p2⟩ := h2
      cases rx
      cases ry
      obtain ⟨its, ri, ti, _⟩ := I.list (SqL.of g1)
      obtain ⟨its2, ri2, ti2, _⟩ := I.list (SqL.of g2)
      have el1 : its.length = ts.length := by rw [← ri.length, p1.length]
      have el2 : its2.length = ts.length := by rw [← ri2.length, p2.length]
      have each : ∀ j (h1 : j < its.toArray.size) (h2 : j < its2.toArray.size), SeqAt.EqAt X.A.in1 s its.toArray[j] its2.toArray[j] true := fun j h1 h2 => by
        rw [List.size_toArray] at h1 h2
        obtain ⟨h1', q1⟩ := Paired.get' (j := j) ri h1
        obtain ⟨h2', q2⟩ := Paired.get' (j := j) ri2 h2
        obtain ⟨h3, q3⟩ := Paired.get' (j := j) p1 h1'
        obtain ⟨h4, q4⟩ := Paired.get' (j := j) p2 h2'
        simpa using rep_eq I n q3 q4 q1 q2 (by rw [in1u]; omega)
      cases neg with
      | true =>
        subst hop
        have key := SeqAt.RcNeAt.lists (A := X.A) (s := s) (e := fun _ => true) ti.isList ti2.isList (by rw [List.size_toArray, List.size_toArray, el1, el2]) (by omega) each
        rw [all_true] at key
        exact key _ _ _ _ ⟨.bl false, H, I, rfl, q⟩
      | false =>
        subst hop
        have key := SeqAt.RcAt.lists (A := X.A) (s := s) (e := fun _ => true) ti.isList ti2.isList (by rw [List.size_toArray, List.size_toArray, el1, el2]) (by omega) each
        rw [all_true] at key
        exact key _ _ _ _ ⟨.bl true, H, I, rfl, q⟩
theorem R.eqD (hu : X.A.units + 64 < cLine) : XOp X (compareOp .Eq) (mEqT false) := ⟨fun pins s σ H x y v u Q I rx ry h => rc_tree false rfl hu I rx ry h⟩
theorem R.neD (hu : X.A.units + 64 < cLine) : XOp X (compareOp .NotEq) (mEqT true) := ⟨fun pins s σ H x y v u Q I rx ry h => rc_tree true rfl hu I rx ry h⟩
end
end L2
namespace L2
open PySem PySem.Spec PyProof.Rows PySem.Builtin PySem.Builtin.Str
section
variable {X : Cx}
end
end L2
namespace L2
open PySem PySem.Spec PyProof.Rows
end L2
namespace L2
open PySem PySem.Spec PyProof.Rows
theorem le_cps (a b : Str) : ltCps b.cps.toList a.cps.toList = false ↔ a.cps.toList ≤ b.cps.toList := by
  rw [ltCps_eq, decide_eq_false_iff_not]
  exact Iff.rfl
theorem str_ext' {a b : Str} (h : a.cps.toList = b.cps.toList) : a = b := by rw [tx_of a, tx_of b, h]
theorem risingS_pairwise : ∀ (l : List Str) (p : Str), risingS p l = true → (p :: l).Pairwise (fun a b => a.cps.toList ≤ b.cps.toList)
  | [], p, _ => List.pairwise_singleton _ _
  | x :: r, p, h => by
    unfold risingS at h
    rw [Bool.and_eq_true] at h
    obtain ⟨h1, h2⟩ := h
    have ih := risingS_pairwise r x h2
    have hpx : p.cps.toList ≤ x.cps.toList := (le_cps p x).mp (by simpa using h1)
    refine List.pairwise_cons.mpr ⟨fun y hy => ?_, ih⟩
    rcases List.mem_cons.mp hy with rfl | hy
    · exact hpx
    · exact List.le_trans hpx ((List.pairwise_cons.mp ih).1 y hy)
theorem sortedS_pairwise : ∀ (l : List Str), sortedS l = true → l.Pairwise (fun a b => a.cps.toList ≤ b.cps.toList)
  | [], _ => List.Pairwise.nil
  | x :: r, h => risingS_pairwise r x h
theorem sort_unique : ∀ (l m : List Str), l.Perm m → l.Pairwise (fun a b => a.cps.toList ≤ b.cps.toList) → m.Pairwise (fun a b => a.cps.toList ≤ b.cps.toList) → l = m
  | [], m, hp, _, _ => (List.nil_perm.mp hp).symm
  | a :: l, [], hp, _, _ => (List.perm_nil.mp hp)
  | a :: l, b :: m, hp, h1, h2 => by
    obtain ⟨p1, p2⟩ := List.pairwise_cons.mp h1
    obtain ⟨q1, q2⟩ := List.pairwise_cons.mp h2
    have e : a = b := by
      have ma : a ∈ b :: m := hp.mem_iff.mp List.mem_cons_self
      have mb : b ∈ a :: l := hp.mem_iff.mpr List.mem_cons_self
      rcases List.mem_cons.mp ma with h | h
      · exact h
      · rcases List.mem_cons.mp mb with h' | h'
        · exact h'.symm
        · exact str_ext' (List.le_antisymm (p1 b h') (q1 a h))
    subst e
    rw [sort_unique l m (List.Perm.cons_inv hp) p2 q2]
def srt (ss : List Str) : List Str := ss.mergeSort (fun a b => decide (a.cps.toList ≤ b.cps.toList))
theorem srt_perm (ss : List Str) : (srt ss).Perm ss := List.mergeSort_perm _ _
theorem srt_sorted (ss : List Str) : (srt ss).Pairwise (fun a b => a.cps.toList ≤ b.cps.toList) := by
  have := List.pairwise_mergeSort (le := fun (a b : Str) => decide (a.cps.toList ≤ b.cps.toList)) (fun a b c h1 h2 => decide_eq_true (List.le_trans (of_decide_eq_true h1) (of_decide_eq_true h2))) (fun a b => by
    rcases List.le_total a.cps.toList b.cps.toList with h | h
    · simp [h]
    · simp [h]) ss
  exact this.imp fun h => of_decide_eq_true h
theorem srt_eq {ss ss' : List Str} (hp : ss'.Perm ss) (hs : sortedS ss' = true) : ss' = srt ss :=
  sort_unique _ _ (hp.trans (srt_perm ss).symm) (sortedS_pairwise _ hs) (srt_sorted ss)
theorem srt_len (ss : List Str) : (srt ss).length = ss.length := (srt_perm ss).length_eq
section
variable {prog : Program} {w : World} {A : Around} {E : Value → Shared → Prop} {s : Shared}
end
theorem strs_vals : ∀ {vs : List Value} {ss : List Str}, StrsAre vs ss → Vals (ss.map V.str) vs
  | _, _, .nil => .nil
  | _, _, .cons x t h => .cons ⟨t, rfl⟩ (strs_vals h)
section
variable {X : Cx}
end
section
variable {X : Cx} {pos : Pos}
end
end L2
namespace L2
open PySem PySem.Spec PyProof.Rows
section
variable {X : Cx} {es : List Expr} {t : TA} {pos : Pos}
def tTupW (t : TA) : TE := fun σ H Q => t σ H fun xs H1 => xs.length ≤ 1000 ∧ ∀ p H', Same H1 H' → H' p = some (.tup xs) → Q (.ref p) H'
theorem pe_tupW {x1} (h : PA X es t) : PE X (.Tuple es x1 pos) (tTupW t) := by
  intro pins s σ H Q I hq
  refine wpAny_Tuple_spliced (thn (h pos pins s σ H _ I hq) fun us s1 ⟨xs, H1, I1, r, z, q⟩ => ⟨by rw [← r.length]; exact szl' z, ?_⟩)
  have hf : H1 s1.heap.objs.size = none := I1.hok.fresh (Nat.le_refl _)
  refine ⟨.ref s1.heap.objs.size, upd H1 s1.heap.objs.size (.tup xs), I1.laid (t' := s1.toks) (fun b u e => Heap.get?_push_of_some _ e) (Nat.le_refl _) ?_, rfl, q _ _ (same_upd hf) upd_same⟩
  exact ⟨szl' z, us, r, ⟨_, Heap.get?_push_size _ rfl, rfl, _, rfl⟩⟩
theorem R.wtup {x1} (h : XA X es t) : XE X (.Tuple es x1 pos) (tTupW t) := ⟨pe_tupW h.h⟩
end
end L2
namespace L2
open PySem PySem.Spec PyProof.Rows
section
variable {O : KeyOrd} {key : Nat → O.α} {n : Nat}
end
section
variable {prog : Program} {w : World} {A : Around} {E : Value → Shared → Prop} {s : Shared}
end
end L2
namespace L2
open PySem PySem.Spec PyProof.Rows
section
variable {prog : Program} {w : World} {A : Around} {E : Value → Shared → Prop} {s : Shared}
end
abbrev Z := Addr × Str × Int
def zle (x y : Z) : Prop := x.2.1.cps.toList ≤ y.2.1.cps.toList
def ZAt (H : Hp) (zs : List Z) : Prop := ∀ z ∈ zs, H z.1 = some (.tup [.str z.2.1, .int z.2.2])
theorem ZAt.same {H H' : Hp} {zs : List Z} (h : ZAt H zs) (s : Same H H') : ZAt H' zs := fun z hz => s _ _ (h z hz)
def zref (zs : List Z) : List V := zs.map fun z => V.ref z.1
section
variable {X : Cx} {pins : List (Addr × Obj)} {σ : St} {H : Hp} {s : Shared}
theorem vals_getD : ∀ {xs : List V} {vs : List Value} (i : Nat), Vals xs vs → i < xs.length → ∀ x, xs[i]? = some x → RelV x (vs.getD i Value.none)
  | x :: xs, v :: vs, 0, .cons r rs, _, y, hy => by
    cases hy
    exact r
  | x :: xs, v :: vs, i + 1, .cons r rs, hi, y, hy => by
    have := vals_getD i rs (by simpa using hi) y (by simpa using hy)
    simpa using this
def mSortedP (K : W.Frag) : List V → Hp → VK → Prop := fun vs H Q => match vs with
  | [.ref a] => ∃ zs : List Z, SqL K H a (zref zs) ∧ ZAt H zs ∧ (zs.map (·.2.1)).Nodup ∧ zs.length < 64 ∧ ∀ l zs', H l = none → zs'.Perm zs → zs'.Pairwise zle → Q (.ref l) (upd H l (.lst (zref zs')))
  | _ => False
end
theorem strs_items : ∀ {ks : List Str} {vs : List Value}, vs.length = ks.length → (∀ (i : Nat) (v : Value), vs[i]? = some v → ∃ x t, ks[i]? = some x ∧ v = Value.str x t) → StrsAre vs ks
  | [], [], _, _ => .nil
  | k :: ks, v :: vs, hl, h => by
    obtain ⟨x, t, e1, rfl⟩ := h 0 v rfl
    cases e1
    exact .cons k t (strs_items (by simpa using hl) fun i v hv => by simpa using h (i + 1) v (by simpa using hv))
section
variable {prog : Program} {w : World} {A : Around} {E : Value → Shared → Prop} {s : Shared}
theorem sorted_dict {d : Addr} {ss : List Str} {kvs : List (Key × Value)} {Q : Value → Shared → Prop} (hh : A.handled = none) (lo : (d == sysModules) = false) (hd : s.heap.DictOf (mixKind prog w) d kvs) (hk : kvs.map (·.1) = ss.map Sum.inr) (h64 : ss.length < 64)
    (h : ∀ (h1 h' : Heap) (tk : Nat) (out : Array Value) (e : Nat), (∀ b ob, s.heap.get? b = some ob → h1.get? b = some ob) → (∀ b ob, h1.get? b = some ob → h'.get? b = some ob) → h'.get? h1.objs.size = some (seqObj "list" out e) → StrsAre out.toList (srt ss) → Q (.ref h1.objs.size) { s with heap := h', toks := tk }) :
    wpAny (model prog w) A (call (.builtin "sorted") [.ref d]) Q E s := by
  have hl : kvs.length = ss.length := by simpa using congrArg List.length hk
  obtain ⟨ep, hm⟩ := hd.dictAt
  apply Calls.call_function_entry kind_sorted plain_sorted entry_sorted (args_sorted1 _)
  unfold Builtin.«sorted»
  apply wpAny_bind (m := checkCount "sorted" 1 1 _)
  apply wpAny_pure
  apply wpAny_bind
  refine W.kdu_collect (W.kdl_dict lo) hh hm (by rw [hl]; exact Nat.le_trans (Nat.le_of_lt h64) (by decide)) fun h1 tk acc k1 hacc => ?_
  have hS : StrsAre acc.toList ss := strs_items (by rw [Array.length_toList, hacc.1, hl]) fun i v hv => by
    obtain ⟨k, x, e1, e2⟩ := hacc.2 i v (by simpa using hv)
    have e3 : (kvs.map (·.1))[i]? = some k := by rw [List.getElem?_map, e1]; rfl
    rw [hk, List.getElem?_map] at e3
    cases e4 : ss[i]? with
    | none => rw [e4] at e3; cases e3
    | some y =>
      rw [e4] at e3
      cases e3
      rcases keyIs_shape (show keyIs (Sum.inr y) v = true from e2) with ⟨_, _, e, _⟩ | ⟨z, t, e, ev⟩
      · cases e
      · cases e
        exact ⟨_, t, rfl, ev⟩
  generalize acc.toList = vs at hS
  have hvl : vs.length < 64 := by rw [hS.length]; exact h64
  apply wpAny_bind
  apply wpAny_newList
  · have g2 : (h1.push (seqObj "list" vs.toArray 0)).get? h1.objs.size = some (seqObj "list" vs.toArray 0) := Heap.get?_push_size _ rfl
    apply wpAny_bind
    apply wpAny_holding
    refine wpAny_call_entry slot_list_sort ⟨_, g2, rfl⟩ entry_list_sort (list_sort_treeK (s := { s with heap := h1.push (seqObj "list" vs.toArray 0), toks := tk }) strKind_oneLt g2 hS.keysOf (fun v₁ v₂ rest e => keyKind_strs (by rw [← e]; exact hS)) hvl fun st' hp hs => ⟨_, rfl, wpAny_pure ⟨_, rfl, ?_⟩⟩) (args_list_sort _)
    obtain ⟨ss', q1, q2, q3⟩ := sorted_out_str hS hp hs
    obtain ⟨e, he⟩ := sortedHeap_at (out := (arrOf st').map (·.2)) g2
    refine h h1 _ _ _ e k1 (fun b ob hb1 => ?_) he (srt_eq q2 q3 ▸ q1)
    have hlt := Heap.lt_size hb1
    rw [sortedHeap_old (Nat.ne_of_lt hlt) (by rw [size_push']; exact Nat.lt_succ_of_lt hlt)]
    exact Heap.get?_push_of_some _ hb1
  · exact Nat.le_trans (Nat.le_of_lt hvl) (by decide)
end
section
variable {X : Cx}
def mSortedD : List V → Hp → VK → Prop := fun vs H Q => match vs with
  | [.ref a] => ∃ (ss : List Str) (kvs : List (Key × V)), Rd H a (.dK kvs) ∧ kvs.map (·.1) = ss.map Sum.inr ∧ ss.length < 64 ∧ ∀ l, H l = none → Q (.ref l) (upd H l (.lst ((srt ss).map V.str)))
  | _ => False
theorem c_sortedD (hcm : X.calm = true) : CallR X (.builtin "sorted") mSortedD := by
  intro pins s σ H xs us Q I r h
  unfold mSortedD at h
  split at h
  · rename_i a
    obtain ⟨ss, kvs, hq, hk, h64, q⟩ := h
    obtain ⟨u, rfl, ru⟩ := vals1 r
    cases ru
    obtain ⟨_, hd, vs, rel, dd⟩ := dk_rd I.hok hq
    refine sorted_dict (I.ok.hd hcm) hd dd (by rw [← rel.keys]; exact hk) h64 fun h1 h' tk out e k1 k he hS => ?_
    have I1 := I.kept (t' := s.toks) k1
    refine ⟨.ref h1.objs.size, _, I1.laid (t' := tk) (o := .lst ((srt ss).map V.str)) k (Nat.le_refl _) ⟨?_, out.toList, e, strs_vals hS, he⟩, rfl, q _ (I1.hok.fresh (Nat.le_refl _))⟩
    rw [List.length_map, srt_len]
    exact Nat.le_trans (Nat.le_of_lt h64) (by decide)
  · exact h.elim
theorem R.sortedD (hcm : X.calm = true) : XC X (.builtin "sorted") mSortedD := ⟨c_sortedD hcm⟩
end
end L2
namespace L2
open PySem PySem.Spec PyProof.Rows
theorem lk_keys_list : typeLookup (.type "list") "keys" = pure none := am_miss_of_fast (by kernel_rfl)
theorem plain_upd : plainId "dict.update.loop" = true := by decide +kernel
theorem entry_upd : entryFor table "dict.update.loop" = some Builtin.«dict.update.loop» := entryFor_of_tree (by kernel_rfl)
section
variable {prog : Program} {w : World} {A : Around} {E : Value → Shared → Prop} {s : Shared}
theorem no_keys {a : Addr} {o : Obj} {xs : Array Value} {k : Nat} {Q : Option Value → Shared → Prop} (hx : s.heap.get? a = some o) (hc : o.cls = .type "list") (hdat : o.data = .seq xs k) (hd : o.dict = none) (hA : A.handled = none)
    (h : ∀ h' tk, (∀ b ob, s.heap.get? b = some ob → h'.get? b = some ob) → Q none { s with heap := h', toks := tk }) : wpAny (model prog w) A (getAttr? (.ref a) "keys") Q E s := by
  obtain ⟨c, dct, dat, sl⟩ := o
  simp only at hc hdat hd
  subst hc hdat hd
  obtain ⟨hp, g, d, tk, os⟩ := s
  have hT : ∀ tk', (⟨hp, g, d, tk', os⟩ : Shared).TypeIs (.ref a) "list" := fun _ => ⟨_, hx, rfl⟩
  have f1 := sub_AttributeError
  have f3 := F.slot_list_getattribute.lookup
  have f4 := F.slot_list_getattribute.bind (.ref a)
  have f5 := am_list_getattr_none
  have f6 := lk_keys_list
  unfold getAttr? getAttrBy? getAttrBy
  repeat (any_goals (first | assumption | exact hT _ | ((with_reducible show wpAny _ _ (call (Value.builtin "list.__getattribute__") _ _) _ _ _); refine call_meets F.slot_list_getattribute (hT _) am_entry_list_getattribute (F.args_list_getattribute_2 _ _) (meets_getattribute_miss_list a xs k sl "keys" _ f6 (by decide +kernel)) ⟨hx, hA, fun h' tk' e hx' => ?_⟩) | wp_step))
  obtain ⟨t', u', he⟩ := hx'.there
  show wpAny _ _ (getattributeRaised _ _ _ _ _ _ _) _ _ _
  unfold getattributeRaised
  repeat (any_goals (first | assumption | wp_step))
  exact h _ _ hx'.keeps
def KPair (h : Heap) (v : Value) (q : Key × V) : Prop := ∃ a u x, v = Value.ref a ∧ IsTup h a #[u, x] ∧ RelV (kV q.1) u ∧ RelV q.2 x
theorem upd_loop (hh : A.handled = none) {I l d : Addr} {its : List Value} {qs : List (Key × V)} {R : Result → Shared → Prop} {res : Value} (hIl : I ≠ l) (hId : I ≠ d) (hld : l ≠ d) :
    ∀ (k i : Nat) (s : Shared) (kvs : List (Key × V)) (vs : List (Key × Value)) (z : Int), its.length - i = k → i ≤ its.length → qs.length = its.length → s.heap.IsListIter I l i → s.heap.IsList l its.toArray → (∀ (j : Nat) (v : Value) (q : Key × V), its[j]? = some v → qs[j]? = some q → KPair s.heap v q) →
    (∀ (j : Nat) (v : Value) (a : Addr), its[j]? = some v → v = Value.ref a → a ≠ I ∧ a ≠ d) → s.heap.DictOf (mixKind prog w) d vs → KV kvs vs → kvs.length + k ≤ 1000 →
    (∀ h' tk vs', (∀ b ob, b ≠ I → b ≠ d → s.heap.get? b = some ob → h'.get? b = some ob) → h'.DictOf (mixKind prog w) d vs' → KV (mergeK kvs (qs.drop i)) vs' → R (.ok (.ret res)) { s with heap := h', toks := tk }) →
    codeAny (model prog w) A (.builtin "dict.update.loop" ⟨[.ref d, .ref I, .int z 0, res], []⟩) R s := by
  intro k
  induction k with
  | zero =>
    intro i s kvs vs z hk hi hql hit hl hp hne hd rel hz hR
    obtain rfl : i = its.length := by omega
    refine codeAny_builtin entry_upd ?_
    rw [Around.under_plainId plain_upd _]
    show wpAny _ A.in1 (pyNext (.ref I) >>= _) _ _ s
    apply wpAny_bind
    refine wpAny_pyNext_list_end hh hit hl (by simp) fun h' eb => ?_
    show wpAny _ A.in1 (Builtin.Dict.addKeywords d [] >>= _) _ _ _
    apply wpAny_bind
    apply wpAny_pure
    apply wpAny_pure
    refine hR h' s.toks vs (fun b ob hb _ e => eb b ob hb e) (hd.extBut eb hId.symm) ?_
    rw [← hql, List.drop_length]
    exact rel
  | succ k ih =>
    intro i s kvs vs z hk hi hql hit hl hp hne hd rel hz hR
    have hlt : i < its.length := by omega
    obtain ⟨v, hv⟩ : ∃ v, its[i]? = some v := ⟨its[i], by simp [hlt]⟩
    obtain ⟨q, hq⟩ : ∃ q, qs[i]? = some q := ⟨qs[i], by simp [hql, hlt]⟩
    obtain ⟨a, u, x, rfl, ⟨ob, hob, hoc, n, hod⟩, ru, rx⟩ := hp i v q hv hq
    obtain ⟨na, nd⟩ := hne i _ a hv rfl
    refine codeAny_builtin entry_upd ?_
    rw [Around.under_plainId plain_upd _]
    show wpAny _ A.in1 (pyNext (.ref I) >>= _) _ _ s
    apply wpAny_bind
    refine wpAny_pyNext_list_item hit hl (x := .ref a) (by simpa using hv) fun h' hit' sb => ?_
    have hob' : h'.get? a = some ob := (sb.2 a na).trans hob
    have hd' : h'.DictOf (mixKind prog w) d vs := hd.extBut sb.extBut hId.symm
    apply wpAny_bind
    apply wpAny_holding
    apply wpAny_bind
    apply wpAny_tryCatch
    unfold Builtin.Dict.pairItems
    apply wpAny_bind
    refine wpAny_typeOf (T := "tuple") ⟨ob, hob', hoc⟩ ?_
    rw [if_pos (by decide)]
    apply wpAny_bind
    refine wpAny_seqItems hob' hod ?_
    apply wpAny_pure
    show wpAny _ _ (holding [u, x] (dictSet d u x)) _ _ _
    apply wpAny_holding
    have hvl : vs.length ≤ sizeLine := by rw [← rel.length]; exact szl' (by omega)
    refine wpAny_dictSet_pairs (s := { s with heap := h' }) (kV_is ru) hd' (fun h2 hd2 sb2 => ?_) hvl
    apply wpAny_pure
    refine ⟨plainId_quiet plain_upd _, ?_⟩
    have hl0 := length_putK kvs q.1 q.2
    have ex : ∀ b o, b ≠ I → b ≠ d → s.heap.get? b = some o → h2.get? b = some o := fun b o b1 b2 e => (sb2.2 b b2).trans ((sb.2 b b1).trans e)
    refine ih (i + 1) _ (putK kvs q.1 q.2) (stored vs q.1 x) _ (by omega) (by omega) hql ?_ ?_ ?_ hne hd2 (rel.put q.1 rx) (by omega) fun h3 tk vs' k3 hd3 rel3 => ?_
    · exact hit'.at fun o e => (sb2.2 I hId).trans e
    · obtain ⟨o, e, r⟩ := hl
      exact ⟨o, ex l o hIl.symm hld e, r⟩
    · intro j v q' hj hq'
      obtain ⟨a', u', x', rfl, ⟨o', ho', r'⟩, rr⟩ := hp j v q' hj hq'
      obtain ⟨n1, n2⟩ := hne j _ a' hj rfl
      exact ⟨a', u', x', rfl, ⟨o', ex a' o' n1 n2 ho', r'⟩, rr⟩
    · refine hR h3 tk vs' (fun b o b1 b2 e => k3 b o b1 b2 (ex b o b1 b2 e)) hd3 ?_
      have e1 : qs.drop i = q :: qs.drop (i + 1) := by
        rw [List.drop_eq_getElem_cons (by omega)]
        congr 1
        have : qs[i]? = some qs[i] := List.getElem?_eq_getElem (by omega)
        rw [this] at hq
        exact Option.some.inj hq
      rw [e1]
      exact rel3
theorem call_dictOf (hh : A.handled = none) {l : Addr} {o : Obj} {n : Nat} {its : List Value} {qs : List (Key × V)} {Q : Value → Shared → Prop} (hlo : s.heap.get? l = some o) (hlc : o.cls = .type "list") (hld : o.data = .seq its.toArray n) (hldd : o.dict = none) (hql : qs.length = its.length)
    (hp : ∀ (j : Nat) (v : Value) (q : Key × V), its[j]? = some v → qs[j]? = some q → KPair s.heap v q) (hz : its.length ≤ 1000)
    (h : ∀ h' tk vs', (∀ b ob, s.heap.get? b = some ob → h'.get? b = some ob) → h'.DictOf (mixKind prog w) s.heap.objs.size vs' → KV (mergeK [] qs) vs' → Q (.ref s.heap.objs.size) { s with heap := h', toks := tk }) :
    wpAny (model prog w) A (call (.type "dict") [.ref l]) Q E s := by
  refine callType_codes (Q₁ := fun obj s₁ => obj = .ref s.heap.objs.size ∧ s₁ = { s with heap := s.heap.push { cls := .type "dict", data := .dict #[] } }) F.kt_called_dict (F.kt_typeCall_dict_1 _) F.entry_dict_init (kt_code_dict_new _ ⟨rfl, rfl⟩) ?_
  rintro obj s₁ ⟨rfl, rfl⟩
  have hnew : (s.heap.push { cls := .type "dict", data := .dict #[] }).DictOf (mixKind prog w) s.heap.objs.size [] := Heap.DictOf.new s.heap
  have hl1 : (s.heap.push { cls := .type "dict", data := .dict #[] }).get? l = some o := Heap.get?_push_of_some _ hlo
  refine ⟨hnew.typeIs, F.args_dict_init_2 _ _, ?_⟩
  unfold Builtin.«dict.__init__»
  apply wpAny_bind
  unfold Builtin.Dict.selfAndRest
  apply wpAny_bind
  refine wpAny_notOrdered_dict hnew.typeIs ?_
  show wpAny _ _ (pure (s.heap.objs.size, [Value.ref l])) _ _ _
  apply wpAny_pure
  show wpAny _ _ (Builtin.Dict.updateFrom "dict.__init__" s.heap.objs.size (.ref l) [] .none) _ _ _
  unfold Builtin.Dict.updateFrom
  apply wpAny_bind
  refine wpAny_typeOf (T := "list") ⟨o, hl1, hlc⟩ ?_
  rw [if_pos (by decide)]
  apply wpAny_bind
  refine no_keys hl1 hlc hld hldd hh fun h1 tk k1 => ?_
  rw [if_pos (show (none : Option Value).isNone = true from rfl)]
  apply wpAny_bind
  apply wpAny_rule
  have hl2 : h1.get? l = some o := k1 _ _ hl1
  have hL2 : h1.IsList l its.toArray := ⟨o, hl2, hlc, n, hld⟩
  have hd2 : h1.DictOf (mixKind prog w) s.heap.objs.size [] := by
    obtain ⟨oo, es, ep, ho, r⟩ := hnew
    exact ⟨oo, es, ep, k1 _ _ ho, r⟩
  have szl1 : s.heap.objs.size < h1.objs.size := by
    obtain ⟨oo, es, ep, ho, r⟩ := hd2
    exact Heap.lt_size ho
  have ltl : l < s.heap.objs.size := Heap.lt_size hlo
  apply wpAny_bind
  refine wpAny_pyIter_list (s := { s with heap := h1, toks := tk }) hL2 ?_
  apply wpAny_pure
  refine ⟨plainId_quiet plain_upd _, ?_⟩
  refine upd_loop (A := A.in1) (s := { s with heap := h1.push { cls := .type "list_iterator", data := .fields #[.ref l, .int 0 0] }, toks := tk }) (its := its) (qs := qs) (l := l) hh (Nat.ne_of_gt (Nat.lt_trans ltl szl1)) (Nat.ne_of_gt szl1) (Nat.ne_of_lt ltl) its.length 0 [] [] 0 rfl (Nat.zero_le _) hql ⟨_, Heap.get?_push_size _ rfl, rfl, rfl⟩ ?_ ?_ ?_ (hd2.push _) .nil (by simpa using hz) ?_
  · exact ⟨o, Heap.get?_push_of_some _ hl2, hlc, n, hld⟩
  · intro j v q hj hq
    obtain ⟨a, u, x, rfl, ⟨ob, hob, r⟩, rr⟩ := hp j v q hj hq
    exact ⟨a, u, x, rfl, ⟨ob, Heap.get?_push_of_some _ (k1 _ _ (Heap.get?_push_of_some _ hob)), r⟩, rr⟩
  · intro j v a hj e
    obtain ⟨q, hq⟩ : ∃ q, qs[j]? = some q := by
      have : j < its.length := (List.getElem?_eq_some_iff.mp hj).1
      exact ⟨qs[j], by simp [hql, this]⟩
    obtain ⟨a', u, x, e', ⟨ob, hob, r⟩, rr⟩ := hp j v q hj hq
    rw [e] at e'
    cases e'
    have := Heap.lt_size hob
    exact ⟨Nat.ne_of_lt (Nat.lt_trans this szl1), Nat.ne_of_lt this⟩
  · intro h' tk' vs' k' hd' rel'
    refine ⟨rfl, h h' tk' vs' (fun b ob e => ?_) hd' rel'⟩
    have := Heap.lt_size e
    exact k' b ob (Nat.ne_of_lt (Nat.lt_trans this szl1)) (Nat.ne_of_lt this) (Heap.get?_push_of_some _ (k1 _ _ (Heap.get?_push_of_some _ e)))
end
section
variable {X : Cx}
abbrev W := Addr × Key × V
def WAt (H : Hp) (zs : List W) : Prop := ∀ z ∈ zs, H z.1 = some (.tup [kV z.2.1, z.2.2])
def mDictOf (K : W.Frag) : List V → Hp → VK → Prop := fun vs H Q => match vs with
  | [.ref a] => ∃ zs : List W, SqL K H a (zs.map fun z => V.ref z.1) ∧ WAt H zs ∧ zs.length ≤ 1000 ∧ ∀ d, H d = none → Q (.ref d) (upd H d (.dK (mergeK [] (zs.map (·.2)))))
  | _ => False
theorem c_dictOf (hcm : X.calm = true) : CallR X (.type "dict") (mDictOf X.K) := by
  intro pins s σ H xs us Q I r h
  unfold mDictOf at h
  split at h
  · rename_i a
    obtain ⟨zs, hq, hz, h1000, q⟩ := h
    obtain ⟨u, rfl, ru⟩ := vals1 r
    cases ru
    obtain ⟨its, r1, p1, _⟩ := I.list hq
    obtain ⟨o, n, ho, hc, hdd, hd⟩ := p1
    have hl : zs.length = its.length := by
      have := r1.length
      rw [List.length_map] at this
      exact this
    refine call_dictOf (I.ok.hd hcm) ho hc hd hdd (qs := zs.map (·.2)) (by rw [List.length_map]; exact hl) (fun j v q' hj hq' => ?_) (by omega) fun h' tk vs' k hd rel => ?_
    · rw [List.getElem?_map] at hq'
      cases hzj : zs[j]? with
      | none => rw [hzj] at hq'; cases hq'
      | some z =>
        rw [hzj] at hq'
        cases hq'
        have e := hz z (List.mem_of_getElem? hzj)
        obtain ⟨_, its2, r2, it⟩ := (show ObjOk X.prog X.w H s.heap z.1 (.tup [kV z.2.1, z.2.2]) from I.hok _ _ e)
        have hj2 : j < zs.length := (List.getElem?_eq_some_iff.mp hzj).1
        have rv : RelV (V.ref z.1) (its.getD j Value.none) := vals_getD j r1 (by rw [List.length_map]; exact hj2) _ (by rw [List.getElem?_map, hzj]; rfl)
        have ev : its.getD j Value.none = v := by rw [List.getD_eq_getElem?_getD, hj]; rfl
        rw [ev] at rv
        cases rv
        cases r2 with
        | cons a1 r3 =>
          cases r3 with
          | cons a2 r4 =>
            cases r4
            exact ⟨z.1, _, _, rfl, it, a1, a2⟩
    · have hf : H s.heap.objs.size = none := I.hok.fresh (Nat.le_refl _)
      refine ⟨.ref s.heap.objs.size, _, I.laid (t' := tk) (o := .dK (mergeK [] (zs.map (·.2)))) k (Nat.le_refl _) ⟨?_, ?_, vs', rel, hd⟩, rfl, q _ hf⟩
      · have := length_mergeK (zs.map (·.2)) []
        rw [List.length_map] at this
        exact szl' (by simp at this; omega)
      · have hb := I.big
        exact beq_eq_false_iff_ne.mpr (Nat.ne_of_gt hb)
  · exact h.elim
theorem R.kdictOf {K : W.Frag} (hcm : X.calm = true) (hK : X.K = K := by rfl) : XC X (.type "dict") (mDictOf K) := hK ▸ ⟨c_dictOf hcm⟩
end
end L2
namespace L2
open PySem PySem.Spec PyProof.Rows
def Itd (a : Addr) (o : Obj) (kvs : List (Key × V)) : It :=
  ⟨fun i H => H a = some (.frz o (.dK kvs)) ∧ i < kvs.length, fun i H x H' => H' = H ∧ (kvs.map fun q => kV q.1)[i]? = some x, fun i H => H a = some (.frz o (.dK kvs)) ∧ kvs.length ≤ i⟩
theorem seq_dct (a : Addr) (o : Obj) (kvs : List (Key × V)) : Seqs (Itd a o kvs) (kvs.map fun q => kV q.1) (fun H => H a = some (.frz o (.dK kvs))) :=
  ⟨fun i H hi e => ⟨e, by rwa [List.length_map] at hi⟩, fun i H x H' _ _ y => y, fun H e => ⟨e, by rw [List.length_map]; exact Nat.le_refl _⟩⟩
section
variable {X : Cx} {pins : List (Addr × Obj)} {σ : St} {H : Hp} {s : Shared} {a : Addr} {o : Obj} {kvs : List (Key × V)}
theorem frz_at {P : Program} {w : World} {h : Heap} (ok : HOk P w H h) (e : H a = some (.frz o (.dK kvs))) : h.get? a = some o ∧ (a == sysModules) = false ∧ ∃ vs ep, KV kvs vs ∧ (∃ es, o.data = .dict es ep) ∧ h.DictAt (mixKind P w) a vs ep := by
  obtain ⟨h1, z, hd, vs, rel, dd⟩ := (show ObjOk P w H h a (.frz o (.dK kvs)) from ok a _ e)
  obtain ⟨ep, d2⟩ := dd.dictAt
  obtain ⟨o', es, g, r1, r2, r3⟩ := id d2
  rw [h1] at g
  cases g
  exact ⟨h1, hd, vs, ep, rel, ⟨es, r2⟩, d2⟩
theorem turn_dct {P : Program} {w : World} {K : W.Frag} {tg : Expr} (a it : Addr) {ep : Nat} (he : ∃ es, o.data = .dict es ep) : Turn P w K tg (Itd a o kvs) [it] it (fun i h => h.IsKeyIter it a i kvs.length ep) where
  mem := by simp
  obj := fun i h st b hb => by
    obtain rfl : b = it := by simpa using hb
    obtain ⟨ob, e, c, d⟩ := st
    exact ⟨ob, e, fun v z => by rw [d] at z; cases z⟩
  keep := fun i h h' st k => st.at fun ob e => k it (by simp) ob e
  item := by
    intro X hP hw hK hc i pins s σ H E I hf st hg
    subst hP hw hK
    obtain ⟨ef, hi⟩ := hg
    obtain ⟨h1, lo, vs, ep', rel, ⟨es', e'⟩, dd⟩ := frz_at I.hok ef
    obtain ⟨es, e0⟩ := he
    obtain rfl : ep' = ep := by
      rw [e0] at e'
      cases e'
      rfl
    have hl := rel.length
    obtain ⟨⟨k, x⟩, hx⟩ : ∃ p, vs[i]? = some p := ⟨vs[i], List.getElem?_eq_getElem (by omega)⟩
    have hk : (kvs.map (·.1))[i]? = some k := by rw [rel.keys, List.getElem?_map, hx]; rfl
    obtain ⟨f0, f1, f2, f3, f4, f5⟩ := hf it (by simp)
    rw [hl] at st
    refine wpAny_pyNext_dict_item st dd hx fun key h' hkey st' sb => ?_
    have I1 : Inv X pins σ H { s with heap := h' } := I.turned (t' := s.toks) (fun b ob hb e => (sb.2 b hb).trans e) f0 f1 f3 f4 f5
    obtain ⟨ob, e, c, d⟩ := id st'
    have rk : RelV (kV k) key := by
      rcases keyIs_shape (show keyIs k key = true from hkey) with ⟨j, t, rfl, rfl⟩ | ⟨z, t, rfl, rfl⟩
      · exact ⟨t, rfl⟩
      · exact ⟨t, rfl⟩
    refine ⟨key, rfl, go_of (s := { s with heap := h' }) e c d (by decide) ⟨kV k, H, I1, rk, ⟨rfl, ?_⟩, by rw [hl]; exact st', fun b hb => (hf b hb).1⟩⟩
    rw [List.getElem?_map] at hk ⊢
    cases z : kvs[i]? with
    | none => rw [z] at hk; cases hk
    | some q => rw [z] at hk; cases hk; rfl
  done := by
    intro X hP hw hK hc i pins s σ H E I hf st hg
    subst hP hw hK
    obtain ⟨ef, hi⟩ := hg
    obtain ⟨h1, lo, vs, ep', rel, ⟨es', e'⟩, dd⟩ := frz_at I.hok ef
    obtain ⟨es, e0⟩ := he
    obtain rfl : ep' = ep := by
      rw [e0] at e'
      cases e'
      rfl
    have hl := rel.length
    rw [hl] at st
    obtain ⟨f0, f1, f2, f3, f4, f5⟩ := hf it (by simp)
    exact wpAny_pyNext_dict_end (I.ok.hd hc) st dd (List.getElem?_eq_none (by omega)) fun h' eb => ⟨rfl, I.turned (t' := s.toks) (fun b ob hb e => eb b ob hb e) f0 f1 f3 f4 f5⟩
  self := fun _ _ _ _ _ st h => wpAny_pyIter_keyiter st h
theorem Inv.freeze (I : Inv X pins σ H s) (e : H a = some (.dK kvs)) : ∃ ob, s.heap.get? a = some ob ∧ Inv X pins σ (upd H a (.frz ob (.dK kvs))) s := by
  obtain ⟨z, hd, vs, rel, dd⟩ := dk_of I.hok e
  obtain ⟨ob, es, ep, g, r⟩ := id dd
  refine ⟨ob, g, ?_⟩
  have := I.write (t' := s.toks) (h' := s.heap) (x := a) (e := a) (o := .frz ob (.dK kvs)) (by rw [e]; exact True.intro) (.inl rfl) (fun b u _ q => q) ⟨ob, g⟩ ⟨g, z, hd, vs, rel, dd⟩
  exact this
theorem Inv.thaw (I : Inv X pins σ H s) (e : H a = some (.frz o (.dK kvs))) (hn : ∀ o' u, X.H₀ a ≠ some (.frz o' u)) : Inv X pins σ (upd H a (.dK kvs)) s where
  ok := I.ok
  os := I.os
  bare := I.bare
  base := by
    have na : ∀ b, H b = none → b ≠ a := fun b z q => by rw [q, e] at z; cases z
    refine ⟨I.base.keep, I.base.slot, fun b ob q n hx => ?_, I.base.there, fun b xs q => ?_, fun b ob u q => ?_, fun b ps q => ?_⟩
    · have := I.base.free b ob q n hx
      rw [upd_ne (na b this)]
      exact this
    · have := I.base.tups b xs q
      rw [upd_ne (ne_of this e (fun z => nomatch z))]
      exact this
    · have := I.base.frzs b ob u q
      by_cases hb : b = a
      · subst hb
        exact absurd q (hn ob u)
      · rw [upd_ne hb]
        exact this
    · obtain ⟨more, q2⟩ := I.base.tbls b ps q
      exact ⟨more, by rw [upd_ne (ne_of q2 e (fun z => nomatch z))]; exact q2⟩
  loc := I.loc
  cell := I.cell
  free := by
    have z := I.free
    rw [upd_ne (fun q => by rw [q, e] at z; cases z)]
    exact z
  freeC := fun x c h => by
    have z := I.freeC x c h
    rw [upd_ne (fun q => by rw [q, e] at z; cases z)]
    exact z
  pin := fun p hp => by
    obtain ⟨p1, p2, p3⟩ := I.pin p hp
    refine ⟨p1, ?_, p3⟩
    rw [upd_ne (fun q => by rw [q, e] at p2; cases p2)]
    exact p2
  hok := by
    intro b u hb
    by_cases q : b = a
    · subst q
      rw [upd_same] at hb
      cases hb
      exact (show ObjOk X.prog X.w H s.heap b (.frz o (.dK kvs)) from I.hok b _ e).2
    · rw [upd_ne q] at hb
      refine (I.hok b u hb).stay (fun c v _ h => h) (fun c h => ?_) fun c xs h => ?_
      · rw [upd_ne (ne_of h e (fun z => nomatch z))]; exact h
      · rw [upd_ne (ne_of h e (fun z => nomatch z))]; exact h
  len := I.len
def iDct (te : TE) : TI := fun σ H R => te σ H fun x H1 => mR x fun a => ∃ kvs, H1 a = some (.dK kvs) ∧ ∀ o, R (Itd a o kvs) (upd H1 a (.frz o (.dK kvs)))
theorem pi_dct {tg l : Expr} {tl : TE} (hl : PE X l tl) : PI X tg l (iDct tl) := by
  intro pins s σ H R I h
  refine thn (hl pins s σ H _ I h) fun v s1 ⟨x, H1, I1, r1, q1⟩ => ?_
  dsimp only at q1
  rw [mR_eq] at q1
  obtain ⟨a, rfl, kvs, e, q⟩ := q1
  cases r1
  obtain ⟨ob, g, I2⟩ := I1.freeze e
  obtain ⟨h1, lo, vs, ep, rel, he, dd⟩ := frz_at I2.hok (upd_same (a := a))
  have hn : (upd H1 a (.frz ob (.dK kvs))) s1.heap.objs.size = none := I2.hok.fresh (Nat.le_refl _)
  refine wpAny_pyIter_dict lo dd ?_
  refine ⟨s1.heap.objs.size, [s1.heap.objs.size], _, _, _, rfl, I2.kept (t' := s1.toks) fun b o e => Heap.get?_push_of_some _ e, turn_dct a _ he, ⟨_, Heap.get?_push_size _ rfl, rfl, ?_⟩, fun b hb => ?_, q ob⟩
  · rw [rel.length]; rfl
  · obtain rfl : b = s1.heap.objs.size := by simpa using hb
    exact I2.fpOk (Nat.le_refl _) hn
def tThaw (t : TE) : TE := fun σ H Q => t σ H fun v H2 => ∃ a kvs o, (∃ kvs0, H a = some (.dK kvs0)) ∧ H2 a = some (.frz o (.dK kvs)) ∧ Q v (upd H2 a (.dK kvs))
theorem pe_thaw {e : Expr} {t : TE} (he : PE X e t) : PE X e (tThaw t) := by
  intro pins s σ H Q I h
  refine thn (he pins s σ H _ I h) fun u s1 ⟨v, H2, I2, rv, a, kvs, o, ⟨kvs0, e0⟩, e2, q⟩ => ⟨v, _, I2.thaw e2 (fun o' u' z => ?_), rv, q⟩
  have := I.base.frzs a o' u' z
  rw [e0] at this
  cases this
end
def mFld (K : W.Frag) (te : TE) (f : Str) : TE := fun σ H Q => te σ H fun x H1 => mR x fun a => ∃ C dx fs v, H1 a = some (.ins C dx fs) ∧ Cls K C ∧ NoAttr K C f ∧ fs.lookup f = some v ∧ Q v H1
def mSFld (K : W.Frag) (ta tv : TE) (f : Str) : TS := fun D σ H => tv σ H fun y H1 => ta σ H1 fun x H2 => mR x fun a => ∃ C dx fs, H2 a = some (.ins C dx fs) ∧ Cls K C ∧ NoAttr K C f ∧ fs.length < 1000 ∧ D.nx σ (upd H2 a (.ins C dx (putF f y fs)))
section
variable {X : Cx} {e o value : Expr} {f : Str} {pos pos' : Pos} {te ta tv : TE} {K : W.Frag}
theorem pe_mfld (he : PE X e te) (hb : attributeBase e f X.env (eval e X.env) = eval e X.env) : PE X (.Attribute e f pos) (mFld X.K te f) := by
  intro pins s σ H Q I h
  refine attr_of hb (thn (he pins s σ H _ I h) fun u s1 ⟨x, H1, I1, rx, q1⟩ => ?_)
  dsimp only at q1
  rw [mR_eq] at q1
  obtain ⟨a, rfl, C, dx, fs, v, ea, c, n, l, q⟩ := q1
  obtain rfl : u = Value.ref a := rx
  exact getattr_ok I1 ea c n l fun u' s2 I2 ru => ⟨v, H1, I2, ru, q⟩
theorem ps_mfld (ha : PE X o ta) (hv : PE X value tv) (hs : swapsWith value (some (.Attribute o f pos')) pos.line X.env = pure false) : PS X (.Assign [.Attribute o f pos'] value pos) (mSFld X.K ta tv f) := by
  intro pins s σ H D I h
  refine plainObj_wpAny_Assign_Attribute (thn (hv pins s σ H _ I h) fun u s1 ⟨y, H1, I1, ry, q⟩ => thn (ha pins s1 σ H1 _ I1 q) fun ov s2 ⟨x, H2, I2, rx, q1⟩ => ?_) hs
  dsimp only at q1
  rw [mR_eq] at q1
  obtain ⟨a, rfl, C, dx, fs, ea, c, n, l, q2⟩ := q1
  obtain rfl : ov = Value.ref a := rx
  exact setattr_ok I2 ea c n l ry fun s3 I3 => ⟨σ, _, I3, q2⟩
end
structure Mth (P : Program) (w : World) (K : W.Frag) (mg : Str → Option Value) (base : Heap) (n : Nat) (C : Addr) (m : Str) (ps : List Str) (sp : Sp) : Prop where
  ex : ∃ f fd, Cls K C ∧ Meth K C m f ∧ FnOk P w K mg base CX0 n f fd ps sp ∧ Binds K fd ps []
structure Mkr (P : Program) (w : World) (K : W.Frag) (mg : Str → Option Value) (base : Heap) (n : Nat) (x : Str) (C : Addr) (ps : List Str) (dvs : List V) (sp : Sp) : Prop where
  ex : ∃ f fd ds, mg x = some (.ref C) ∧ Mk K C f ∧ FnOk P w K mg base CX0 n f fd ps sp ∧ Binds K fd ps ds ∧ Vals dvs ds
def mMeth (C : Addr) (m : Str) (sp : Sp) (ta : TE) (t : TA) : TE := fun σ H Q => ta σ H fun x H1 => mR x fun a => ∃ dx fs, H1 a = some (.ins C dx fs) ∧ fs.lookup m = none ∧ t σ H1 fun vs H2 => sp (.ref a :: vs) H2 Q E0
section
variable {X : Cx} {e o : Expr} {es : List Expr} {m x : Str} {p pos apos : Pos} {ta : TE} {t : TA} {C : Addr} {n : Nat} {ps : List Str} {sp : Sp} {dvs : List V}
theorem pe_mmeth {pl : Sem Bool} (he : PE X o ta) (c : Mth X.prog X.w X.K X.mg X.base n C m ps sp) (hr : Room n X.A) (ha : PA X (e :: es) t) (hs : notStar e = true) (hpl : (backTo pos (starEach es X.env)).any (·.1) = false)
    (ht : eval (.Call (.Attribute o m apos) (e :: es) [] pos) X.env = (do
      let ov ← eval o X.env
      standAt apos.atName
      let (f, first) ← holding [ov] (getMethod ov m pl)
      callWith pos f first (backTo pos (starEach (e :: es) X.env)) (backToKw pos (keywordEach [] X.env)))) :
    PE X (.Call (.Attribute o m apos) (e :: es) [] pos) (mMeth C m sp ta t) := by
  obtain ⟨f, fd, cl, hm, F, hb⟩ := c.ex
  intro pins s σ H Q I h
  refine W.methodCall_KW (pl := pl) (thn (he pins s σ H _ I h) fun u s1 ⟨x, H1, I1, rx, q1⟩ => ?_) ht
  dsimp only at q1
  rw [mR_eq] at q1
  obtain ⟨a, rfl, dx, fs, ea, l, q⟩ := q1
  obtain rfl : u = Value.ref a := rx
  refine getmeth_ok I1 ea cl hm l ?_
  refine W.callWith_K (first := [.ref a]) (h₀ := X.base) I.ok.mod.kin hm.kp (thn (ha pos pins s1 σ H1 _ I1 q) fun us s2 ⟨vs, H2, I2, r, q2⟩ => ⟨I2.kIn, ?_⟩) (star_cons hs) hpl
  exact run_fn (us := .ref a :: us) (vs := .ref a :: vs) (dvs := []) (ds := []) F hr hb .nil pass0 I2 (.cons rfl r) (by rw [List.append_nil]; exact q2)
theorem pe_mmeth0 {pl : Sem Bool} (he : PE X o ta) (c : Mth X.prog X.w X.K X.mg X.base n C m ps sp) (hr : Room n X.A)
    (ht : eval (.Call (.Attribute o m apos) [] [] pos) X.env = (do
      let ov ← eval o X.env
      standAt apos.atName
      let (f, first) ← holding [ov] (getMethod ov m pl)
      callWith pos f first (backTo pos (starEach [] X.env)) (backToKw pos (keywordEach [] X.env)))) :
    PE X (.Call (.Attribute o m apos) [] [] pos) (mMeth C m sp ta tNil) := by
  obtain ⟨f, fd, cl, hm, F, hb⟩ := c.ex
  intro pins s σ H Q I h
  refine W.methodCall_KW (pl := pl) (thn (he pins s σ H _ I h) fun u s1 ⟨x, H1, I1, rx, q1⟩ => ?_) ht
  dsimp only at q1
  rw [mR_eq] at q1
  obtain ⟨a, rfl, dx, fs, ea, l, q⟩ := q1
  obtain rfl : u = Value.ref a := rx
  refine getmeth_ok I1 ea cl hm l ?_
  exact W.callWith_K0 (first := [.ref a]) I1.kIn hm.kp (run_fn (us := [.ref a]) (vs := [.ref a]) (dvs := []) (ds := []) F hr hb .nil pass0 I1 (.cons rfl .nil) (by rw [List.append_nil]; exact q))
end
structure FunD (K : W.Frag) (x qual : Str) (st : Stmt) (dv : Value) (f : Addr) (fd : FuncData) : Prop where
  ex : ∃ (oc : Value) (od : Option Addr) (kV doc pm : Value) (an : Option Addr) (cdv ct : Value) (osl : Array (Option Value)),
    fd = W.fnOf x qual (defArgs st) (defBody st) (defScope st) dv kV doc pm an cdv ct ∧ K.lookup f = some ⟨oc, od, .func fd, osl⟩ ∧ W.codeIn K cdv qual = true
section
variable {P : Program} {w : World} {K : W.Frag} {mg : Str → Option Value} {base : Heap} {x qual : Str} {st : Stmt} {dv : Value} {f C : Addr} {fd : FuncData} {N ps : List Str} {k : Nat} {sp : Sp}
theorem FunD.go (F : FunD K x qual st dv f fd) (S : FnScope N ps (defScope st)) (len : ∀ vs H Q E, sp vs H Q E → vs.length = ps.length)
    (hbody : ∀ (cdv : Value) (A : Around) (outer : List Env) (s : Shared) (H : Hp) (vs : List V) (Q : VK) (E : XK), Room k (A.deeper (envOfC qual (defScope st) s.heap.objs.size f cdv)) → sp vs H Q E →
      ∃ t, XB (cxOf CX0 P w K mg base N qual (defScope st) f cdv A outer s H E).nox (defBody st) t ∧ t { nx := fun _ H' => Q .non H', rt := Q } (start N vs) H) : FnOk P w K mg base CX0 (k + 1) f fd ps sp := by
  obtain ⟨oc, od, kV, doc, pm, an, cdv, ct, osl, rfl, lk, hcd⟩ := F.ex
  refine fn_of lk hcd S len fun A outer s H vs Q E hr hsp => ?_
  obtain ⟨t, h, q⟩ := hbody cdv A outer s H vs Q E hr hsp
  exact ⟨t, h.h.nox, q⟩
structure MethAt (K : W.Frag) (C : Addr) (m qual : Str) (st : Stmt) (ps : List Str) : Prop where
  cl : Cls K C
  ex : ∃ f fd, Fun K m qual st f fd ∧ Meth K C m f ∧ Binds K fd ps []
theorem MethAt.go {m : Str} (D : MethAt K C m qual st ps) (S : FnScope N ps (defScope st)) (len : ∀ vs H Q E, sp vs H Q E → vs.length = ps.length)
    (hbody : ∀ (f : Addr) (cdv : Value) (A : Around) (outer : List Env) (s : Shared) (H : Hp) (vs : List V) (Q : VK) (E : XK), Room k (A.deeper (envOfC qual (defScope st) s.heap.objs.size f cdv)) → sp vs H Q E →
      ∃ t, XB (cxOf CX0 P w K mg base N qual (defScope st) f cdv A outer s H E).nox (defBody st) t ∧ t { nx := fun _ H' => Q .non H', rt := Q } (start N vs) H) : Mth P w K mg base (k + 1) C m ps sp := by
  obtain ⟨f, fd, F, hm, hb⟩ := D.ex
  exact ⟨f, fd, D.cl, hm, F.go S len (hbody f), hb⟩
structure ClsAt (K : W.Frag) (mg : Str → Option Value) (x : Str) (C : Addr) (qual : Str) (st : Stmt) (ps : List Str) (dvs : List (List V)) : Prop where
  ex : ∃ f fd dv, mg x = some (.ref C) ∧ FunD K "__init__" qual st dv f fd ∧ Mk K C f ∧ ∀ d ∈ dvs, ∃ ds, Binds K fd ps ds ∧ Vals d ds
theorem ClsAt.go {dvs : List (List V)} (D : ClsAt K mg x C qual st ps dvs) (S : FnScope N ps (defScope st)) (len : ∀ vs H Q E, sp vs H Q E → vs.length = ps.length)
    (hbody : ∀ (f : Addr) (cdv : Value) (A : Around) (outer : List Env) (s : Shared) (H : Hp) (vs : List V) (Q : VK) (E : XK), Room k (A.deeper (envOfC qual (defScope st) s.heap.objs.size f cdv)) → sp vs H Q E →
      ∃ t, XB (cxOf CX0 P w K mg base N qual (defScope st) f cdv A outer s H E).nox (defBody st) t ∧ t { nx := fun _ H' => Q .non H', rt := Q } (start N vs) H) : ∀ d ∈ dvs, Mkr P w K mg base (k + 1) x C ps d sp := by
  intro d hd
  obtain ⟨f, fd, dv, e, F, M, hb⟩ := D.ex
  obtain ⟨ds, b, v⟩ := hb d hd
  exact ⟨f, fd, ds, e, M, F.go S len (hbody f), b, v⟩
end
namespace R
section
variable {X : Cx} {e o i value : Expr} {es : List Expr} {m x f : Str} {p pos pos' apos : Pos} {te ta tv td ty : TE} {t : TA} {C : Addr} {n : Nat} {ps : List Str} {sp : Sp} {dvs : List V} {K : W.Frag} {tg : Expr}
theorem wD (hl : XE X e te) : XI X tg e (iDct te) := ⟨pi_dct hl.h⟩
theorem thaw (he : XE X e te) : XE X e (tThaw te) := ⟨pe_thaw he.h⟩
theorem kfld (he : XE X e te) (hK : X.K = K := by rfl) (hb : attributeBase e f X.env (eval e X.env) = eval e X.env := by rfl) : XE X (.Attribute e f pos) (mFld K te f) := hK ▸ ⟨pe_mfld he.h hb⟩
theorem ksfld (ha : XE X o ta) (hv : XE X value tv) (hK : X.K = K := by rfl) (hs : swapsWith value (some (.Attribute o f pos')) pos.line X.env = pure false := by rfl) : XS X (.Assign [.Attribute o f pos'] value pos) (mSFld K ta tv f) := hK ▸ ⟨ps_mfld ha.h hv.h hs⟩
theorem dix (hu : X.A.units + 1 < cLine) (ho : XE X o td) (hi : XE X i ty) (hs : NoSl i := by exact fun _ _ => rfl) : XE X (.Subscript o i pos) (tDGet td ty) := ⟨pe_dget hu ho.h hi.h hs⟩
theorem meth {pl : Sem Bool} (c : Mth X.prog X.w X.K X.mg X.base n C m ps sp) (hr : Room n X.A) (he : XE X o ta) (ha : XA X (e :: es) t) (hs : notStar e = true := by rfl) (h2 : es.all notStar = true := by rfl)
    (ht : eval (.Call (.Attribute o m apos) (e :: es) [] pos) X.env = (do
      let ov ← eval o X.env
      standAt apos.atName
      let (f, first) ← holding [ov] (getMethod ov m pl)
      callWith pos f first (backTo pos (starEach (e :: es) X.env)) (backToKw pos (keywordEach [] X.env))) := by rfl) : XE X (.Call (.Attribute o m apos) (e :: es) [] pos) (mMeth C m sp ta t) := ⟨pe_mmeth he.h c hr ha.h hs (star_any h2) ht⟩
theorem meth0 {pl : Sem Bool} (c : Mth X.prog X.w X.K X.mg X.base n C m ps sp) (hr : Room n X.A) (he : XE X o ta)
    (ht : eval (.Call (.Attribute o m apos) [] [] pos) X.env = (do
      let ov ← eval o X.env
      standAt apos.atName
      let (f, first) ← holding [ov] (getMethod ov m pl)
      callWith pos f first (backTo pos (starEach [] X.env)) (backToKw pos (keywordEach [] X.env))) := by rfl) : XE X (.Call (.Attribute o m apos) [] [] pos) (mMeth C m sp ta tNil) := ⟨pe_mmeth0 he.h c hr ht⟩
theorem make (c : Mkr X.prog X.w X.K X.mg X.base n x C ps [] sp) (hr : Room (n + 1) X.A) (hg : Gl X x) (ha : XA X (e :: es) t) (hdb : (x == ("__debug__" : Str)) = false := by decide) (hs : notStar e = true := by rfl) (h2 : es.all notStar = true := by rfl) :
    XE X (.Call (.Name x p) (e :: es) [] pos) (tMake C sp [] E0 t) := by
  obtain ⟨f, fd, ds, hm, M, F, hb, hd⟩ := c.ex
  exact ⟨pe_make M F hr hg hm hb hd pass0 ha.h hdb (star_cons hs) (star_any h2)⟩
end
end R
end L2
namespace L2
open PySem PySem.Spec PyProof.Rows
def dkv (prs : List (Str × Int)) : List (Key × V) := prs.map fun q => (Sum.inr q.1, V.int q.2)
def amt (prs : List (Str × Int)) (n : Str) : Int := (prs.lookup n).getD 0
theorem dkv_keys (prs : List (Str × Int)) : (dkv prs).map (·.1) = (prs.map (·.1)).map Sum.inr := by
  unfold dkv
  rw [List.map_map, List.map_map]
  rfl
theorem dkv_val (n : Str) : ∀ (prs : List (Str × Int)), valV (dkv prs) (Sum.inr n) = (prs.lookup n).map V.int
  | [] => rfl
  | q :: r => by
    unfold dkv
    rw [List.map_cons, List.lookup_cons]
    by_cases h : n = q.1
    · subst h
      rw [valV_pos rfl]
      simp
    · have hb : (n == q.1) = false := beq_eq_false_iff_ne.mpr h
      rw [valV_neg (by intro z; exact h (Sum.inr.inj z).symm), hb]
      exact dkv_val n r
theorem dkv_amt (prs : List (Str × Int)) (n : Str) : (valV (dkv prs) (Sum.inr n)).getD (V.int 0) = V.int (amt prs n) := by
  rw [dkv_val]
  unfold amt
  cases prs.lookup n <;> rfl
theorem merge_new : ∀ (more kvs : List (Key × V)), (more.map (·.1)).Nodup → (∀ k ∈ more.map (·.1), valV kvs k = none) → mergeK kvs more = kvs ++ more
  | [], kvs, _, _ => (List.append_nil _).symm
  | p :: r, kvs, hn, h => by
    obtain ⟨h1, h2⟩ := List.nodup_cons.mp hn
    show mergeK (putK kvs p.1 p.2) r = _
    have e0 : valV kvs p.1 = none := h p.1 (by simp)
    rw [merge_new r _ h2 fun k hk => ?_, putK_new _ e0]
    · simp
    · rw [valV_put, if_neg (fun (z : k = p.1) => h1 (by dsimp only; rw [← z]; exact hk))]
      exact h k (List.mem_cons_of_mem _ hk)
theorem inr_nodup : ∀ {l : List Str}, l.Nodup → (l.map (Sum.inr : Str → Key)).Nodup
  | [], _ => List.nodup_nil
  | a :: l, h => by
    obtain ⟨h1, h2⟩ := List.nodup_cons.mp h
    refine List.nodup_cons.mpr ⟨fun z => ?_, inr_nodup h2⟩
    obtain ⟨b, hb, e⟩ := List.mem_map.mp z
    cases e
    exact h1 hb
theorem merge_dkv {prs : List (Str × Int)} (h : (prs.map (·.1)).Nodup) : mergeK [] (dkv prs) = dkv prs := by
  rw [merge_new _ _ (by rw [dkv_keys]; exact inr_nodup h) fun _ _ => rfl]
  rfl
theorem lookup_mem {n : Str} {a : Int} : ∀ {prs : List (Str × Int)}, (prs.map (·.1)).Nodup → (n, a) ∈ prs → prs.lookup n = some a
  | [], _, h => nomatch h
  | q :: r, hn, h => by
    obtain ⟨h1, h2⟩ := List.nodup_cons.mp hn
    rw [List.lookup_cons]
    rcases List.mem_cons.mp h with e | h
    · subst e
      simp
    · have hb : (n == q.1) = false := beq_eq_false_iff_ne.mpr fun (z : n = q.1) => h1 (by dsimp only; rw [← z]; exact List.mem_map.mpr ⟨(n, a), h, rfl⟩)
      rw [hb]
      exact lookup_mem h2 h
def rowsOf (prs : List (Str × Int)) : List (Str × Int) := ((srt (prs.map (·.1))).filter fun n => decide (0 < amt prs n)).map fun n => (n, amt prs n)
theorem has_lookup {n : Str} : ∀ {prs : List (Str × Int)}, n ∈ prs.map (·.1) → ∃ a, prs.lookup n = some a
  | q :: r, h => by
    rw [List.lookup_cons]
    by_cases e : n = q.1
    · subst e
      exact ⟨q.2, by simp⟩
    · have hb : (n == q.1) = false := beq_eq_false_iff_ne.mpr e
      rw [hb]
      rcases List.mem_cons.mp h with z | z
      · exact absurd z e
      · exact has_lookup z
structure BkT (K : W.Frag) (C : Addr) : Prop where
  cl : Cls K C
  nA : NoAttr K C "amounts"
structure BookAt (C : Addr) (H : Hp) (p : Addr) (prs : List (Str × Int)) : Prop where
  ex : ∃ dx d, H p = some (.ins C dx [("amounts", .ref d)]) ∧ H d = some (.dK (dkv prs))
  nd : (prs.map (·.1)).Nodup
def RowsAt (H : Hp) (r : V) (prs : List (Str × Int)) : Prop := (r = .non ∧ prs = []) ∨ ∃ l zs, r = .ref l ∧ H l = some (.lst (zref zs)) ∧ ZAt H zs ∧ zs.map (·.2) = prs
def spAmountOf (C : Addr) : Sp := fun vs H Q _ => ∃ (p : Addr) (n : Str) (prs : List (Str × Int)), vs = [.ref p, .str n] ∧ BookAt C H p prs ∧ Q (.int (amt prs n)) H
def spRowsOf (C : Addr) : Sp := fun vs H Q _ => ∃ (p : Addr) (prs : List (Str × Int)), vs = [.ref p] ∧ BookAt C H p prs ∧ prs.length < 64 ∧
  ∀ (l : Addr) (zs : List Z) (H' : Hp), Same H H' → H l = none → H' l = some (.lst (zref zs)) → ZAt H' zs → zs.map (·.2) = rowsOf prs → Q (.ref l) H'
def wz (zs : List Z) : List W := zs.map fun z => (z.1, Sum.inr z.2.1, V.int z.2.2)
theorem wz_ref (zs : List Z) : ((wz zs).map fun z => V.ref z.1) = zref zs := by
  unfold wz zref
  rw [List.map_map]
  rfl
theorem wz_at {H : Hp} {zs : List Z} (h : ZAt H zs) : WAt H (wz zs) := fun z hz => by
  obtain ⟨y, hy, rfl⟩ := List.mem_map.mp hz
  exact h y hy
theorem wz_dkv (zs : List Z) : (wz zs).map (·.2) = dkv (zs.map (·.2)) := by
  unfold wz dkv
  rw [List.map_map, List.map_map]
  rfl
theorem put0 (y : V) : putF "amounts" y [] = [(("amounts" : Str), y)] := rfl
theorem put1 (x y : V) : putF "amounts" y [(("amounts" : Str), x)] = [(("amounts" : Str), y)] := by
  unfold putF
  rw [if_pos rfl]
theorem fld_amounts (y : V) : ([(("amounts" : Str), y)] : List (Str × V)).lookup ("amounts" : Str) = some y := by
  rw [List.lookup_cons]
  simp
theorem fld_no {m : Str} (y : V) (h : (m == ("amounts" : Str)) = false) : ([(("amounts" : Str), y)] : List (Str × V)).lookup m = none := by
  rw [List.lookup_cons, h]
  rfl
def rowsT (qs : List (Str × Int)) : TV := .ls (qs.map fun q => .tp [.sc (.str q.1), .sc (.int q.2)])
theorem rep_rows {H : Hp} {l : Addr} {zs : List Z} (h1 : H l = some (.lst (zref zs))) (h2 : ZAt H zs) : Rep H 2 (rowsT (zs.map (·.2))) (.ref l) := by
  refine ⟨l, _, rfl, h1, ?_⟩
  clear h1
  unfold zref
  induction zs with
  | nil => exact .nil
  | cons z zs ih =>
    refine .cons ⟨z.1, _, rfl, h2 z List.mem_cons_self, ?_⟩ (ih fun y hy => h2 y (List.mem_cons_of_mem _ hy))
    exact .cons (Rep.scal rfl) (.cons (Rep.scal rfl) .nil)
end L2
namespace L2
open PySem PySem.Spec PyProof.Rows
section
variable {M : Model} {A : Around} {E : Value → Shared → Prop} {s : Shared}
def SameD (e : Addr) (oe : Obj) (h' : Heap) : Prop := ∃ oe', h'.get? e = some oe' ∧ oe'.dict = oe.dict
theorem entryD {base : Heap} {env : Env} {outer : List Env} {L e : Addr} {oe : Obj} {vs : Array Value} {head a0 : Value} {hadNext : Bool} {Q : Unit → Shared → Prop}
    (hfr : A.frames = some (env :: outer)) (hl : s.heap.FunFrames base (env :: outer)) (hf : env.frame = some L) (he : s.heap.get? e = some oe) (hkb : base.StaysIn s.heap) (hen : base.get? e = none) (hd : oe.data = .fields vs) (hsz : 1 < vs.size) (h0 : vs[0]? = some a0)
    (h : ∀ h', Heap.NotedW base (env :: outer) e oe.cls a0 (rawInt L) s.heap h' → SameD e oe h' → Q () { s with heap := h' }) :
    wpAny M A (do let a ← frameOf env; let pl ← entryPlaceOf L hadNext; let b ← EntryCells.newEntry head a .none (rawInt L) .none pl; setField (.ref e) 1 b) Q E s := by
  have hene : e ∉ (env :: outer).filterMap (·.frame) := fun hm => by
    obtain ⟨_, o, ho, hnf⟩ := hl.mem hm
    rw [he] at ho; cases ho; exact hnf vs hd
  refine wpAny_bind (wpAny_frameOf_fun hfr hl hf fun k1 s1 => wpAny_bind (wpAny_entryPlaceOf fun pl hpl => ?_))
  unfold EntryCells.newEntry newFields; refine wpAny_bind (wpAny_newObj_type ?_ (hpl.sizeOk5 _ _ _ _ _))
  have e1 : k1.get? e = some oe := (s1.2.1 e hene).trans he
  have b1 : base.StaysIn k1 := fun b o hbo => (s1.2.1 b fun hm => by rw [(hl.mem hm).1] at hbo; cases hbo).trans (hkb b o hbo)
  have e2 := Heap.get?_push_of_some (h := k1) { cls := .type "traceback", dict := none, data := .fields ([head, .ref L, .none, rawInt L, .none] ++ (if pl.isEmpty then List.replicate 6 Value.none else pl)).toArray } e1
  have nTe : k1.objs.size ≠ e := Nat.ne_of_gt (Heap.lt_size e1); have d3 := Obj.data_mapFields hd (·.setIfInBounds 1 (Value.ref k1.objs.size))
  have e3 := Heap.get?_update_self (Obj.mapFields (·.setIfInBounds 1 (Value.ref k1.objs.size))) e2 (Obj.isFreed_of_fields d3)
  have t3 := (Heap.get?_update_other (k1.push { cls := .type "traceback", dict := none, data := .fields ([head, .ref L, .none, rawInt L, .none] ++ (if pl.isEmpty then List.replicate 6 Value.none else pl)).toArray }) (Obj.mapFields (·.setIfInBounds 1 (Value.ref k1.objs.size))) (Ne.symm nTe)).trans (Heap.get?_push_size k1 rfl)
  have kp : ∀ b o, b ≠ e → k1.get? b = some o → ((k1.push { cls := .type "traceback", dict := none, data := .fields ([head, .ref L, .none, rawInt L, .none] ++ (if pl.isEmpty then List.replicate 6 Value.none else pl)).toArray }).update e (Obj.mapFields (·.setIfInBounds 1 (Value.ref k1.objs.size)))).get? b = some o := fun b o hbe hb => by rw [Heap.get?_update_other _ _ (Ne.symm hbe)]; exact Heap.get?_push_of_some _ hb
  have nr : ∀ b o, s.heap.get? b = some o → (∀ vs, o.data ≠ .fields vs) → b ≠ e := fun b o hb hnf q => by rw [q, he] at hb; cases hb; exact hnf vs hd
  refine wpAny_setField e2 hd hsz (h _ ⟨fun b o hbo => kp b o (fun q => by rw [q, hen] at hbo; cases hbo) (b1 b o hbo), hl.of_keeps fun b o hb hnf => ?_, ?_, fun b o hb hnf => ?_⟩ ⟨_, e3, ?_⟩)
  · obtain ⟨sl, hs⟩ := s1.2.2 b o hb; exact ⟨_, kp b _ (nr b o hb hnf) hs, rfl⟩
  · exact ⟨_, _, k1.objs.size, _, _, e3, ⟨Obj.cls_mapFields _ _, by rw [Array.getElem?_setIfInBounds_ne (by decide)]; exact h0⟩, d3, by simp [hsz], b1.fresh, nTe, t3, rfl, by first | (simp; done) | (rcases hpl with rfl | ⟨_, _, _, _, _, _, _, rfl⟩ <;> simp)⟩
  · obtain ⟨sl, hs⟩ := s1.2.2 b o hb; exact ⟨sl, kp b _ (nr b o hb hnf) hs⟩
  · obtain ⟨oc, od, odt, osl⟩ := oe; cases hd; rfl
theorem noteD {base : Heap} {env : Env} {outer : List Env} {L e : Addr} {oe : Obj} {cls a0 : Value} {Q : Unit → Shared → Prop} (hfr : A.frames = some (env :: outer)) (hl : s.heap.FunFrames base (env :: outer)) (hf : env.frame = some L) (he : s.heap.get? e = some oe) (ht : s.heap.TracedW base e cls a0) (hkb : base.StaysIn s.heap) (hen : base.get? e = none)
    (h : ∀ h', Heap.NotedW base (env :: outer) e cls a0 (rawInt L) s.heap h' → SameD e oe h' → Q () { s with heap := h' }) : wpAny M A (noteFrame (.ref e) env) Q E s := by
  obtain ⟨oe', vs, T, oT, ts, he', ⟨hcls, h0⟩, hd, h1, hnT, hTe, hT, hdT, h3⟩ := ht
  rw [he] at he'; cases he'; subst hcls
  unfold noteFrame; simp only [hf]; refine wpAny_bind (wpAny_field he hd h1 ?_); rw [if_pos (show (Value.ref T != Value.none) = true from by simp)]
  refine wpAny_bind (wpAny_field hT hdT h3 ?_); rw [if_neg (show ¬ ((Value.none == rawInt L) = true) from by simp [rawInt])]; refine wpAny_bind (wpAny_setField hT hdT (Array.getElem?_eq_some_iff.mp h3).1 ?_)
  have ot : ∀ b, b ≠ T → (s.heap.update T (Obj.mapFields (·.setIfInBounds 3 Value.none))).get? b = s.heap.get? b := fun b hb => Heap.get?_update_other _ _ (Ne.symm hb)
  have nr : ∀ b o, s.heap.get? b = some o → (∀ vs, o.data ≠ .fields vs) → b ≠ T := fun b o hb hnf q => by rw [q, hT] at hb; cases hb; exact hnf ts hdT
  refine entryD hfr (hl.of_keeps fun b o hb hnf => ⟨o, (ot b (nr b o hb hnf)).trans hb, rfl⟩) hf ((ot e (Ne.symm hTe)).trans he) (fun b o hbo => (ot b fun q => by rw [q, hnT] at hbo; cases hbo).trans (hkb b o hbo)) hen hd (Array.getElem?_eq_some_iff.mp h1).1 h0
    fun h' ⟨x1, x2, x3, x4⟩ hD => h h' ⟨x1, x2, x3, fun b o hb hnf => x4 b o ((ot b (nr b o hb hnf)).trans hb) hnf⟩ hD
theorem landD {base : Heap} {l : List Env} {e : Addr} {oe : Obj} {cls a0 fl : Value} {Q : Unit → Shared → Prop} (hkb : base.StaysIn s.heap) (hl : s.heap.FunFrames base l) (he : s.heap.get? e = some oe) (ht : s.heap.TracedAtW base e cls a0 fl)
    (h : ∀ h', base.StaysIn h' → h'.FunFrames base l → h'.TracedW base e cls a0 → (∀ b o, s.heap.get? b = some o → (∀ vs, o.data ≠ .fields vs) → h'.get? b = some o) → h'.get? e = some oe → Q () { s with heap := h' }) : wpAny M A (setFlight (.ref e) none) Q E s := by
  obtain ⟨oe', vs, T, oT, ts, he', hcls, hd, h1, hnT, hTe, hT, hdT, h3⟩ := ht
  rw [he] at he'; cases he'
  have z3 : 3 < ts.size := (Array.getElem?_eq_some_iff.mp h3).1
  have ot : ∀ b, b ≠ T → (s.heap.update T (Obj.mapFields (·.setIfInBounds 3 ((none : Option Addr).elim Value.none fun f => rawInt f)))).get? b = s.heap.get? b := fun b hb => Heap.get?_update_other _ _ (Ne.symm hb)
  have nr : ∀ b o, s.heap.get? b = some o → (∀ vs, o.data ≠ .fields vs) → b ≠ T := fun b o hb hnf q => by rw [q, hT] at hb; cases hb; exact hnf ts hdT
  unfold setFlight; refine wpAny_bind (wpAny_field he hd h1 ?_); rw [if_pos (show (Value.ref T != Value.none) = true from by simp)]
  refine wpAny_setField hT hdT z3 (h _ (fun b o hbo => (ot b fun q => by rw [q, hnT] at hbo; cases hbo).trans (hkb b o hbo)) (hl.of_keeps fun b o hb hnf => ⟨o, (ot b (nr b o hb hnf)).trans hb, rfl⟩) ?_ (fun b o hb hnf => (ot b (nr b o hb hnf)).trans hb) ((ot e (Ne.symm hTe)).trans he))
  exact ⟨oe, vs, T, _, _, (ot e (Ne.symm hTe)).trans he, hcls, hd, h1, hnT, hTe, Heap.get?_update_self _ hT (Obj.isFreed_of_fields (Obj.data_mapFields hdT _)), Obj.data_mapFields hdT _, by simp [z3]⟩
theorem leaveD {base : Heap} {env : Env} {outer : List Env} {L e : Addr} {oe : Obj} {vs : Array Value} {a0 : Value} {Q : Unit → Shared → Prop} (hfr : A.frames = some (env :: outer)) (hl : s.heap.FunFrames base (env :: outer)) (hf : env.frame = some L) (he : s.heap.get? e = some oe) (hkb : base.StaysIn s.heap) (hen : base.get? e = none) (hd : oe.data = .fields vs) (h1 : vs[1]? = some .none) (h0 : vs[0]? = some a0)
    (h : ∀ h', Heap.LeftW base (env :: outer) e oe.cls a0 s.heap h' → SameD e oe h' → Q () { s with heap := h' }) : wpAny M A (leaving env (.ref e)) Q E s := by
  unfold leaving noteFrame; simp only [hf]; refine wpAny_bind (wpAny_bind (wpAny_field he hd h1 ?_)); rw [if_neg (by decide)]
  refine entryD hfr hl hf he hkb hen hd (Array.getElem?_eq_some_iff.mp h1).1 h0 fun k ⟨x1, x2, x3, x4⟩ ⟨oe', y1, y2⟩ => ?_
  exact landD (s := { s with heap := k }) x1 x2 y1 x3 fun h' z1 z2 z3 z4 z5 => h h' ⟨z1, z2, z3, fun b o hb hnf => let ⟨sl, q⟩ := x4 b o hb hnf; ⟨sl, z4 b _ q hnf⟩⟩ ⟨oe', z5, y2⟩
end
section
variable {P : Program} {w : World} {H H0 : Hp} {h h1 h2 : Heap} {a : Addr} {o : HO}
theorem ObjOk.has (x : ObjOk P w H h a o) : ∃ ob, h.get? a = some ob := by
  cases o with
  | lst xs => obtain ⟨_, _, _, _, e⟩ := x; exact ⟨_, e⟩
  | tup xs => obtain ⟨_, _, _, ob, e, _⟩ := x; exact ⟨_, e⟩
  | dK kvs => obtain ⟨_, _, _, _, ob, _, _, e, _⟩ := x; exact ⟨_, e⟩
  | dT kvs => obtain ⟨_, _, _, _, ob, _, _, e, _⟩ := x; exact ⟨_, e⟩
  | set S n => obtain ⟨ob, _, _, _, e, _⟩ := x; exact ⟨_, e⟩
  | ins C dx fs => obtain ⟨_, _, _, e, _⟩ := x; exact ⟨_, e⟩
  | own y => exact x
  | xd fs => obtain ⟨_, ⟨ob, _, _, e, _⟩, _⟩ := x; exact ⟨_, e⟩
  | rng lo hi => obtain ⟨_, _, _, e⟩ := x; exact ⟨_, e⟩
  | frz ob u => exact ⟨_, x.1⟩
  | tbl ps => exact ⟨_, x⟩
  | met f y => exact ⟨_, x⟩
  | ext φ => exact x.2.1
theorem HOk.none_of (x : HOk P w H h) (e : h.get? a = none) : H a = none := by
  cases q : H a with
  | none => rfl
  | some u =>
    obtain ⟨ob, z⟩ := (x a u q).has
    rw [e] at z
    cases z
theorem hid_un {fs hid : List Addr} {s0 : Heap} (un : Un fs [] H0 H s0 h1) (hok : HOk P w H h1) (hh : ∀ b ∈ hid, b ∈ fs ∨ (s0.get? b = none ∧ H b = none)) (hsub : ∀ b ∈ fs, b ∈ hid) (hfr : ∀ b ∈ fs, H0 b = none ∧ ∃ o, s0.get? b = some o ∧ ∀ vs, o.data ≠ .fields vs)
    (hB : (W.hideAll h1 hid).StaysIn h2) (hS : ∀ b o, h1.get? b = some o → (∀ vs, o.data ≠ .fields vs) → ∃ sl, h2.get? b = some { o with slots := sl }) : Un fs [] H0 H s0 h2 ∧ HOk P w H h2 := by
  have kp : ∀ b ob, h1.get? b = some ob → b ∉ hid → h2.get? b = some ob := fun b ob q n => hB b ob (W.hideAll_get _ q n)
  have nh : ∀ b ob, s0.get? b = some ob → b ∉ fs → b ∉ hid := fun b ob q n z => by
    rcases hh b z with y | y
    · exact n y
    · rw [y.1] at q; cases q
  have sl : ∀ b ob, s0.get? b = some ob → b ∈ fs → ∃ sl, h2.get? b = some { ob with slots := sl } := fun b ob q hb => by
    obtain ⟨h0, o', q', nf⟩ := hfr b hb
    rw [q] at q'
    cases q'
    obtain ⟨sl, e⟩ := un.slot b ob q h0 hb (by simp)
    obtain ⟨sl2, e2⟩ := hS b { ob with slots := sl } e nf
    exact ⟨sl2, e2⟩
  refine ⟨⟨fun b ob q n hb hx => kp b ob (un.keep b ob q n hb hx) (nh b ob q hb), fun b ob q n hb hx => sl b ob q hb, un.free, fun b ob q hx => ?_, un.tups, un.frzs, un.tbls⟩, fun b u e => ?_⟩
  · by_cases hb : b ∈ fs
    · obtain ⟨_, z⟩ := sl b ob q hb
      exact ⟨_, z⟩
    · obtain ⟨o', z⟩ := un.there b ob q hx
      exact ⟨o', kp b o' z (nh b ob q hb)⟩
  · have nt : ∀ c v, H c = some v → c ∉ hid := fun c v hc z => by
      rcases hh c z with y | y
      · obtain ⟨h0, o', q', _⟩ := hfr c y
        rw [un.free c o' q' h0 (by simp)] at hc
        cases hc
      · rw [y.2] at hc; cases hc
    refine (hok b u e).stay (fun c v hc q => kp c v q ?_) (fun _ q => q) fun _ _ q => q
    rcases hc with z | z
    · rw [z]; exact nt b u e
    · exact nt c _ z
theorem hid_rec {fs hid : List Addr} {s0 : Heap} {T : Addr} {oT : Obj} {ts : Array Value} (un : Un fs [] H0 H s0 h1) (hok : HOk P w H h1) (hh : ∀ b ∈ hid, b ∈ fs ∨ (s0.get? b = none ∧ H b = none)) (hfr : ∀ b ∈ fs, H0 b = none ∧ ∃ o, s0.get? b = some o ∧ ∀ vs, o.data ≠ .fields vs)
    (hS : ∀ b o, h1.get? b = some o → (∀ vs, o.data ≠ .fields vs) → ∃ sl, h2.get? b = some { o with slots := sl }) (hn : (W.hideAll h1 hid).get? T = none) (hT : h2.get? T = some oT) (hd : oT.data = .fields ts) : s0.get? T = none ∧ H T = none := by
  by_cases hm : T ∈ hid
  · rcases hh T hm with y | y
    · obtain ⟨h0, o', q', nf⟩ := hfr T y
      obtain ⟨sl, e⟩ := un.slot T o' q' h0 y (by simp)
      obtain ⟨sl2, e2⟩ := hS T _ e nf
      rw [hT] at e2
      cases e2
      exact absurd hd (nf ts)
    · exact y
  · have z : h1.get? T = none := by
      cases q : h1.get? T with
      | none => rfl
      | some ob =>
        rw [W.hideAll_get _ q hm] at hn
        cases hn
    refine ⟨?_, hok.none_of z⟩
    cases q : s0.get? T with
    | none => rfl
    | some ob =>
      obtain ⟨o', e⟩ := un.there T ob q (by simp)
      rw [z] at e
      cases e
end
def Trc (h : Heap) (a : Addr) (cls fl : Value) (T : Addr) : Prop :=
  ∃ oe vs a0 oT ts, h.get? a = some oe ∧ oe.cls = cls ∧ vs[0]? = some a0 ∧ oe.data = .fields vs ∧ vs[1]? = some (.ref T) ∧ T ≠ a ∧ h.get? T = some oT ∧ oT.data = .fields ts ∧ ts[3]? = some fl
def DOf (h : Heap) (a : Addr) (od : Option Addr) : Prop := ∀ dx, od = some dx → ∃ oe, h.get? a = some oe ∧ oe.dict = some dx
structure Fly (P : Program) (w : World) (l : List Env) (H0 : Hp) (s0 : Shared) (H : Hp) (a : Addr) (cls : Value) (od : Option Addr) (fl : Value) (s : Shared) : Prop where
  na : s0.heap.get? a = none
  os : s.os = s0.os
  bare : AllBare s.gens
  un : Un (frs l) [] H0 H s0.heap s.heap
  hok : HOk P w H s.heap
  ha : H a = none
  tr : ∃ T, Trc s.heap a cls fl T ∧ s0.heap.get? T = none ∧ H T = none
  dd : DOf s.heap a od
def CXf (P : Program) (w : World) : CXT := fun outer H s E e s' => ∃ a cls od H', e = Value.ref a ∧ Fly P w outer H s H' a cls od .none s' ∧ E cls od H'
section
variable {X : Cx} {pins : List (Addr × Obj)} {σ : St} {H H0 : Hp} {s s0 : Shared} {a : Addr} {cls fl : Value} {od : Option Addr} {M : Model} {A : Around} {E : Value → Shared → Prop} {Q : Unit → Shared → Prop}
theorem frs_mem {l : List Env} {env : Env} {b : Addr} (he : env ∈ l) (hb : env.frame = some b) : b ∈ frs l := List.mem_filterMap.mpr ⟨env, he, hb⟩
theorem Inv.frms (I : Inv X pins σ H s) : ∀ b ∈ frs X.stack, H b = none ∧ ∃ o, s.heap.get? b = some o ∧ ∀ vs, o.data ≠ .fields vs := fun b hb =>
  ⟨I.stkFree b hb, (I.stack.mem hb).2⟩
theorem Fly.inv (F : Fly X.prog X.w X.stack H0 s0 H a cls od fl s) (I0 : Inv X pins σ H0 s0) : Inv X pins σ H s := I0.call' F.os F.un F.hok F.bare (fun _ z => nomatch z)
theorem fly_note (I0 : Inv X pins σ H0 s0) (F : Fly X.prog X.w X.stack H0 s0 H a cls od .none s) (hA : A.frames = some X.stack) (hst : X.stack = X.env :: X.outer) (hf : X.env.frame = some X.env.locals)
    (k : ∀ s', Fly X.prog X.w X.stack H0 s0 H a cls od (rawInt X.env.locals) s' → Q () s') : wpAny M A (noteFrame (.ref a) X.env) Q E s := by
  have I := F.inv I0
  obtain ⟨T, ⟨oe, vs, a0, oT, ts, e1, e2, e3, e4, e5, e6, e7, e8, e9⟩, nT, hT⟩ := F.tr
  have hin : ∀ env ∈ X.stack, ∀ b, env.frame = some b → b ∈ frs X.stack ++ [a, T] := fun env he b hb => List.mem_append_left _ (frs_mem he hb)
  have hh : ∀ b ∈ frs X.stack ++ [a, T], b ∈ frs X.stack ∨ (s0.heap.get? b = none ∧ H b = none) := fun b hb => by
    rcases List.mem_append.mp hb with z | z
    · exact .inl z
    · rcases List.mem_cons.mp z with y | y
      · rw [y]; exact .inr ⟨F.na, F.ha⟩
      · rw [List.mem_singleton.mp y]; exact .inr ⟨nT, hT⟩
  have hm1 : a ∈ frs X.stack ++ [a, T] := List.mem_append_right _ List.mem_cons_self
  have hm2 : T ∈ frs X.stack ++ [a, T] := List.mem_append_right _ (List.mem_cons_of_mem _ List.mem_cons_self)
  have ff := W.funFrames_hide I.stack hin
  have go := noteD (M := M) (A := A) (E := E) (Q := Q) (s := s) (base := W.hideAll s.heap (frs X.stack ++ [a, T])) (env := X.env) (outer := X.outer) (L := X.env.locals) (e := a) (cls := cls) (a0 := a0) (by rw [hA, hst]) (by rw [← hst]; exact ff) hf e1
    ⟨oe, vs, T, oT, ts, e1, ⟨e2, e3⟩, e4, e5, W.hideAll_none _ hm2, e6, e7, e8, e9⟩ (fun b o q => W.of_hideAll _ q) (W.hideAll_none _ hm1) ?_
  · exact go
  · rintro h' ⟨k1, k2, ⟨oe', vs', T', oT', ts', q1, ⟨q2, q3⟩, q4, q5, q6, q7, q8, q9, q10⟩, k4⟩ ⟨od', d1, d2⟩
    obtain ⟨u2, ok2⟩ := hid_un F.un F.hok hh (fun b hb => List.mem_append_left _ hb) I0.frms k1 k4
    obtain ⟨n1, n2⟩ := hid_rec F.un F.hok hh I0.frms k4 q6 q8 q9
    refine k _ ⟨F.na, F.os, F.bare, u2, ok2, F.ha, ⟨T', ⟨oe', vs', a0, oT', ts', q1, q2, q3, q4, q5, q7, q8, q9, q10⟩, n1, n2⟩, fun dx hdx => ?_⟩
    obtain ⟨o1, z1, z2⟩ := F.dd dx hdx
    rw [e1] at z1
    cases z1
    exact ⟨od', d1, d2.trans z2⟩
theorem fly_land (I0 : Inv X pins σ H0 s0) (F : Fly X.prog X.w X.stack H0 s0 H a cls od fl s) (k : ∀ s', Fly X.prog X.w X.stack H0 s0 H a cls od .none s' → Q () s') : wpAny M A (setFlight (.ref a) none) Q E s := by
  have I := F.inv I0
  obtain ⟨T, ⟨oe, vs, a0, oT, ts, e1, e2, e3, e4, e5, e6, e7, e8, e9⟩, nT, hT⟩ := F.tr
  have hin : ∀ env ∈ X.stack, ∀ b, env.frame = some b → b ∈ frs X.stack ++ [a, T] := fun env he b hb => List.mem_append_left _ (frs_mem he hb)
  have hh : ∀ b ∈ frs X.stack ++ [a, T], b ∈ frs X.stack ∨ (s0.heap.get? b = none ∧ H b = none) := fun b hb => by
    rcases List.mem_append.mp hb with z | z
    · exact .inl z
    · rcases List.mem_cons.mp z with y | y
      · rw [y]; exact .inr ⟨F.na, F.ha⟩
      · rw [List.mem_singleton.mp y]; exact .inr ⟨nT, hT⟩
  have hm2 : T ∈ frs X.stack ++ [a, T] := List.mem_append_right _ (List.mem_cons_of_mem _ List.mem_cons_self)
  refine landD (base := W.hideAll s.heap (frs X.stack ++ [a, T])) (l := X.stack) (cls := cls) (a0 := a0) (fl := fl) (fun b o q => W.of_hideAll _ q) (W.funFrames_hide I.stack hin) e1 ⟨oe, vs, T, oT, ts, e1, ⟨e2, e3⟩, e4, e5, W.hideAll_none _ hm2, e6, e7, e8, e9⟩ ?_
  rintro h' k1 k2 ⟨oe', vs', T', oT', ts', q1, ⟨q2, q3⟩, q4, q5, q6, q7, q8, q9, q10⟩ k4 kE
  have k5 : ∀ b o, s.heap.get? b = some o → (∀ vs, o.data ≠ .fields vs) → ∃ sl, h'.get? b = some { o with slots := sl } := fun b o q n => ⟨o.slots, k4 b o q n⟩
  obtain ⟨u2, ok2⟩ := hid_un F.un F.hok hh (fun b hb => List.mem_append_left _ hb) I0.frms k1 k5
  obtain ⟨n1, n2⟩ := hid_rec F.un F.hok hh I0.frms k5 q6 q8 q9
  refine k _ ⟨F.na, F.os, F.bare, u2, ok2, F.ha, ⟨T', ⟨oe', vs', a0, oT', ts', q1, q2, q3, q4, q5, q7, q8, q9, q10⟩, n1, n2⟩, fun dx hdx => ?_⟩
  obtain ⟨o1, z1, z2⟩ := F.dd dx hdx
  rw [e1] at z1
  cases z1
  exact ⟨oe, kE, z2⟩
end
end L2
namespace L2
open PySem PySem.Spec PyProof.Rows
abbrev mroVE : List Value := [.type "ValueError", .type "Exception", .type "BaseException", .type "object"]
section
variable {X : Cx} {x : Str} {C : Addr} {E : XK} {e : Expr} {es : List Expr} {t : TA} {np cpos pos : Pos}
end
def Takes (X : Cx) (Ex : St → Value → Option Addr → Hp → Prop) : Prop := ∀ (pins : List (Addr × Obj)) (σ : St) (H : Hp) (s : Shared) (e : Value) (s' : Shared), Inv X pins σ H s → CXf X.prog X.w X.stack H s (fun cls od H' => Ex σ cls od H') e s' → X.xe e s'
section
variable {X : Cx} {x : Str} {n : Nat} {ps : List Str} {sp : Sp} {Ex : St → Value → Option Addr → Hp → Prop} {e : Expr} {es : List Expr} {t : TA} {p pos : Pos}
end
def XF (X : Cx) (Ex : St → Value → Option Addr → Hp → Prop) : Value → Shared → Prop := fun e s' => ∃ σ H s, Inv X [] σ H s ∧ CXf X.prog X.w X.stack H s (fun cls od H' => Ex σ cls od H') e s'
abbrev Cx.pin (X : Cx) (pn : List (Addr × Obj)) : Cx := { X with pn := pn }
abbrev Cx.trying (X : Cx) (pn : List (Addr × Obj)) (Ex : St → Value → Option Addr → Hp → Prop) : Cx := { X with pn := pn, xe := XF (X.pin pn) Ex }
abbrev Cx.handling (X : Cx) (a : Addr) : Cx := { X with A := X.A.mark (some (.ref a)), calm := false, xe := fun _ _ => False }
section
variable {X : Cx} {pins pn : List (Addr × Obj)} {σ : St} {H : Hp} {s : Shared} {Ex : St → Value → Option Addr → Hp → Prop} {a : Addr}
theorem Cx.Ok.pin (ok : X.Ok) : (X.pin pn).Ok := ⟨ok.mod, ok.kind, ok.glob, ok.blt, ok.above, ok.inj, ok.has, ok.cab, ok.hd, ok.frames, ok.stk, ok.exf, ok.bs, ok.bsz, ok.noex, ok.exfs, ok.funs, ok.frf⟩
theorem Cx.Ok.handling (ok : X.Ok) : (X.handling a).Ok := ⟨ok.mod, ok.kind, ok.glob, ok.blt, ok.above, ok.inj, ok.has, ok.cab, (fun z => nomatch z), ok.frames, ok.stk, ok.exf, ok.bs, ok.bsz, ok.noex, ok.exfs, ok.funs, ok.frf⟩
theorem Inv.pnIn (I : Inv X pins σ H s) : Inv (X.pin (X.pn ++ pins)) [] σ H s := ⟨I.ok.pin, I.os, I.bare, I.base, I.loc, I.cell, I.free, I.freeC, fun p hp => I.pin p (by rw [List.append_nil] at hp; exact hp), I.hok, I.len⟩
theorem Inv.pnOut (I : Inv (X.pin (X.pn ++ pins)) [] σ H s) (ok : X.Ok) : Inv X pins σ H s := ⟨ok, I.os, I.bare, I.base, I.loc, I.cell, I.free, I.freeC, fun p hp => I.pin p (by rw [List.append_nil]; exact hp), I.hok, I.len⟩
theorem Inv.handling (I : Inv X pins σ H s) : Inv (X.handling a) pins σ H s := ⟨I.ok.handling, I.os, I.bare, I.base, I.loc, I.cell, I.free, I.freeC, I.pin, I.hok, I.len⟩
theorem Inv.handled (I : Inv (X.handling a) pins σ H s) (ok : X.Ok) : Inv X pins σ H s := ⟨ok, I.os, I.bare, I.base, I.loc, I.cell, I.free, I.freeC, I.pin, I.hok, I.len⟩
theorem Inv.trying (I : Inv (X.pin pn) pins σ H s) : Inv (X.trying pn Ex) pins σ H s := I.wish _
theorem Inv.tried (I : Inv (X.trying pn Ex) pins σ H s) : Inv (X.pin pn) pins σ H s := Inv.unwish (X := X.pin pn) (E := XF (X.pin pn) Ex) I
theorem takes_trying : Takes (X.trying pn Ex) Ex := fun pins σ H s e s' I h => ⟨σ, H, s, I.tried.pins_of (fun p hp => nomatch hp), h⟩
def ExcO (a : Addr) (cls : Value) (od : Option Addr) : Heap → Prop := fun h => ∃ o vs, h.get? a = some o ∧ o.cls = cls ∧ o.data = .fields vs ∧ ∀ dx, od = some dx → o.dict = some dx
theorem Inv.exc {cls : Value} {od : Option Addr} {H0 : Hp} {s0 : Shared} {σ0 : St} (I : Inv X pins σ H s) (I0 : Inv X pins σ0 H0 s0) (hex : X.ex = []) (na : s0.heap.get? a = none) (ha : H a = none) (hx : ExcO a cls od s.heap) : Inv X pins σ (upd H a (.ext (ExcO a cls od))) s where
  ok := I.ok
  os := I.os
  bare := I.bare
  base := by
    have n0 : ∀ b ob, X.s₀.heap.get? b = some ob → b ≠ a := fun b ob q z => by
      obtain ⟨o', y⟩ := I0.base.there b ob q (by rw [hex]; simp)
      rw [z, na] at y
      cases y
    refine ⟨I.base.keep, I.base.slot, fun b ob q n hx => ?_, I.base.there, fun b xs q => ?_, fun b ob u q => ?_, fun b ps q => ?_⟩
    · rw [upd_ne (n0 b ob q)]; exact I.base.free b ob q n hx
    · have := I.base.tups b xs q
      rw [upd_ne (ne_of_none this ha)]; exact this
    · have := I.base.frzs b ob u q
      rw [upd_ne (ne_of_none this ha)]; exact this
    · obtain ⟨more, z⟩ := I.base.tbls b ps q
      exact ⟨more, by rw [upd_ne (ne_of_none z ha)]; exact z⟩
  loc := I.loc
  cell := I.cell
  free := by
    have : X.env.locals ≠ a := fun z => by
      obtain ⟨m, ⟨o, _, _, ho, _⟩, _⟩ := I0.loc
      rw [z, na] at ho
      cases ho
    rw [upd_ne this]; exact I.free
  freeC := fun x c h => by
    have : c ≠ a := fun z => by
      obtain ⟨v, o, ho, _⟩ := I0.cell x c h
      rw [z, na] at ho
      cases ho
    rw [upd_ne this]; exact I.freeC x c h
  pin := fun p hp => by
    obtain ⟨p1, p2, p3⟩ := I.pin p hp
    have : p.1 ≠ a := fun z => by
      have ho := (I0.pin p hp).1
      rw [z, na] at ho
      cases ho
    exact ⟨p1, by rw [upd_ne this]; exact p2, p3⟩
  hok := by
    intro b u hb
    by_cases q : b = a
    · subst q
      rw [upd_same] at hb
      cases hb
      obtain ⟨o, vs, h1, h2, h3⟩ := hx
      refine ⟨⟨o, vs, h1, h2, h3⟩, ⟨o, h1⟩, ?_⟩
      rintro ha hb2 ⟨o', vs', q1, q2, q3⟩ k
      exact ⟨o', vs', k o' q1, q2, q3⟩
    · rw [upd_ne q] at hb
      refine (I.hok b u hb).stay (fun c v _ h => h) (fun c h => ?_) fun c xs h => ?_
      · rw [upd_ne (ne_of_none h ha)]; exact h
      · rw [upd_ne (ne_of_none h ha)]; exact h
  len := I.len
theorem goes_ok {M : Model} {A : Around} {E : Value → Shared → Prop} {i : Nat} {x : Str} {pos : Pos} {Q : Unit → Shared → Prop} (I : Inv X pins σ H s) (hN : X.N.Nodup) (hi : X.N[i]? = some x) (hx : X.env.kindOf x = some .local) (hl : Loc X.env.scope x) (hfn : X.fn x = true ∨ X.env.scope.names.lookup x = some .local)
    (h : ∀ s', Inv X pins (σ.set i none) H s' → Q () s') : wpAny M A (do bindName X.env x .none; unbindBehindTheSuite X.env x pos) Q E s := by
  have hp : (X.env.scope.kind == .class || (X.env.scope.kind == .module && X.env.locals != X.env.globals)) = false := by rw [I.ok.kind]; rfl
  refine wpAny_bind (wpAny_bindName (store_ok (v := .non) I hN hi hl rfl (fun s1 I1 => ?_) hfn))
  unfold unbindBehindTheSuite
  refine wpAny_onRaise ?_
  unfold unbindName
  refine wpAny_bind (wpAny_point (wpAny_bind ?_))
  unfold deleteName
  simp only [hx, hp]
  rw [if_neg (by decide)]
  obtain ⟨m, hn, hl1⟩ := id I1.loc
  have hiσ : i < σ.length := by rw [I.len]; exact (List.getElem?_eq_some_iff.mp hi).1
  have cne := I1.cne
  refine wpAny_bind (wpAny_nsDel_keeps hn fun h2 v hn2 hs => ?_)
  have hm : (m x).isSome = true := by
    obtain ⟨u, ru, lk⟩ := hl1 i x .non hi (List.getElem?_set_self hiσ) (Or.inl (by
      have := hx
      unfold Env.kindOf at this
      first | exact this | simpa using this))
    rcases lk with ⟨_, e⟩ | ⟨k, _⟩
    · rw [e]; rfl
    · rcases k with k | k
      · have := hx; simp_all
      · have := hx; simp_all
  simp only [hm, if_true, Bool.not_true, Bool.false_eq_true, if_false]
  have bl : ∀ b o, X.s₀.heap.get? b = some o → b ≠ X.env.locals := fun b o e => Nat.ne_of_lt (Nat.lt_of_lt_of_le (Heap.lt_size e) I.ok.above)
  obtain ⟨oL, _, _, hoL, _⟩ := id hn
  refine wpAny_pure (wpAny_point (h _ ⟨I1.ok, I1.os, I1.bare, ⟨fun b o e n hb hx' => (hs.2 b (bl b o e)).trans (I1.base.keep b o e n hb hx'), fun b o e n hb hx' => ?_, I1.base.free, fun b o e hx' => ?_, I1.base.tups, I1.base.frzs, I1.base.tbls⟩, ⟨_, hn2, fun j y v' e1 e2 e3 => ?_⟩, fun y c e => ?_, I1.free, I1.freeC, fun p hp' => ?_, fun b u e => ?_, by simpa using I.len⟩))
  · obtain ⟨sl, z⟩ := I1.base.slot b o e n hb hx'
    exact ⟨sl, (hs.2 b (bl b o e)).trans z⟩
  · obtain ⟨o', z⟩ := I1.base.there b o e hx'
    exact ⟨o', (hs.2 b (bl b o e)).trans z⟩
  · by_cases hj : j = i
    · subst hj
      rw [List.getElem?_set_self hiσ] at e2
      cases e2
    · rw [List.getElem?_set_ne (Ne.symm hj)] at e2
      obtain ⟨u, r, q⟩ := hl1 j y v' e1 (by rw [List.getElem?_set_ne (Ne.symm hj)]; exact e2) e3
      refine ⟨u, r, ?_⟩
      rcases q with ⟨k, e⟩ | ⟨k, c, e, z⟩
      · have hne : y ≠ x := fun e => hj (nodup_ix hN e1 (e ▸ hi))
        exact .inl ⟨k, by dsimp only; rw [if_neg hne]; exact e⟩
      · exact .inr ⟨k, c, e, z.sameBut hs (cne y c e)⟩
  · obtain ⟨w', z⟩ := I1.cell y c e
    exact ⟨w', z.sameBut hs (cne y c e)⟩
  · obtain ⟨e, n, ne, nf, d⟩ := I1.pin p hp'
    exact ⟨(hs.2 p.1 ne).trans e, n, ne, nf, d⟩
  · refine (I1.hok b u e).stay (fun c w' hc q => (hs.2 c ?_).trans q) (fun _ q => q) fun _ _ q => q
    rintro rfl
    rcases hc with z | z
    · rw [← z, I1.free] at e; cases e
    · rw [I1.free] at z; cases z
theorem SP.goes {M : Model} {A : Around} {E : Value → Shared → Prop} {i : Nat} {x : Str} {pos : Pos} {D : Ends} {f : Flow} (hq : SP X pins { nx := fun σ' H' => D.nx (σ'.set i none) H', rt := D.rt, bk := fun σ' H' => D.bk (σ'.set i none) H', ct := fun σ' H' => D.ct (σ'.set i none) H' } f s) (hN : X.N.Nodup) (hi : X.N[i]? = some x) (hx : X.env.kindOf x = some .local) (hl : Loc X.env.scope x) (hfn : X.fn x = true ∨ X.env.scope.names.lookup x = some .local) :
    wpAny M A (do bindName X.env x .none; unbindBehindTheSuite X.env x pos) (fun _ s' => SP X pins D f s') E s := by
  cases f with
  | next => obtain ⟨σ', H', I, q⟩ := hq; exact goes_ok I hN hi hx hl hfn fun s' I' => ⟨_, H', I', q⟩
  | brk => obtain ⟨σ', H', I, q⟩ := hq; exact goes_ok I hN hi hx hl hfn fun s' I' => ⟨_, H', I', q⟩
  | cont => obtain ⟨σ', H', I, q⟩ := hq; exact goes_ok I hN hi hx hl hfn fun s' I' => ⟨_, H', I', q⟩
  | ret u => obtain ⟨v, σ', H', I, r, q⟩ := hq; exact goes_ok I hN hi hx hl hfn fun s' I' => ⟨v, _, H', I', r, q⟩
theorem SP.handled {D : Ends} {f : Flow} (h : SP (X.handling a) pins D f s) (ok : X.Ok) : SP X pins D f s := by
  cases f with
  | next => obtain ⟨σ', H', I, q⟩ := h; exact ⟨σ', H', I.handled ok, q⟩
  | brk => obtain ⟨σ', H', I, q⟩ := h; exact ⟨σ', H', I.handled ok, q⟩
  | cont => obtain ⟨σ', H', I, q⟩ := h; exact ⟨σ', H', I.handled ok, q⟩
  | ret u => obtain ⟨v, σ', H', I, r, q⟩ := h; exact ⟨v, σ', H', I.handled ok, r, q⟩
theorem SP.tried {D : Ends} {f : Flow} (h : SP (X.trying (X.pn ++ pins) Ex) [] D f s) (ok : X.Ok) : SP X pins D f s := by
  cases f with
  | next => obtain ⟨σ', H', I, q⟩ := h; exact ⟨σ', H', I.tried.pnOut ok, q⟩
  | brk => obtain ⟨σ', H', I, q⟩ := h; exact ⟨σ', H', I.tried.pnOut ok, q⟩
  | cont => obtain ⟨σ', H', I, q⟩ := h; exact ⟨σ', H', I.tried.pnOut ok, q⟩
  | ret u => obtain ⟨v, σ', H', I, r, q⟩ := h; exact ⟨v, σ', H', I.tried.pnOut ok, r, q⟩
def tTry (K : W.Frag) (C : Addr) (i : Nat) (tb : (St → Value → Option Addr → Hp → Prop) → TS) (th : TS) : TS := fun D σ H =>
  tb (fun σ' cls od H' => W.exmOne K cls (.ref C) = some true ∧ ∀ a, H' a = none → th { nx := fun σ'' H'' => D.nx (σ''.set i none) H'', rt := D.rt, bk := fun σ'' H'' => D.bk (σ''.set i none) H'', ct := fun σ'' H'' => D.ct (σ''.set i none) H'' } (σ'.set i (some (.ref a))) (upd H' a (.ext (ExcO a cls od)))) D σ H
theorem ps_try {C : Addr} {c n : Str} {i : Nat} {body suite : List Stmt} {s0 : Stmt} {p hpos pos : Pos} {tb : (St → Value → Option Addr → Hp → Prop) → TS} {th : TS} (hN : X.N.Nodup) (hi : X.N[i]? = some n) (hx : X.env.kindOf n = some .local) (hl : Loc X.env.scope n) (hfn : X.fn n = true ∨ X.env.scope.names.lookup n = some .local) (hst : X.stack = X.env :: X.outer) (hf : X.env.frame = some X.env.locals) (hex : X.ex = [])
    (hg : Gl X c) (hm : X.mg c = some (.ref C)) (hdb : (c == ("__debug__" : Str)) = false) (hb : ∀ pn Ex, PSs (X.trying pn Ex) body (tb Ex)) (hs : ∀ a, PSs (X.handling a) (s0 :: suite) th) :
    PS X (.Try body [.ExceptHandler (some (.Name c p)) (some n) (s0 :: suite) hpos] [] [] pos) (tTry X.K C i tb th) := by
  intro pins s σ H D I h
  refine wpAny_Try_except (wpAny_mono (hb (X.pn ++ pins) _ [] s σ H D I.pnIn.trying h) (fun f s1 q => ?_) fun e s1 q => ?_)
  · have q' := q.tried I.ok
    cases f with
    | next => exact wpAny_execs_nil q'
    | brk => exact q'
    | cont => exact q'
    | ret u => exact q'
  · obtain ⟨σ', H0, sc, I0, a, cls, od, H', rfl, F, hx1, hw⟩ := q
    have I0' : Inv X pins σ' H0 sc := I0.pnOut I.ok
    have F' : Fly X.prog X.w X.stack H0 sc H' a cls od .none s1 := F
    refine fly_note I0' F' I.ok.frames hst hf fun s2 F2 => ?_
    refine fly_land I0' F2 fun s3 F3 => ?_
    have I3 := F3.inv I0'
    refine wpAny_handleBy_cons (codeAny_handlers_test ?_) (by intro q; cases q)
    refine ld_glob (X := X.handling a) (I3.handling (a := a)) hg hm ?_ hdb
    obtain ⟨T, ⟨oe, vs, a0, oT, ts, e1, e2, _⟩, _⟩ := F3.tr
    have LT : W.Looks (model X.prog X.w) s3.heap (typeOf (.ref a)) cls := e2 ▸ (W.Looks.ld e1).andThen .now
    refine (W.exm_one I3.kIn LT hx1).here ?_
    show codeAny _ _ _ _ _
    refine codeAny_handlers_suite_as ?_
    refine fly_land I0' F3 fun s4 F4 => ?_
    have I4 := F4.inv I0'
    obtain ⟨T4, ⟨oe4, vs4, a04, oT4, ts4, q1, q2, q3, q4, _⟩, _⟩ := F4.tr
    have I5 := I4.exc I0' hex F4.na F4.ha (od := od) ⟨oe4, vs4, q1, q2, q4, fun dx hdx => by obtain ⟨o1, z1, z2⟩ := F4.dd dx hdx; rw [q1] at z1; cases z1; exact z2⟩
    refine store_ok (v := .ref a) I5 hN hi hl rfl (fun s5 I6 => ?_) hfn
    refine wpAny_mono (hs a pins s5 _ _ _ (I6.handling (a := a)) (hw a F4.ha)) (fun f s6 q => ?_) (fun _ _ z => False.elim z)
    exact SP.goes (q.handled I.ok) hN hi hx hl hfn
end
end L2
namespace L2
open PySem PySem.Spec PyProof.Rows
structure XKind (K : W.Frag) (D : Addr) : Prop where
  ga : W.findIn K (.ref D) "__getattribute__" = some (some (.builtin "BaseException.__getattribute__"))
  gx : W.findIn K (.ref D) "__getattr__" = some none
  cl : W.findIn K (.ref D) "__class__" = some (some (.builtin "object.__class__"))
  gg : W.specialIn K (.builtin "object.__class__") "__get__" = some (some (.builtin "getset_descriptor.__get__"))
  tk : W.takesIn K (.builtin "object.__class__") = some true
  mo : W.mroIn K D (.type "object") = some true
  mb : W.mroIn K D (.type "BaseException") = some true
  ci : (W.clsIn K D).isSome = true
def OfCls (x D : Addr) (h : Heap) : Prop := ∃ o, h.get? x = some o ∧ o.cls = .ref D
section
variable {prog : Program} {w : World} {A : Around} {E : Value → Shared → Prop} {s : Shared} {K : W.Frag} {x D : Addr}
theorem OfCls.type {M : Model} {h : Heap} (c : OfCls x D h) : W.Looks M h (typeOf (.ref x)) (.ref D) := by
  obtain ⟨o, h1, h2⟩ := c
  exact h2 ▸ (W.Looks.ld h1).andThen .now
theorem exc_check {M : Model} {nameV : Value} {Q : Unit → Shared → Prop} (LI : W.Looks M s.heap (isInstance (.ref x) (.type "BaseException")) true) (h : Q () s) : wpAny M A (checkBuiltinCall "BaseException.__getattribute__" ⟨[.ref x, nameV], []⟩) Q E s := by
  have hkd : builtinKind "BaseException.__getattribute__" = some .slot := by decide +kernel
  have hsp : splitId "BaseException.__getattribute__" = some ("BaseException", "__getattribute__") := by decide +kernel
  have har := F.args_bexc_ga (.ref x) nameV
  simp only [checkBuiltinCall, hkd, hsp]
  refine wpAny_bind (LI.here ?_)
  obtain ⟨hh, g, d, t, os⟩ := s
  repeat (first | wp_step)
  exact h
theorem look_class {M : Model} {h : Heap} (X : K.In h) (k : XKind K D) : W.Looks M h (Builtin.ObjectAttr.find (.ref x) (.ref D) "__class__") (.bind (.builtin "getset_descriptor.__get__") (.builtin "object.__class__")) := by
  have l1 := W.looks_findIn (M := M) X k.cl
  have l2 : W.Looks M h (Builtin.ObjectAttr.getOf (some (.builtin "object.__class__"))) (some (.builtin "getset_descriptor.__get__")) := W.looks_specialIn X k.gg
  have l3 := W.looks_takesIn (M := M) X k.tk
  refine l1.andThen (l2.andThen ?_)
  exact (show W.Looks M h (Builtin.ObjectAttr.dataDescriptor? (some (.builtin "object.__class__")) (some (.builtin "getset_descriptor.__get__"))) (some (.builtin "getset_descriptor.__get__", .builtin "object.__class__")) from l3.andThen .now).andThen (W.Looks.tag .now)
open PySem.W Builtin Builtin.ObjectAttr Builtin.Getset_descriptor in
theorem get_class {R : Result → Shared → Prop} {tp : Value} (X : K.In s.heap) (c : OfCls x D s.heap) (hm : W.mroIn K D (.type "object") = some true) (h : R (.ok (.ret (.ref D))) s) :
    codeAny (model prog w) A (.call (.builtin "getset_descriptor.__get__") ⟨[.builtin "object.__class__", .ref x, tp], []⟩) R s := by
  obtain ⟨hh, g, dr, t, os⟩ := s
  have L0 := c.type (M := model prog w)
  have L1 := W.looks_mroIn (M := model prog w) X hm
  refine codeAny_call_builtin KF.slot_gs.plain KF.entry_gs (KF.slot_gs.check _ _ _ _ _ _ _ _ KF.type_class (KF.args_gs _ _ _) ?_)
  unfold Builtin.«getset_descriptor.__get__» descrGet
  rw [dga_obj]
  apply wpAny_bind
  apply wpAny_pure
  unfold descrGetter descrCheckInstance descrNameAndClass isInstance
  simp only [KF.owner_class]
  repeat lk
  refine ⟨Code.quiet_builtin _ (by decide +kernel), codeAny_builtin KF.entry_class ?_⟩
  unfold Builtin.«object.__class__» shownTypeOf
  repeat lk
  exact h
theorem exc_class {Q : Option Value → Shared → Prop} (X : K.In s.heap) (c : OfCls x D s.heap) (k : XKind K D) (h : Q (some (.ref D)) { s with toks := s.toks + 1 }) : wpAny (model prog w) A (getAttr? (.ref x) "__class__") Q E s := by
  obtain ⟨hh, g, d, t, os⟩ := s
  have L0 := c.type (M := model prog w)
  have L1 := W.looks_findIn (M := model prog w) X k.ga
  have L2 := W.looks_findIn (M := model prog w) X k.gx
  have L3 := look_class (M := model prog w) (x := x) X k
  have LI : W.Looks (model prog w) hh (isInstance (.ref x) (.type "BaseException")) true := L0.andThen (W.looks_mroIn X k.mb)
  unfold getAttr? getAttrBy? getAttrBy
  refine wpAny_bind (wpAny_mkText (wpAny_bind (wpAny_attempt (wpAny_holding (wpAny_bind (L0.at (wpAny_bind (L1.at ?_))))))))
  dsimp only
  have hx0 : (Value.builtin "BaseException.__getattribute__" == Value.builtin "object.__getattribute__") = false := by decide +kernel
  have hx1 : (onTheHeap (Value.ref D) && Value.builtin "BaseException.__getattribute__" == Value.builtin "object.__getattribute__") = false := by rw [hx0]; rfl
  rw [if_neg (by rw [hx1]; exact Bool.false_ne_true)]
  unfold getAttrByItsOwn hookBefore
  rw [if_pos (show onTheHeap (Value.ref D) = true from rfl)]
  refine wpAny_bind (L2.at ?_)
  refine wpAny_bind (wpAny_attempt (wpAny_holding ?_))
  unfold callGetattribute
  rw [if_neg (by decide)]
  unfold boundAndCalled
  refine wpAny_bind (wpAny_of_eq (F.excAttr_ValueError.ga.bind _) ?_)
  show wpAny _ _ (call (.builtin "BaseException.__getattribute__") [.ref x, .str "__class__" t]) _ _ _
  refine wpAny_call (codeAny_call_builtin F.excAttr_ValueError.ga.plain F.entry_bexc_ga (exc_check LI ?_))
  unfold Builtin.«object.__getattribute__»
  refine wpAny_bind (wpAny_of_eq (a := (Value.ref x, [Value.str "__class__" t])) rfl ?_)
  dsimp only
  refine wpAny_bind (wpAny_pure (wpAny_bind (L0.at (wpAny_bind (L3.at ?_)))))
  dsimp only
  show wpAny _ _ (holding [Value.builtin "object.__class__"] (call (.builtin "getset_descriptor.__get__") [.builtin "object.__class__", .ref x, .ref D]) >>= ret) _ _ _
  refine wpAny_bind (wpAny_holding (wpAny_call (get_class (s := ⟨hh, g, d, t + 1, os⟩) X c k.mo ?_)))
  refine wpAny_pure ?_
  show wpAny _ _ (handedOut (.ref D)) _ _ _
  exact wpAny_pure (wpAny_pure h)
theorem kitx_exc (k : XKind K D) : W.KitX K (.ref x) (.ref D) (OfCls x D) where
  ty := fun _ _ _ c => c.type
  it := fun _ _ X _ => by
    obtain ⟨cdD, hcD⟩ := Option.isSome_iff_exists.mp k.ci
    unfold W.clsIn at hcD
    split at hcD
    · rename_i c' d' cd' sl' ho
      intro A' Q' E' s' k' q
      unfold isType loadHead
      exact wpAny_bind (wpAny_loadPart (k' _ _ (X _ _ ho)) (wpAny_pure q))
    · cases hcD
  ne := fun h tp dd its n sl X htp => by
    obtain ⟨cdD, hcD⟩ := Option.isSome_iff_exists.mp k.ci
    refine Bool.eq_false_iff.mpr fun q => ?_
    have e : D = tp := Value.ref.inj (beq_iff_eq.mp q)
    subst e
    unfold W.clsIn at hcD
    split at hcD
    · rename_i c' d' cd' sl' ho
      rw [X _ _ ho] at htp
      cases htp
    · cases hcD
  ca := fun X c q => exc_class X c k q
end
def IsAns (K : W.Frag) (H : Hp) (D : Addr) (c : V) (b : Bool) : Prop := match c with
  | .ref t => (∃ xs : List Addr, H t = some (.tup (xs.map V.ref)) ∧ W.kitAny K (.ref D) (xs.map Value.ref) = some b) ∨ W.kitOne K (.ref D) (.ref t) = some b
  | .ty n => W.kitOne K (.ref D) (.type n) = some b
  | _ => False
def mIsX (K : W.Frag) : List V → Hp → VK → Prop := fun vs H Q => match vs with
  | [.ref a, c] => ∃ D b od, H a = some (.ext (ExcO a (.ref D) od)) ∧ XKind K D ∧ IsAns K H D c b ∧ Q (.bl b) H
  | _ => False
theorem vals_refs : ∀ {xs : List Addr} {us : List Value}, Vals (xs.map V.ref) us → us = xs.map Value.ref
  | [], [], _ => rfl
  | x :: xs, u :: us, .cons r rs => by
    cases r
    rw [vals_refs rs]
    rfl
section
variable {X : Cx}
theorem c_isX : CallR X (.builtin "isinstance") (mIsX X.K) := by
  intro pins s σ H xs us Q I r h
  unfold mIsX at h
  split at h
  · rename_i a c
    obtain ⟨D, b, od, e, k, ans, q⟩ := h
    obtain ⟨⟨o, vs, h1, h2, h3⟩, _⟩ := (show ObjOk X.prog X.w H s.heap a (.ext (ExcO a (.ref D) od)) from I.hok a _ e)
    have oc : OfCls a D s.heap := ⟨o, h1, h2⟩
    cases r with
    | cons ra r2 =>
      cases r2 with
      | cons rc r3 =>
        cases r3
        cases ra
        cases c with
        | ref t =>
          cases rc
          rcases ans with ⟨ys, et, ka⟩ | ko
          · obtain ⟨_, its, rv, ⟨ot, ht, hc, n, hd⟩⟩ := (show ObjOk X.prog X.w H s.heap t (.tup (ys.map V.ref)) from I.hok t _ et)
            obtain rfl := vals_refs rv
            obtain ⟨c0, dd, dat, sl⟩ := ot
            dsimp only at hc hd
            subst hc hd
            exact W.kia_tup (kitx_exc k) I.kIn oc ht ka (by intro z; cases z) fun tk => ⟨.bl b, H, I.tok _, rfl, q⟩
          · exact W.kia_one (kitx_exc k) I.kIn oc ko (by intro z; cases z) fun tk => ⟨.bl b, H, I.tok _, rfl, q⟩
        | ty n =>
          cases rc
          exact W.kia_one (kitx_exc k) I.kIn oc ans (by intro z; cases z) fun tk => ⟨.bl b, H, I.tok _, rfl, q⟩
        | _ => exact ans.elim
  · exact h.elim
end
namespace R
section
variable {X : Cx} {x n c : Str} {C : Addr} {E : XK} {e : Expr} {es : List Expr} {t : TA} {np cpos pos p hpos : Pos} {m i : Nat} {ps : List Str} {sp : Sp} {Ex : St → Value → Option Addr → Hp → Prop} {K : W.Frag} {body suite : List Stmt} {s0 : Stmt} {tb : (St → Value → Option Addr → Hp → Prop) → TS} {th : TS}
theorem kisX (hK : X.K = K := by rfl) : XC X (.builtin "isinstance") (mIsX K) := hK ▸ ⟨c_isX⟩
theorem ktry (hm : X.mg c = some (.ref C)) (hg : Gl X c) (hN : X.N.Nodup) (hb : ∀ pn Ex, XB (X.trying pn Ex) body (tb Ex)) (hs : ∀ a, XB (X.handling a) (s0 :: suite) th) (hK : X.K = K := by rfl) (hi : X.N[i]? = some n := by rfl) (hx : X.env.kindOf n = some .local := by rfl) (hl : Loc X.env.scope n := by first | exact Or.inl rfl | exact Or.inr rfl)
    (hfn : X.fn n = true ∨ X.env.scope.names.lookup n = some .local := by first | exact .inl rfl | exact .inr rfl) (hst : X.stack = X.env :: X.outer := by rfl) (hf : X.env.frame = some X.env.locals := by rfl) (hex : X.ex = [] := by rfl) (hdb : (c == ("__debug__" : Str)) = false := by decide) :
    XS X (.Try body [.ExceptHandler (some (.Name c p)) (some n) (s0 :: suite) hpos] [] [] pos) (tTry K C i tb th) := hK ▸ ⟨ps_try hN hi hx hl hfn hst hf hex hg hm hdb (fun pn Ex => (hb pn Ex).h) fun a => (hs a).h⟩
end
end R
end L2
namespace L2
open PySem PySem.Spec PyProof.Rows
section
variable {X : Cx} {e o : Expr} {es : List Expr} {te to : TE} {t : TA} {pos apos cpos : Pos}
end
namespace R
section
variable {X : Cx} {e o b : Expr} {es : List Expr} {te to tb : TE} {t : TA} {pos apos cpos p1 p2 cp : Pos} {x y z : Str} {j j1 j2 : Nat}
end
end R
end L2
namespace L2
open PySem PySem.Spec PyProof.Rows
theorem bb_ValueError : bootBuiltins "ValueError" = some (.type "ValueError") := by decide +kernel
theorem R.bty {X : Cx} {x : Str} {n : String} {pos : Pos} (hg : Gl X x) (hm : X.mg x = none) (hv : bootBuiltins x = some (.type n)) (hn : x ≠ "__name__" := by decide) (hd : (x == ("__debug__" : Str)) = false := by decide) : XE X (.Name x pos) (tC (.ty n)) := ⟨pe_bltn hg hm hv rfl hn hd⟩
end L2
namespace L2
open PySem PySem.Spec PyProof.Rows
section
variable {X : Cx}
end
end L2
namespace L2
open PySem PySem.Spec PyProof.Rows
section
variable {prog : Program} {w : World} {A : Around} {E : Value → Shared → Prop} {s : Shared}
end
section
variable {X : Cx} {pins : List (Addr × Obj)} {σ : List (Option V)} {H : Hp} {s : Shared} {h' : Heap}
end
section
variable {prog : Program} {w : World} {A : Around} {E : Value → Shared → Prop} {s : Shared}
end
section
variable {X : Cx} {a b : Expr} {ta tb : TE} {p pos tpos : Pos} {es : List Expr} {n : Nat}
end
end L2
namespace L2
open PySem PySem.Spec PyProof.Rows
section
variable {prog : Program} {w : World} {A : Around} {E : Value → Shared → Prop} {s : Shared}
end
section
variable {X : Cx} {e : Expr} {te : TE} {p p2 p3 pos pos2 pos3 : Pos}
end
end L2
namespace L2
open PySem PySem.Spec PyProof.Rows
section
variable {X : Cx}
end
section
variable {prog : Program} {w : World} {A : Around} {E : Value → Shared → Prop} {s : Shared}
end
section
variable {X : Cx}
end
end L2
namespace L2
open PySem PySem.Spec PyProof.Rows
end L2
namespace L2
open PySem PySem.Spec PyProof.Rows
section
variable {X : Cx} {o : Expr} {to : TE} {p pos apos cpos : Pos}
def rSetD : TSet := fun o i v H Q => ∃ a H', o = .ref a ∧ DPut H a i v H' ∧ Q H'
theorem set_dict (hu : X.A.units + 1 < cLine) : PSet X rSetD := by
  intro pins s σ H o i v ov iv u Q I ro ri rv h
  obtain ⟨a, H', rfl, g, q⟩ := h
  cases ro
  exact d_setItem hu I g ri rv fun s' I' => ⟨H', I', q⟩
theorem R.setD (hu : X.A.units + 1 < cLine) : XSet X rSetD := ⟨set_dict hu⟩
end
end L2
namespace L2
open PySem PySem.Spec PyProof.Rows
def putA (prs : List (Str × Int)) (n : Str) (v : Int) : List (Str × Int) := prs.map fun q => if q.1 = n then (q.1, v) else q
theorem keys_putA (prs : List (Str × Int)) (n : Str) (v : Int) : (putA prs n v).map (·.1) = prs.map (·.1) := by
  unfold putA
  rw [List.map_map]
  refine List.map_congr_left fun q _ => ?_
  show (if q.1 = n then (q.1, v) else q).1 = q.1
  split <;> rfl
theorem put_dkv {prs : List (Str × Int)} {n : Str} {v : Int} (h : n ∈ prs.map (·.1)) : putK (dkv prs) (Sum.inr n) (.int v) = dkv (putA prs n v) := by
  unfold putK
  rw [if_pos (by rw [valV_any, dkv_val]; obtain ⟨a, ha⟩ := has_lookup h; rw [ha]; rfl)]
  unfold dkv putA
  rw [List.map_map, List.map_map]
  refine List.map_congr_left fun q _ => ?_
  show (if (Sum.inr q.1 : Key) = Sum.inr n then (Sum.inr q.1, V.int v) else ((Sum.inr q.1 : Key), V.int q.2)) = ((Sum.inr (if q.1 = n then (q.1, v) else q).1 : Key), V.int (if q.1 = n then (q.1, v) else q).2)
  by_cases e : q.1 = n
  · rw [if_pos (by rw [e]), if_pos e]
  · rw [if_neg (fun z => e (Sum.inr.inj z)), if_neg e]
def spInitF (C : Addr) : Sp := fun vs H Q _ => ∃ (p dx : Addr) (r : V) (prs : List (Str × Int)), vs = [.ref p, r] ∧ H p = some (.ins C dx []) ∧ RowsAt H r prs ∧ (prs.map (·.1)).Nodup ∧ prs.length ≤ 1000 ∧
  ∀ H' d, H d = none → H' p = some (.ins C dx [("amounts", .ref d)]) → H' d = some (.dK (dkv prs)) → (∀ b o, H b = some o → b ≠ p → H' b = some o) → Q .non H'
end L2
namespace L2
open PySem PySem.Spec PyProof.Rows
section
variable {X : Cx}
end
end L2
namespace L2
open PySem PySem.Spec PyProof.Rows
section
variable {X : Cx} {a b : Expr} {ta tb : TE} {p pos tpos : Pos} {es : List Expr} {n : Nat}
end
end L2
namespace L2
open PySem PySem.Spec PyProof.Rows
section
variable {X : Cx} {pins : List (Addr × Obj)} {σ : St} {H : Hp} {s : Shared} {A : Around} {E : Value → Shared → Prop}
end
end L2
namespace L2
open PySem PySem.Spec PyProof.Rows
section
variable {X : Cx} {o e f e1 : Expr} {td te ty tx : TE} {p2 pos apos cpos : Pos}
end
end L2
namespace L2
open PySem PySem.Spec PyProof.Rows
section
variable {prog : Program} {w : World} {A : Around} {E : Value → Shared → Prop} {s : Shared}
end
section
variable {X : Cx} {pins : List (Addr × Obj)} {σ : St} {H : Hp} {s : Shared}
end
end L2
namespace L2
open PySem PySem.Spec PyProof.Rows
section
variable {X : Cx} {CX : CXT} {k : Nat} {f C : Addr} {fd : FuncData} {ps : List Str} {sp : Sp} {E : XK} {x ky : Str} {p pos kpos : Pos} {e : Expr} {te : TE} {dvs : List V} {ds : List Value}
end
end L2
namespace L2
open PySem PySem.Spec PyProof.Rows
end L2
namespace L2
open PySem PySem.Spec PyProof.Rows
section
variable {P : Program} {w : World} {K : W.Frag} {mg : Str → Option Value} {base : Heap}
end
section
variable {X : Cx} {x : Str} {n : Nat} {ps : List Str} {sp : Sp} {e : Expr} {es : List Expr} {t : TA} {p pos : Pos}
end
structure MthX (P : Program) (w : World) (K : W.Frag) (mg : Str → Option Value) (base : Heap) (n : Nat) (C : Addr) (m : Str) (ps : List Str) (sp : Sp) : Prop where
  ex : ∃ f fd, Cls K C ∧ Meth K C m f ∧ FnOk P w K mg base (CXf P w) n f fd ps sp ∧ Binds K fd ps []
theorem MethAt.goX {P : Program} {w : World} {K : W.Frag} {mg : Str → Option Value} {base : Heap} {C : Addr} {m qual : Str} {st : Stmt} {N ps : List Str} {k : Nat} {sp : Sp} (D : MethAt K C m qual st ps) (S : FnScope N ps (defScope st)) (len : ∀ vs H Q E, sp vs H Q E → vs.length = ps.length)
    (hbody : ∀ (f : Addr) (cdv : Value) (A : Around) (outer : List Env) (s : Shared) (H : Hp) (vs : List V) (Q : VK) (E : XK), Room k (A.deeper (envOfC qual (defScope st) s.heap.objs.size f cdv)) → sp vs H Q E →
      ∃ t, XB (cxOf (CXf P w) P w K mg base N qual (defScope st) f cdv A outer s H E) (defBody st) t ∧ t { nx := fun _ H' => Q .non H', rt := Q } (start N vs) H) : MthX P w K mg base (k + 1) C m ps sp := by
  obtain ⟨f, fd, F, hm, hb⟩ := D.ex
  refine ⟨f, fd, D.cl, hm, ?_, hb⟩
  obtain ⟨oc, od, kV, doc, pm, an, cdv, ct, osl, rfl, lk, hcd⟩ := F.ex
  refine fn_of lk hcd S len fun A outer s H vs Q E hr hsp => ?_
  obtain ⟨t, h, q⟩ := hbody f cdv A outer s H vs Q E hr hsp
  exact ⟨t, h.h, q⟩
def mMethX (C : Addr) (m : Str) (sp : Sp) (Ex : St → Value → Option Addr → Hp → Prop) (ta : TE) (t : TA) : TE := fun σ H Q => ta σ H fun x H1 => mR x fun a => ∃ dx fs, H1 a = some (.ins C dx fs) ∧ fs.lookup m = none ∧ t σ H1 fun vs H2 => sp (.ref a :: vs) H2 Q (fun cls od H' => Ex σ cls od H')
section
variable {X : Cx} {e o : Expr} {es : List Expr} {m x : Str} {p pos apos : Pos} {ta : TE} {t : TA} {C : Addr} {n : Nat} {ps : List Str} {sp : Sp} {Ex : St → Value → Option Addr → Hp → Prop}
theorem pe_mmethX {pl : Sem Bool} (he : PE X o ta) (c : MthX X.prog X.w X.K X.mg X.base n C m ps sp) (hr : Room n X.A) (hx : Takes X Ex) (ha : PA X (e :: es) t) (hs : notStar e = true) (hpl : (backTo pos (starEach es X.env)).any (·.1) = false)
    (ht : eval (.Call (.Attribute o m apos) (e :: es) [] pos) X.env = (do
      let ov ← eval o X.env
      standAt apos.atName
      let (f, first) ← holding [ov] (getMethod ov m pl)
      callWith pos f first (backTo pos (starEach (e :: es) X.env)) (backToKw pos (keywordEach [] X.env)))) :
    PE X (.Call (.Attribute o m apos) (e :: es) [] pos) (mMethX C m sp Ex ta t) := by
  obtain ⟨f, fd, cl, hm, F, hb⟩ := c.ex
  intro pins s σ H Q I h
  refine W.methodCall_KW (pl := pl) (thn (he pins s σ H _ I h) fun u s1 ⟨x, H1, I1, rx, q1⟩ => ?_) ht
  dsimp only at q1
  rw [mR_eq] at q1
  obtain ⟨a, rfl, dx, fs, ea, l, q⟩ := q1
  obtain rfl : u = Value.ref a := rx
  refine getmeth_ok I1 ea cl hm l ?_
  refine W.callWith_K (first := [.ref a]) (h₀ := X.base) I.ok.mod.kin hm.kp (thn (ha pos pins s1 σ H1 _ I1 q) fun us s2 ⟨vs, H2, I2, r, q2⟩ => ⟨I2.kIn, ?_⟩) (star_cons hs) hpl
  have r2 : Vals (V.ref a :: vs) (Value.ref a :: us) := .cons rfl r
  have hl : (Value.ref a :: us).length = ps.length := by rw [← r2.length]; exact F.len _ _ _ _ q2
  have hb' := hb s2 (Value.ref a :: us) I2.kIn (by rw [List.append_nil]; exact hl)
  rw [List.append_nil] at hb'
  refine wpAny_call (codeAny_mono (F.run X.A X.stack s2 H2 ⟨Value.ref a :: us, []⟩ (Value.ref a :: us) (V.ref a :: vs) Q _ hr I2.env0 hb' r2 q2) fun rs s' hq => ?_)
  cases rs with
  | error e' => exact hx pins σ H2 s2 e' s' I2 hq
  | ok fl =>
    cases fl with
    | ret u => exact I2.after hq
    | next => exact False.elim hq
    | brk => exact False.elim hq
    | cont => exact False.elim hq
namespace R
theorem methX {pl : Sem Bool} (c : MthX X.prog X.w X.K X.mg X.base n C m ps sp) (hr : Room n X.A) (hx : Takes X Ex) (he : XE X o ta) (ha : XA X (e :: es) t) (hs : notStar e = true := by rfl) (h2 : es.all notStar = true := by rfl)
    (ht : eval (.Call (.Attribute o m apos) (e :: es) [] pos) X.env = (do
      let ov ← eval o X.env
      standAt apos.atName
      let (f, first) ← holding [ov] (getMethod ov m pl)
      callWith pos f first (backTo pos (starEach (e :: es) X.env)) (backToKw pos (keywordEach [] X.env))) := by rfl) : XE X (.Call (.Attribute o m apos) (e :: es) [] pos) (mMethX C m sp Ex ta t) := ⟨pe_mmethX he.h c hr hx ha.h hs (star_any h2) ht⟩
end R
end
end L2
namespace L2
open PySem PySem.Spec PyProof.Rows
section
variable {X : Cx} {pins : List (Addr × Obj)} {σ : St} {H : Hp} {s : Shared} {a : Addr} {o : Obj} {kvs : List (Key × V)}
end
namespace R
section
variable {X : Cx} {tg l : Expr} {tl : TE} {apos cpos : Pos} {e : Stmt} {t : TS}
end
end R
end L2
namespace L2
open PySem PySem.Spec PyProof.Rows
section
variable {P : Program} {w : World} {K : W.Frag} {mg : Str → Option Value} {base : Heap} {N : List Str} {qual : Str} {scope : Scope} {f : Addr} {cd : Value} {A : Around} {outer : List Env} {s : Shared} {H : Hp} {E : XK}
theorem passes_cx : PassesOwn (model P w) (cxOf (CXf P w) P w K mg base N qual scope f cd A outer s H E).A (cxOf (CXf P w) P w K mg base N qual scope f cd A outer s H E).env (cxOf (CXf P w) P w K mg base N qual scope f cd A outer s H E).xe := by
  unfold cxOf
  dsimp only
  passes_own
end
end L2
namespace L2
open PySem PySem.Spec PyProof.Rows
section
variable {prog : Program} {w : World} {K : Type} [DecidableEq K] {knd : HeapKind prog w K} {A : Around} {E : Value → Shared → Prop} {s : Shared} {d a : Addr} {k : K}
variable (knd)
end
section
variable {X : Cx} {pins : List (Addr × Obj)} {σ : St} {H : Hp} {s : Shared} {a b : Addr} {kvs : List (List Key × V)} {k : List Key} {A : Around} {E : Value → Shared → Prop}
end
section
variable {X : Cx} {o e f : Expr} {apos cpos : Pos} {td ty tx : TE}
end
end L2
namespace L2
open PySem PySem.Spec PyProof.Rows
section
variable {X : Cx}
end
section
variable {κ : Type} [DecidableEq κ]
end
section
variable {H H' : Hp} {kvs : List (List Key × V)} {m m' : KM} {f : KE → Option (List V)} {L : Nat} {q : Str × Str}
end
section
variable {C : Addr} {H H' : Hp} {p : Addr} {a : KF} {life : Int} {m : KM} {L : Nat}
end
end L2
namespace L2
open PySem PySem.Spec PyProof.Rows
end L2
namespace L2
open PySem PySem.Spec PyProof.Rows
section
variable {X : Cx} {K : W.Frag} {a b : Expr} {rest : List Expr} {ta tb : TE} {pos : Pos}
end
end L2
namespace L2
open PySem PySem.Spec PyProof.Rows
end L2
namespace L2
open PySem PySem.Spec PyProof.Rows
section
variable {prog : Program} {w : World} {A : Around} {E : Value → Shared → Prop} {s : Shared} {u d : Addr} {i n ep : Nat} {od : Obj} {es : Array DictEntry}
end
end L2
namespace L2
open PySem PySem.Spec PyProof.Rows
section
variable {prog : Program} {w : World} {A : Around} {E : Value → Shared → Prop} {s : Shared}
end
section
variable {X : Cx} {pins : List (Addr × Obj)} {σ : St} {H : Hp} {s : Shared}
end
end L2
namespace L2
open PySem PySem.Spec PyProof.Rows
section
variable {X : Cx} {pins : List (Addr × Obj)} {σ : St} {H : Hp} {s : Shared} {a : Addr} {o : Obj} {kvs : List (List Key × V)}
end
namespace R
section
variable {X : Cx} {tg l e1 : Expr} {tl te : TE} {e : Stmt} {t : TS}
end
end R
end L2
namespace L2
open PySem PySem.Spec PyProof.Rows
section
variable {prog : Program} {w : World} {A : Around} {E : Value → Shared → Prop} {s : Shared} {u v d : Addr} {i n ep : Nat} {od : Obj} {es : Array DictEntry} {ok ov : Value}
end
end L2
namespace L2
open PySem PySem.Spec PyProof.Rows
section
variable {X : Cx} {pins : List (Addr × Obj)} {σ : St} {H : Hp} {s : Shared} {a : Addr} {o : Obj} {kvs : List (List Key × V)}
end
end L2
namespace L2
open PySem PySem.Spec PyProof.Rows
section
variable {prog : Program} {w : World} {A : Around} {E : Value → Shared → Prop} {h : Heap} {g : Array GenState} {d : Drawn} {t : Nat} {os : OsState}
variable {nm q : Str} {C N : Addr} {bs bm bmB : List Value} {hdct : Bool} {sn : List Str} {sub : List Value} {ab : Bool} {col : Option Bool} {dd : Option Addr} {k0 k1 k2 k3 k5 : Option Value} {B newId initId : String}
abbrev excNew (C t : Addr) : Obj := { cls := .ref C, data := .fields #[.ref t, .none, .none, .none, .bool false, .none] }
abbrev heapX (h : Heap) (C : Addr) (rest : List Value) : Heap := (h.push { cls := .type "tuple", data := .seq rest.toArray }).push (excNew C h.objs.size)
theorem heapX_keep {rest : List Value} {b : Addr} {o : Obj} (e : h.get? b = some o) : (heapX h C rest).get? b = some o := Heap.get?_push_of_some _ (Heap.get?_push_of_some _ e)
theorem heapX_at {rest : List Value} : (heapX h C rest).get? (h.objs.size + 1) = some (excNew C h.objs.size) := by
  have := Heap.get?_push_size (h.push { cls := .type "tuple", data := .seq rest.toArray }) (o := excNew C h.objs.size) rfl
  rwa [Heap.size_push] at this
theorem tcall_initT (F : ExcBaseFacts B newId initId bmB) (T : OwnTail h bmB bm) {mN : Str → Option Value} {rest : List Value} {fI : Addr} {oI : Obj} {Q : Fin → Shared → Prop}
    (hC : h.get? C = some (excClassObj nm q C N bs bm hdct sn sub ab col dd k0 k1 k2 k3 k5 newId)) (hn : h.Ns N mN) (hi : mN "__init__" = some (.ref fI)) (hfI : h.get? fI = some oI) (hfc : oI.cls = .type "function")
    (go : wpAny (model prog w) A (call (.ref fI) (.ref (h.objs.size + 1) :: rest)) (fun r s' => r = .none ∧ Q (.done (.ret (.ref (h.objs.size + 1)))) s') E ⟨heapX h C rest, g, d, t, os⟩) (hrest : rest.length ≤ sizeLine) :
    wpAny (model prog w) A (Builtin.«type.__call__» ⟨.ref C :: rest, []⟩) Q E ⟨h, g, d, t, os⟩ := by
  repeat (first | with_reducible refine wpAny_loadPart_at hC ?_ | with_reducible refine wpAny_madeBy_exc hC ?_ | wp_step)
  refine codeAny_call_builtin_code (Code.quiet_builtin _ F.quiet) (wpAny_check_new_subT F T hC (codeAny_exc_new_subT F T hC ?_ hrest)); show wpAny _ _ _ _ _ _
  have cx : (heapX h C rest).get? C = _ := heapX_keep hC; have fx : (heapX h C rest).get? fI = _ := heapX_keep hfI; have nx : (heapX h C rest).Ns N mN := let ⟨o, es, ep, e, r⟩ := hn; ⟨o, es, ep, heapX_keep e, r⟩
  have gx : (heapX h C rest).get? (h.objs.size + 1) = some (excNew C h.objs.size) := heapX_at; have me : (Value.ref C :: bm).contains (.ref C) = true := by simp
  have tx := T.keeps (h' := heapX h C rest) fun b o e => heapX_keep e; unfold isInstance
  repeat (first | with_reducible refine wpAny_loadPart_at gx ?_ | (with_reducible refine wpAny_isSubtype_exc cx ?_; rw [me]) | wp_step)
  show wpAny _ _ (typeLookup (.ref C) _) _ _ _; refine wpAny_typeLookup_tail cx nx tx F.mroIs F.init.lookup ?_; rw [hi]; refine wpAny_holding (wpAny_bind ?_); unfold bindSpecial
  refine wpAny_bind (wpAny_typeOf (T := "function") ⟨_, fx, hfc⟩ ?_); rw [if_pos (by decide)]; refine wpAny_pure (wpAny_bind (wpAny_mono go (fun r s' hr => ?_) fun _ _ x => x)); obtain ⟨rfl, hQ⟩ := hr
  wp_walk; exact hQ
theorem call_initT (F : ExcBaseFacts B newId initId bmB) (T : OwnTail h bmB bm) {mN : Str → Option Value} {rest : List Value} {fI : Addr} {oI : Obj} {Q : Value → Shared → Prop}
    (hC : h.get? C = some (excClassObj nm q C N bs bm hdct sn sub ab col dd k0 k1 k2 k3 k5 newId)) (hn : h.Ns N mN) (hi : mN "__init__" = some (.ref fI)) (hfI : h.get? fI = some oI) (hfc : oI.cls = .type "function")
    (go : wpAny (model prog w) (A.under (.builtin "type.__call__" ⟨.ref C :: rest, []⟩)) (call (.ref fI) (.ref (h.objs.size + 1) :: rest)) (fun r s' => r = .none ∧ Q (.ref (h.objs.size + 1)) s') E ⟨heapX h C rest, g, d, t, os⟩) (hrest : rest.length ≤ sizeLine) :
    wpAny (model prog w) A (call (.ref C) rest) Q E ⟨h, g, d, t, os⟩ := by
  have f1 := tc_lookup; have f2 := tc_bind (.ref C); have hT : (⟨h, g, d, t, os⟩ : Shared).TypeIs (.ref C) "type" := ⟨_, hC, rfl⟩
  refine wpAny_call (codeAny_of_tree ?_); show wpAny _ _ (callAny (.ref C) _) _ _ _
  repeat (any_goals (first | assumption | with_reducible refine wpAny_loadPart_at hC ?_ | wp_step))
  refine ⟨rfl, codeAny_call_builtin_at (Code.quiet_builtin _ (by decide +kernel)) entry_typeCall (wpAny_check_type_call_sub hC (tcall_initT F T hC hn hi hfI hfc ?_ hrest))⟩; exact go
end
end L2
namespace L2
open PySem PySem.Spec PyProof.Rows
section
variable {prog : Program} {w : World} {A : Around} {E : Value → Shared → Prop} {s : Shared} {env : Env}
variable {nm q : Str} {C N : Addr} {bs bm bmB : List Value} {hdct : Bool} {sn : List Str} {sub : List Value} {ab : Bool} {col : Option Bool} {dd : Option Addr} {k0 k1 k2 k3 k5 : Option Value} {B newId initId : String}
theorem raise_any {x : Sem Value} {Q : Flow → Shared → Prop} (hb : bm.contains (.type "BaseException") = true) (hh : A.handled = none)
    (h : wpAny (model prog w) A x (fun v s1 => ∃ e t dx sl, v = .ref e ∧ s1.heap.get? C = some (excClassObj nm q C N bs bm hdct sn sub ab col dd k0 k1 k2 k3 k5 newId) ∧
      s1.heap.get? e = some { cls := .ref C, dict := dx, data := .fields #[.ref t, .none, .none, .none, .bool false, .none], slots := sl } ∧ E (.ref e) s1) E s) : wpAny (model prog w) A (raiseStmt env (some x) none) Q E s := by
  have cB : (Value.ref C :: bm).contains (.type "BaseException") = true := by rw [List.contains_cons, hb, Bool.or_true]
  unfold raiseStmt; refine wpAny_bind (wpAny_mono h (fun v s1 h1 => ?_) fun _ _ x => x); obtain ⟨e, t, dx, sl, rfl, hC, he, hE⟩ := h1; obtain ⟨hp, g, d, tk, os⟩ := s1
  repeat (first | with_reducible refine wpAny_loadPart_at he ?_ | with_reducible refine wpAny_loadPart_at hC ?_ | (with_reducible refine wpAny_isSubtype_exc hC ?_; rw [cB]) | wp_step)
  exact wpAny_raiseNew_none hh hE
theorem raise_initT (F : ExcBaseFacts B newId initId bmB) {mN : Str → Option Value} {x : Str} {np cpos pos : Pos} {args : List Expr} {fI : Addr} {oI : Obj} {Q : Flow → Shared → Prop}
    (hb : bm.contains (.type "BaseException") = true) (hh : A.handled = none) (hp : (backTo cpos (starEach args env)).any (·.1) = false) (hi : mN "__init__" = some (.ref fI)) (hfc : oI.cls = .type "function")
    (h : wpAny (model prog w) A (eval (.Name x np) env) (fun f s1 => f = .ref C ∧ wpAny (model prog w) A (evalArgs (.ref C) true (backTo cpos (starEach args env)) [])
      (fun a s2 => a.kw = [] ∧ a.pos.length ≤ sizeLine ∧ s2.heap.get? C = some (excClassObj nm q C N bs bm hdct sn sub ab col dd k0 k1 k2 k3 k5 newId) ∧ s2.heap.Ns N mN ∧ OwnTail s2.heap bmB bm ∧ s2.heap.get? fI = some oI ∧
        wpAny (model prog w) (A.under (.builtin "type.__call__" ⟨.ref C :: a.pos, []⟩)) (call (.ref fI) (.ref (s2.heap.objs.size + 1) :: a.pos)) (fun r s' => r = .none ∧ ∃ t dx sl, s'.heap.get? C = some (excClassObj nm q C N bs bm hdct sn sub ab col dd k0 k1 k2 k3 k5 newId) ∧
          s'.heap.get? (s2.heap.objs.size + 1) = some { cls := .ref C, dict := dx, data := .fields #[.ref t, .none, .none, .none, .bool false, .none], slots := sl } ∧ E (.ref (s2.heap.objs.size + 1)) s') E { s2 with heap := heapX s2.heap C a.pos }) E s1) E s) :
    wpAny (model prog w) A (exec (.Raise (some (.Call (.Name x np) args [] cpos)) none pos) env) Q E s := by
  rw [arm_exec_Raise]
  simp only [evalOpt, Option.map]
  refine wpAny_bind (wpAny_standAt (raise_any (C := C) (nm := nm) (q := q) (N := N) (bs := bs) (bm := bm) (hdct := hdct) (sn := sn) (sub := sub) (ab := ab) (col := col) (dd := dd) (k0 := k0) (k1 := k1) (k2 := k2) (k3 := k3) (k5 := k5) (newId := newId) hb hh (wpAny_bind (wpAny_mono (wpAny_Call_ofName (wpAny_mono h (fun f s1 h1 => ?_) fun _ _ x => x)) (fun v s3 h3 => wpAny_bind (wpAny_standAt (wpAny_pure h3))) fun _ _ x => x))))
  obtain ⟨rfl, h1⟩ := h1
  unfold callWith; refine wpAny_bind (wpAny_holding (wpAny_mono h1 (fun a s2 h2 => wpAny_bind (wpAny_standAt ?_)) fun _ _ x => x))
  obtain ⟨ap, ak⟩ := a; obtain ⟨hkw, hlen, hC, hn, T, hf, h2⟩ := h2; obtain rfl : ak = [] := hkw; obtain ⟨hp', g, d, tk, os⟩ := s2
  simp only [hp]; refine wpAny_bind (wpAny_keeperOf_exc hC (wpAny_bind (call_initT F T hC hn hi hf hfc (wpAny_mono h2 (fun r s' hr => ⟨hr.1, wpAny_bind (wpAny_holding (wpAny_point (wpAny_pure ?_)))⟩) fun _ _ x => x) hlen)))
  obtain ⟨t, dx, sl, g1, g2, g3⟩ := hr.2
  exact ⟨_, t, dx, sl, rfl, g1, g2, g3⟩
end
end L2
namespace L2
open PySem PySem.Spec PyProof.Rows
def excMro : List Value → Bool
  | .ref _ :: r => excMro r
  | [.type a, .type b, .type c, .type d] => a == "ValueError" && b == "Exception" && c == "BaseException" && d == "object"
  | _ => false
theorem excMro_passes (v : Value) : ∀ {l : List Value}, excMro l = true → refuseLoop v "__setattr__" l = pure () ∧ l.contains (.type "object") = true
  | .ref _ :: r, h => by
    have := excMro_passes v (l := r) h
    exact ⟨by rw [refuseLoop_ref]; exact this.1, by rw [List.contains_cons, this.2, Bool.or_true]⟩
  | [.type a, .type b, .type c, .type d], h => by
    simp only [excMro, Bool.and_eq_true, beq_iff_eq] at h
    obtain ⟨⟨⟨rfl, rfl⟩, rfl⟩, rfl⟩ := h
    exact ⟨PySem.F.store_ValueError.passes v, by decide⟩
def excOver (K : W.Frag) (C : Addr) : Bool := (W.clsIn K C).any fun cd => excMro cd.mro && cd.hasDict
section
variable {prog : Program} {w : World} {A : Around} {E : Value → Shared → Prop} {s : Shared} {K : W.Frag} {C x t : Addr} {name : Str} {v : Value}
theorem setX {Q : Unit → Shared → Prop} (X : K.In s.heap) (gx : s.heap.get? x = some (excNew C t)) (hs : W.findIn K (.ref C) "__setattr__" = some (some (.builtin "object.__setattr__"))) (ho : excOver K C = true) (ht : W.takerIn K C name = some none)
    (h : ∀ h' tk', h'.get? x = some { excNew C t with dict := some s.heap.objs.size } → (∀ b o, b ≠ x → s.heap.get? b = some o → h'.get? b = some o) → h'.Ns1 s.heap.objs.size (fun y => if y = name then some v else none) → Q () { s with heap := h', toks := tk' }) :
    wpAny (model prog w) A (setAttr (.ref x) name v) Q E s := by
  have J : W.InstAt s.heap x (excNew C t) C none := ⟨gx, rfl, rfl, True.intro⟩
  obtain ⟨cd, hc, hm⟩ := W.any_some ho
  obtain ⟨hm, hdd⟩ := Bool.and_eq_true _ _ ▸ hm
  refine W.set_plain X J hs ?_
  have SF := PySem.F.store_object
  obtain ⟨p1, p2⟩ := excMro_passes (.ref x) hm
  have ne : cd.mro.isEmpty = false := by cases q : cd.mro with | nil => (rw [q] at p2; cases p2) | cons _ _ => rfl
  have sub : W.Looks (model prog w) s.heap (isInstance (.ref x) (.type "object")) true := J.type.andThen (W.looks_mroIn X (by unfold W.mroIn; rw [hc, Option.bind_some, if_neg (by rw [ne]; decide), p2]))
  have lm : W.Looks (model prog w) s.heap (mroOf (.ref C)) cd.mro := (W.looks_clsIn X hc).andThen .now
  obtain ⟨attr, ha, hr⟩ := Option.bind_eq_some_iff.mp ht
  have l3 : W.Looks (model prog w) s.heap (Builtin.ObjectAttr.storeTaker? attr) none := by
    cases attr with
    | none => cases hr; exact .now
    | some a =>
      obtain ⟨b, hb, e⟩ := Option.map_eq_some_iff.mp hr
      refine (W.looks_takesIn X hb).andThen ?_
      cases b with
      | true => cases e
      | false => exact .now
  refine codeAny_call_builtin SF.slot.plain SF.entry (@W.check_slot (model prog w) _ _ { s with toks := s.toks + 1 } "object.__setattr__" "object" "__setattr__" (.ref x) [.str name s.toks, v] [] _ SF.kind SF.split sub (SF.args (.ref x) (.str name s.toks) v) ?_)
  rw [W.osa_eq, refuse_eq]
  refine wpAny_bind (wpAny_bind (W.Looks.here (s := { s with toks := s.toks + 1 }) J.type (wpAny_bind (W.Looks.here (s := { s with toks := s.toks + 1 }) lm ?_))))
  rw [p1]
  refine wpAny_pure (wpAny_bind (W.Looks.here (s := { s with toks := s.toks + 1 }) J.type (wpAny_bind (W.Looks.here (s := { s with toks := s.toks + 1 }) (W.looks_findIn X ha) (wpAny_bind (W.Looks.here (s := { s with toks := s.toks + 1 }) l3 ?_))))))
  refine wpAny_bind (wpAny_pure (wpAny_bind (wpAny_bind (wpAny_loadPart (s := { s with toks := s.toks + 1 }) gx (wpAny_bind (W.Looks.here (s := { s with toks := s.toks + 1 }) (W.looks_clsIn X hc) ?_))))))
  rw [hdd]
  have hxs : x ≠ s.heap.objs.size := Nat.ne_of_lt (Heap.lt_size gx)
  have g1 : (s.heap.push { cls := .type "dict", data := .dict #[] }).get? x = some (excNew C t) := Heap.get?_push_of_some _ gx
  refine wpAny_bind (wpAny_alloc' ?_)
  refine wpAny_bind (wpAny_update' g1 ?_)
  have gd : ((s.heap.push { cls := .type "dict", data := .dict #[] }).update x fun o => { o with dict := some s.heap.objs.size }).get? s.heap.objs.size = some { cls := .type "dict", data := .dict #[] } := (Heap.get?_update_ne _ _ _ _ hxs.symm).trans (Heap.get?_push_at rfl rfl)
  have nd : ((s.heap.push { cls := .type "dict", data := .dict #[] }).update x fun o => { o with dict := some s.heap.objs.size }).Ns s.heap.objs.size (fun _ => none) := ⟨_, #[], _, gd, rfl, fun e he => absurd he (by simp), fun _ => rfl⟩
  refine wpAny_pure ?_
  show wpAny _ _ (Builtin.ObjectAttr.storeInDict s.heap.objs.size (.str name s.toks) name v) _ _ _
  unfold Builtin.ObjectAttr.storeInDict Builtin.ObjectAttr.newKeyGuard; refine wpAny_bind (wpAny_pure (wpAny_bind (wpAny_nsSet1 (Heap.Ns1.of_empty nd) fun h' n1 b1 => ?_)))
  obtain ⟨oD, eD, pD, q1, q2, q3⟩ := n1.count (Within.cons name v Within.nil)
  refine wpAny_bind (wpAny_lookBehind q1 (by rw [q2]; exact pastItsLine_dict (Nat.le_trans q3 (by rw [List.length_cons, List.length_nil, sizeLine_eq]; omega))) (wpAny_pure ?_))
  refine h h' _ ((b1.2 x hxs).trans (Heap.get?_update_self _ g1 rfl)) (fun b o hb e => ?_) n1
  exact (b1.2 b (Nat.ne_of_lt (Heap.lt_size e))).trans ((Heap.get?_update_ne _ _ _ _ hb).trans (Heap.get?_push_of_some _ e))
end
end L2
namespace L2
open PySem PySem.Spec PyProof.Rows
def XN (e C t : Addr) : Heap → Prop := fun h => h.get? e = some (excNew C t)
def XE' (e C t dx : Addr) : Heap → Prop := fun h => h.get? e = some { excNew C t with dict := some dx }
structure XAtt (K : W.Frag) (C : Addr) (f : Str) : Prop where
  sa : W.findIn K (.ref C) "__setattr__" = some (some (.builtin "object.__setattr__"))
  ov : excOver K C = true
  tk : W.takerIn K C f = some none
section
variable {X : Cx} {pins : List (Addr × Obj)} {σ : St} {H : Hp} {s : Shared} {a e C t : Addr} {φ : Heap → Prop}
theorem xn_ok {P : Program} {w : World} {h : Heap} (g : h.get? e = some (excNew C t)) : ObjOk P w H h e (.ext (XN e C t)) := ⟨g, ⟨_, g⟩, fun _ _ q k => k _ q⟩
theorem xe_ok {P : Program} {w : World} {h : Heap} {dx : Addr} (g : h.get? e = some { excNew C t with dict := some dx }) : ObjOk P w H h e (.ext (XE' e C t dx)) := ⟨g, ⟨_, g⟩, fun _ _ q k => k _ q⟩
theorem Inv.drop (I : Inv X pins σ (upd H a (.ext φ)) s) (na : H a = none) : Inv X pins σ H s := by
  have back : ∀ b u, (upd H a (.ext φ)) b = some u → (∀ ψ, u ≠ .ext ψ) → H b = some u := fun b u q n => by
    by_cases z : b = a
    · rw [z, upd_same] at q; cases q; exact absurd rfl (n φ)
    · rw [upd_ne z] at q; exact q
  have none' : ∀ b, (upd H a (.ext φ)) b = none → H b = none := fun b q => by
    by_cases z : b = a
    · rw [z, upd_same] at q; cases q
    · rw [upd_ne z] at q; exact q
  refine ⟨I.ok, I.os, I.bare, ⟨I.base.keep, I.base.slot, fun b ob q n hx => none' _ (I.base.free b ob q n hx), I.base.there, fun b xs q => back _ _ (I.base.tups b xs q) (fun _ z => nomatch z), fun b ob u q => back _ _ (I.base.frzs b ob u q) (fun _ z => nomatch z), fun b ps q => ?_⟩, I.loc, I.cell, none' _ I.free, fun x c h => none' _ (I.freeC x c h), fun p hp => ?_, fun b u q => ?_, I.len⟩
  · obtain ⟨more, z⟩ := I.base.tbls b ps q
    exact ⟨more, back _ _ z (fun _ z => nomatch z)⟩
  · obtain ⟨p1, p2, p3⟩ := I.pin p hp
    exact ⟨p1, none' _ p2, p3⟩
  · have nb : b ≠ a := ne_of_none q na
    exact (I.hok b u (by rw [upd_ne nb]; exact q)).stay (fun c v _ h => h) (fun c h => back _ _ h (fun _ z => nomatch z)) fun c xs h => back _ _ h (fun _ z => nomatch z)
variable {o value : Expr} {f : Str} {pos pos' : Pos} {ta tv : TE} {K : W.Frag}
def mSFldX (K : W.Frag) (ta tv : TE) (f : Str) : TS := fun D σ H => tv σ H fun y H1 => ta σ H1 fun x H2 => mR x fun e => ∃ C t, H2 e = some (.ext (XN e C t)) ∧ XAtt K C f ∧ ∀ dx, H2 dx = none → dx ≠ e → D.nx σ (upd (upd H2 dx (.xd [(f, y)])) e (.ext (XE' e C t dx)))
theorem ps_mfldX (ha : PE X o ta) (hv : PE X value tv) (hs : swapsWith value (some (.Attribute o f pos')) pos.line X.env = pure false) : PS X (.Assign [.Attribute o f pos'] value pos) (mSFldX X.K ta tv f) := by
  intro pins s σ H D I h
  refine plainObj_wpAny_Assign_Attribute (thn (hv pins s σ H _ I h) fun u s1 ⟨y, H1, I1, ry, q⟩ => thn (ha pins s1 σ H1 _ I1 q) fun ov s2 ⟨x, H2, I2, rx, q1⟩ => ?_) hs
  dsimp only at q1
  rw [mR_eq] at q1
  obtain ⟨a, rfl, C, t, ea, c, q2⟩ := q1
  obtain rfl : ov = Value.ref a := rx
  have gx : s2.heap.get? a = some (excNew C t) := (show ObjOk X.prog X.w H2 s2.heap a (.ext (XN a C t)) from I2.hok a _ ea).1
  refine setX I2.kIn gx c.sa c.ov c.tk fun h' tk' g1 k n1 => ?_
  have n2 : H2 s2.heap.objs.size = none := I2.hok.fresh (Nat.le_refl _)
  have nx : s2.heap.objs.size ≠ a := (ne_of_none ea n2).symm
  obtain ⟨oD, eD, pD, d1, d2⟩ := id n1
  have gD : (s2.heap.push oD).get? s2.heap.objs.size = some oD := Heap.get?_push_size _ (Heap.get?_some_iff.mp d1).2
  have I3 := I2.laid (a := s2.heap.objs.size) (o := .xd [(f, y)]) (t' := tk') (h' := s2.heap.push oD) (fun b u q => Heap.get?_push_of_some _ q) (Nat.le_refl _) ⟨_, ⟨oD, eD, pD, gD, d2⟩, fun g => ?_⟩
  · have I4 := I3.write (x := a) (e := a) (o := .ext (XE' a C t s2.heap.objs.size)) (t' := tk') (h' := h') (by rw [upd_ne nx.symm, ea]; exact True.intro) (.inl rfl) (fun b u hb q => ?_) ⟨_, g1⟩ (xe_ok g1)
    · exact ⟨σ, _, I4, q2 _ n2 nx⟩
    · by_cases z : b = s2.heap.objs.size
      · rw [z, show (s2.heap.push oD).get? s2.heap.objs.size = some oD from gD] at q
        cases q
        rw [z]; exact d1
      · refine k b u hb ?_
        have lt : b < (s2.heap.push oD).objs.size := Heap.lt_size q
        rw [Heap.size_push] at lt
        rw [Heap.get?_push_ne] at q
        · exact q
        · omega
  · show RelO (List.lookup g [(f, y)]) (if g = f then some u else none)
    by_cases z : g = f
    · rw [z, if_pos rfl, List.lookup_cons, beq_self_eq_true]; exact ry
    · rw [if_neg z, List.lookup_cons, beq_eq_false_iff_ne.mpr z]; exact trivial
theorem R.ksfldX (ha : XE X o ta) (hv : XE X value tv) (hK : X.K = K := by rfl) (hs : swapsWith value (some (.Attribute o f pos')) pos.line X.env = pure false := by rfl) : XS X (.Assign [.Attribute o f pos'] value pos) (mSFldX K ta tv f) := hK ▸ ⟨ps_mfldX ha.h hv.h hs⟩
end
end L2
namespace L2
open PySem PySem.Spec PyProof.Rows
def excInI (K : W.Frag) (C fI : Addr) (bmB : List Value) (newId : String) : Bool := match K.lookup C with
  | some ⟨.type "type", _, .cls cd, sl⟩ => (match cd.mro, sl.toList with
    | .ref C' :: bm, [_, _, _, _, some (.builtin n), _] => C' == C && n == newId && !cd.hasDel && W.tailIn K bmB bm && W.nsOkIn K cd.ns && (match W.nsIn K cd.ns "__init__" with | some (some (.ref f)) => f == fI | _ => false)
    | _, _ => false)
  | _ => false
structure XClsI (K : W.Frag) (mg : Str → Option Value) (x : Str) (C fI : Addr) : Prop where
  at_ : mg x = some (.ref C)
  ok : excInI K C fI mroVE "ValueError.__new__" = true
theorem ns_some_of {K : W.Frag} {h : Heap} {N : Addr} {mg : Str → Option Value} {n : Str} {v : Value} (X : K.In h) (G : h.Ns N mg) (e : W.nsIn K N n = some (some v)) : mg n = some v := by
  obtain ⟨o, es, ep, ho, hd, _, hf⟩ := G
  unfold W.nsIn at e
  split at e
  · rename_i c d es' n' sl q
    have z := X _ _ q
    rw [ho] at z; cases z; cases hd
    split at e
    · rename_i en he
      cases e
      rw [← hf]; unfold nsFind findBy; rw [← Array.find?_toList, he]; rfl
    · split at e <;> cases e
  · cases e
theorem XClsI.obj {K : W.Frag} {mg : Str → Option Value} {x : Str} {C fI : Addr} {h : Heap} (c : XClsI K mg x C fI) (X : K.In h) :
    ∃ bm N nm q bs hdct sn sub ab col dd k0 k1 k2 k3 k5 mN, h.get? C = some (excClassObj nm q C N bs bm hdct sn sub ab col dd k0 k1 k2 k3 k5 "ValueError.__new__") ∧ h.Ns N mN ∧ mN "__init__" = some (.ref fI) ∧ OwnTail h mroVE bm := by
  have q := c.ok
  unfold excInI at q
  split at q
  · rename_i dd cd sl ho
    split at q
    · rename_i C' bm k0 k1 k2 k3 n k5 hm hs
      simp only [Bool.and_eq_true, beq_iff_eq, Bool.not_eq_true'] at q
      obtain ⟨⟨⟨⟨⟨e1, e2⟩, hdel⟩, ht⟩, hok⟩, hni⟩ := q
      subst e1 e2
      obtain ⟨nm, bs, mro, ns, qn, hd, sn, sub, ab, col, del⟩ := cd
      dsimp only at hm hdel hok hni
      subst hm hdel
      have hsl : sl = #[k0, k1, k2, k3, some (.builtin "ValueError.__new__"), k5] := by
        obtain ⟨l⟩ := sl
        simp only at hs
        rw [hs]
      subst hsl
      refine ⟨bm, ns, nm, qn, bs, hd, sn, sub, ab, col, dd, k0, k1, k2, k3, k5, _, X _ _ ho, .of_isNs (W.isNs_of_in X hok), ?_, W.tail_of_in X ht⟩
      split at hni
      · rename_i f hf
        rw [← eq_of_beq hni]
        exact ns_some_of X (.of_isNs (W.isNs_of_in X hok)) hf
      · cases hni
    · cases q
  · cases q
def LeavesH (X : Cx) (E : XK) : Prop := ∀ (pins : List (Addr × Obj)) (σ0 σ : St) (H0 H : Hp) (s s3 : Shared) (e t : Addr) (cls : Value) (dx : Option Addr), Inv X pins σ0 H0 s → s.heap.get? e = none → H e = none → Inv X pins σ H s3 → s3.heap.get? e = some { cls := cls, dict := dx, data := .fields #[.ref t, .none, .none, .none, .bool false, .none] } → E cls dx H → X.xe (.ref e) s3
theorem fly_here {pins : List (Addr × Obj)} {σ0 σ : St} {cls : Value} {P : Program} {w : World} {K : W.Frag} {mg : Str → Option Value} {base : Heap} {N : List Str} {qual : Str} {scope : Scope} {f : Addr} {cd : Value} {A : Around} {outer : List Env} {s s0 s1 : Shared} {H H0 H1 : Hp} {E : XK} {e t : Addr} {dx : Option Addr}
    (I0 : Inv (cxOf (CXf P w) P w K mg base N qual scope f cd A outer s H E) pins σ0 H0 s0) (n0 : s0.heap.get? e = none) (he1 : H1 e = none) (I : Inv (cxOf (CXf P w) P w K mg base N qual scope f cd A outer s H E) pins σ H1 s1) (hf : (envOfC qual scope s.heap.objs.size f cd).frame = some (envOfC qual scope s.heap.objs.size f cd).locals)
    (he : s1.heap.get? e = some { cls := cls, dict := dx, data := .fields #[.ref t, .none, .none, .none, .bool false, .none] }) (q : E cls dx H1) :
    (cxOf (CXf P w) P w K mg base N qual scope f cd A outer s H E).xe (.ref e) s1 := by
  have und : Un (frs outer) [] H H1 s.heap s1.heap := I.base
  have und0 : Un (frs outer) [] H H0 s.heap s0.heap := I0.base
  have fr0 : ∀ b ∈ frs outer, H b = none ∧ ∃ o, s.heap.get? b = some o ∧ ∀ vs, o.data ≠ .fields vs := fun b hb => ⟨I.ok.frf b hb, (I.ok.funs.mem hb).2⟩
  have st : (cxOf (CXf P w) P w K mg base N qual scope f cd A outer s H E).stack = envOfC qual scope s.heap.objs.size f cd :: outer := rfl
  have nL : s.heap.get? (envOfC qual scope s.heap.objs.size f cd).locals = none := Heap.get?_none_of_le I.ok.above
  have ne0 : s.heap.get? e = none := by
    cases z : s.heap.get? e with
    | none => rfl
    | some ob =>
      obtain ⟨o', y⟩ := und0.there e ob z (by simp)
      rw [n0] at y
      cases y
  have hin : ∀ env ∈ (envOfC qual scope s.heap.objs.size f cd :: outer), ∀ b, env.frame = some b → b ∈ frs (envOfC qual scope s.heap.objs.size f cd :: outer) ++ [e] := fun env he b hb => List.mem_append_left _ (frs_mem he hb)
  have hh : ∀ b ∈ frs (envOfC qual scope s.heap.objs.size f cd :: outer) ++ [e], b ∈ frs outer ∨ (s.heap.get? b = none ∧ H1 b = none) := fun b hb => by
    rcases List.mem_append.mp hb with z | z
    · unfold frs at z
      rw [List.filterMap_cons, hf] at z
      rcases List.mem_cons.mp z with y | y
      · rw [y]; exact .inr ⟨nL, I.free⟩
      · exact .inl y
    · rw [List.mem_singleton.mp z]; exact .inr ⟨ne0, he1⟩
  have hsub : ∀ b ∈ frs outer, b ∈ frs (envOfC qual scope s.heap.objs.size f cd :: outer) ++ [e] := fun b hb => by
    refine List.mem_append_left _ ?_
    unfold frs
    rw [List.filterMap_cons, hf]
    exact List.mem_cons_of_mem _ hb
  have hm1 : e ∈ frs (envOfC qual scope s.heap.objs.size f cd :: outer) ++ [e] := List.mem_append_right _ List.mem_cons_self
  have ff0 : s1.heap.FunFrames base (envOfC qual scope s.heap.objs.size f cd :: outer) := I.stack
  have go := leaveD (M := model P w) (A := A.deeper (envOfC qual scope s.heap.objs.size f cd)) (E := fun e' s'' => CXf P w outer H s E e' s'') (Q := fun _ s'' => CXf P w outer H s E (.ref e) s'') (s := s1) (base := W.hideAll s1.heap (frs (envOfC qual scope s.heap.objs.size f cd :: outer) ++ [e])) (env := envOfC qual scope s.heap.objs.size f cd) (outer := outer) (e := e) (a0 := .ref t)
    I.ok.frames (W.funFrames_hide ff0 hin) hf he (fun b o q => W.of_hideAll _ q) (W.hideAll_none _ hm1) rfl rfl rfl ?_
  · exact go
  · rintro h2 ⟨k1, k2, ⟨oe', vs', T', oT', ts', q1, ⟨q2, q3⟩, q4, q5, q6, q7, q8, q9, q10⟩, k4⟩ ⟨od', d1, d2⟩
    obtain ⟨u2, ok2⟩ := hid_un und I.hok hh hsub fr0 k1 k4
    obtain ⟨n1, n2⟩ := hid_rec und I.hok hh fr0 k4 q6 q8 q9
    exact ⟨e, cls, dx, H1, rfl, ⟨ne0, I.os, I.bare, u2, ok2, he1, ⟨T', ⟨oe', vs', _, oT', ts', q1, q2, q3, q4, q5, q7, q8, q9, q10⟩, n1, n2⟩, fun dx' hdx => ⟨od', d1, d2.trans hdx⟩⟩, q⟩
theorem leaves_here {P : Program} {w : World} {K : W.Frag} {mg : Str → Option Value} {base : Heap} {N : List Str} {qual : Str} {scope : Scope} {f : Addr} {cd : Value} {A : Around} {outer : List Env} {s : Shared} {H : Hp} {E : XK}
    (hf : (envOfC qual scope s.heap.objs.size f cd).frame = some (envOfC qual scope s.heap.objs.size f cd).locals := by rfl) : LeavesH (cxOf (CXf P w) P w K mg base N qual scope f cd A outer s H E) E :=
  fun pins σ0 σ H0 H1 s0 s1 e t cls dx I0 n0 h1 I he q => fly_here I0 n0 h1 I hf he q
def spXI (C : Addr) (f : Str) : Sp := fun vs H Q _ => ∃ (e t : Addr) (v : V), vs = [.ref e, v] ∧ H e = some (.ext (XN e C t)) ∧ ∀ dx, H dx = none → dx ≠ e → Q .non (upd (upd H dx (.xd [(f, v)])) e (.ext (XE' e C t dx)))
structure XInit (P : Program) (w : World) (K : W.Frag) (mg : Str → Option Value) (base : Heap) (n : Nat) (C fI : Addr) (fl : Str) : Prop where
  ex : ∃ fd ps, FnOk P w K mg base CX0 n fI fd ps (spXI C fl) ∧ Binds K fd ps []
  fn : W.isFn K (.ref fI) = true
section
variable {X : Cx} {x fl : Str} {C fI : Addr} {E : XK} {e : Expr} {t : TA} {np cpos pos : Pos} {n : Nat}
def tRaiseI (C : Addr) (fl : Str) (E : XK) (t : TA) : TS := fun _ σ H => t σ H fun vs H1 => ∃ v, vs = [v] ∧ ∀ dx, H1 dx = none → E (.ref C) (some dx) (upd H1 dx (.xd [(fl, v)]))
theorem ps_raiseI (c : XClsI X.K X.mg x C fI) (ci : XInit X.prog X.w X.K X.mg X.base n C fI fl) (hr : Room (n + 1) X.A) (hl : LeavesH X E) (hc : X.calm = true) (hg : Gl X x) (ha : PA X [e] t) (hs : notStar e = true) (hdb : (x == ("__debug__" : Str)) = false) :
    PS X (.Raise (some (.Call (.Name x np) [e] [] cpos)) none pos) (tRaiseI C fl E t) := by
  intro pins s σ H D I h
  obtain ⟨tl, N, nm, q, bs, hdct, sn, sub, ab, col, dd, k0, k1, k2, k3, k5, mN, hC, hN, hni, T⟩ := c.obj I.mod.kin
  obtain ⟨⟨fd, ps, F, hb⟩, hfn⟩ := ci
  have he : starEach [e] X.env = [(false, eval e X.env)] := by rw [star_cons hs]; rfl
  have hft := beq_iff_eq.mp hfn
  obtain ⟨oI, hoI, hoc⟩ : ∃ oI, X.base.get? fI = some oI ∧ oI.cls = .type "function" := by
    obtain ⟨oI, ho, e'⟩ := Option.map_eq_some_iff.mp (show (X.K.lookup fI).map (·.cls) = some (.type "function") from hft)
    exact ⟨oI, I.mod.kin _ _ ho, e'⟩
  refine raise_initT (C := C) (nm := nm) (q := q) (N := N) (bs := bs) (bm := tl) (hdct := hdct) (sn := sn) (sub := sub) (ab := ab) (col := col) (dd := dd) (k0 := k0) (k1 := k1) (k2 := k2) (k3 := k3) (k5 := k5) (fI := fI) (oI := oI)
    PySem.F.excBase_ValueError (mN := mN) (T.hasType PySem.F.excBase_ValueError.hasBase) (I.ok.hd hc) (by rw [he]; rfl) hni hoc (ld_glob I hg c.at_ ⟨rfl, ?_⟩ hdb)
  have hp := ha cpos pins s σ H _ I h
  rw [he] at hp ⊢
  refine Calls.evalArgs_plain (thn hp fun us s1 ⟨vs, H1, I1, r, v, ev, q⟩ => ?_)
  subst ev
  have hul : us.length = 1 := r.length.symm
  refine ⟨rfl, by rw [hul]; decide, I1.bk _ _ hC, hN.keeps I1.bk, T.keeps I1.bk, I1.bk _ _ hoI, ?_⟩
  have I2 := I1.laid (a := s1.heap.objs.size + 1) (o := .ext (XN (s1.heap.objs.size + 1) C s1.heap.objs.size)) (t' := s1.toks) (h' := heapX s1.heap C us) (fun b u q => heapX_keep q) (Nat.le_succ _) (xn_ok heapX_at)
  have n1 : H1 (s1.heap.objs.size + 1) = none := I1.hok.fresh (Nat.le_succ _)
  have hq : spXI C fl (.ref (s1.heap.objs.size + 1) :: [v]) (upd H1 (s1.heap.objs.size + 1) (.ext (XN (s1.heap.objs.size + 1) C s1.heap.objs.size))) (fun u H2 => u = .non ∧ ∃ dx, H1 dx = none ∧ dx ≠ s1.heap.objs.size + 1 ∧ H2 = upd (upd H1 dx (.xd [(fl, v)])) (s1.heap.objs.size + 1) (.ext (XE' (s1.heap.objs.size + 1) C s1.heap.objs.size dx))) E0 := by
    refine ⟨_, _, v, rfl, upd_same, fun dx h0 hne => ⟨rfl, dx, by rw [upd_ne hne] at h0; exact h0, hne, ?_⟩⟩
    funext b
    unfold upd
    by_cases z : b = s1.heap.objs.size + 1
    · rw [if_pos z, if_pos z]
    · simp only [if_neg z]
  have hl2 : (Value.ref (s1.heap.objs.size + 1) :: us).length = ps.length := by
    have e1 := F.len _ _ _ _ hq
    rw [List.length_cons, hul, ← e1]; rfl
  have hb' := hb { s1 with heap := heapX s1.heap C us } (Value.ref (s1.heap.objs.size + 1) :: us) I2.kIn (by rw [List.append_nil]; exact hl2)
  rw [List.append_nil] at hb'
  refine wpAny_call (codeAny_mono (F.run _ X.stack _ _ ⟨Value.ref (s1.heap.objs.size + 1) :: us, []⟩ (Value.ref (s1.heap.objs.size + 1) :: us) (.ref (s1.heap.objs.size + 1) :: [v]) _ E0 (hr.make C us []) (I2.env0.make C us []) hb' (.cons rfl r) hq) fun rs s' hq' => ?_)
  cases rs with
  | error e' => exact False.elim hq'
  | ok fl =>
    cases fl with
    | ret u =>
      obtain ⟨v', H', I3, rv, ev, dx, f0, hne, eH⟩ := I2.after hq'
      subst ev eH
      have gx := (show ObjOk X.prog X.w _ s'.heap _ (.ext (XE' (s1.heap.objs.size + 1) C s1.heap.objs.size dx)) from I3.hok _ _ upd_same).1
      have n2 : (upd H1 dx (.xd [(fl, v)])) (s1.heap.objs.size + 1) = none := by rw [upd_ne hne.symm]; exact n1
      have I4 := I3.drop n2
      exact ⟨rv, s1.heap.objs.size, some dx, #[], I4.bk _ _ hC, gx, hl pins σ σ H1 _ s1 s' _ _ _ _ I1 (Heap.get?_none_of_le (Nat.le_succ _)) n2 I4 gx (q dx f0)⟩
    | next => exact False.elim hq'
    | brk => exact False.elim hq'
    | cont => exact False.elim hq'
theorem R.raiseI (c : XClsI X.K X.mg x C fI) (ci : XInit X.prog X.w X.K X.mg X.base n C fI fl) (hr : Room (n + 1) X.A) (hl : LeavesH X E) (hc : X.calm = true) (hg : Gl X x := by rfl) (ha : XA X [e] t) (hs : notStar e = true := by rfl) (hdb : (x == ("__debug__" : Str)) = false := by decide) :
    XS X (.Raise (some (.Call (.Name x np) [e] [] cpos)) none pos) (tRaiseI C fl E t) := ⟨ps_raiseI c ci hr hl hc hg ha.h hs hdb⟩
end
end L2
namespace L2
open PySem PySem.Spec PyProof.Rows
section
variable {prog : Program} {w : World} {A : Around} {E : Value → Shared → Prop} {s : Shared} {K : W.Frag} {x D : Addr}
theorem exc_attr {Q : Value → Shared → Prop} {f : Str} {ox od : Obj} {v : Value} {b : Bool} (X : K.In s.heap) (J : W.InstAt s.heap x ox D (some od)) (k : XKind K D) (hd : W.hasDictIn K D = true) (hf : W.findIn K (.ref D) f = some none)
    (hl : W.lookIn f od = some (some v)) (hv : W.handedIn v = true) (h : Q v { s with toks := s.toks + 1 }) : wpAny (model prog w) A (getAttr (.ref x) f b) Q E s := by
  obtain ⟨hh, g, d, t, os⟩ := s
  have c : OfCls x D hh := ⟨ox, J.at_, J.cls⟩
  have L0 := c.type (M := model prog w)
  have L1 := W.looks_findIn (M := model prog w) X k.ga
  have L2 := W.looks_findIn (M := model prog w) X k.gx
  have L3 := W.looks_find (M := model prog w) X J (W.findObj_own hd hf rfl hl)
  have LI : W.Looks (model prog w) hh (isInstance (.ref x) (.type "BaseException")) true := L0.andThen (W.looks_mroIn X k.mb)
  unfold getAttr getAttrBy
  refine wpAny_bind (wpAny_mkText (wpAny_holding (wpAny_bind (L0.at (wpAny_bind (L1.at ?_))))))
  dsimp only
  have hx0 : (Value.builtin "BaseException.__getattribute__" == Value.builtin "object.__getattribute__") = false := by decide +kernel
  have hx1 : (onTheHeap (Value.ref D) && Value.builtin "BaseException.__getattribute__" == Value.builtin "object.__getattribute__") = false := by rw [hx0]; rfl
  rw [if_neg (by rw [hx1]; exact Bool.false_ne_true)]
  unfold getAttrByItsOwn hookBefore
  rw [if_pos (show onTheHeap (Value.ref D) = true from rfl)]
  refine wpAny_bind (L2.at ?_)
  refine wpAny_bind (wpAny_attempt (wpAny_holding ?_))
  unfold callGetattribute
  rw [if_neg (by cases b <;> decide)]
  unfold boundAndCalled
  refine wpAny_bind (wpAny_of_eq (F.excAttr_ValueError.ga.bind _) ?_)
  show wpAny _ _ (call (.builtin "BaseException.__getattribute__") [.ref x, .str f t]) _ _ _
  refine wpAny_call (codeAny_call_builtin F.excAttr_ValueError.ga.plain F.entry_bexc_ga (exc_check LI ?_))
  unfold Builtin.«object.__getattribute__»
  refine wpAny_bind (wpAny_of_eq (a := (Value.ref x, [Value.str f t])) rfl ?_)
  dsimp only
  refine wpAny_bind (wpAny_pure (wpAny_bind (L0.at (wpAny_bind (L3.at ?_)))))
  dsimp only
  refine wpAny_pure ?_
  show wpAny _ _ (handedOut v) _ _ _
  rw [W.handedOut_of hv]
  exact wpAny_pure h
end
def mXF (K : W.Frag) (te : TE) (f : Str) : TE := fun σ H Q => te σ H fun x H1 => ∃ a D dx fs v, x = .ref a ∧ H1 a = some (.ext (ExcO a (.ref D) (some dx))) ∧ H1 dx = some (.xd fs) ∧ XKind K D ∧ W.hasDictIn K D = true ∧ W.findIn K (.ref D) f = some none ∧ fs.lookup f = some v ∧ Q v H1
section
variable {X : Cx} {e : Expr} {te : TE} {f : Str} {pos : Pos} {K : W.Frag}
theorem pe_mxf (he : PE X e te) (hb : attributeBase e f X.env (eval e X.env) = eval e X.env) : PE X (.Attribute e f pos) (mXF X.K te f) := by
  intro pins s σ H Q I h
  refine attr_of hb (thn (he pins s σ H _ I h) fun u s1 ⟨x, H1, I1, rx, q1⟩ => ?_)
  obtain ⟨a, D, dx, fs, v, rfl, ea, ed, k, hd, hf, hl, q⟩ := q1
  cases rx
  obtain ⟨⟨o, vs, h1, h2, h3, h4⟩, _⟩ := (show ObjOk X.prog X.w H1 s1.heap a (.ext (ExcO a (.ref D) (some dx))) from I1.hok a _ ea)
  obtain ⟨mA, ns, r⟩ := (show ObjOk X.prog X.w H1 s1.heap dx (.xd fs) from I1.hok dx _ ed)
  obtain ⟨od, ho, hlk⟩ := lookIn_ns ns
  obtain ⟨u, hu, ru⟩ := RelO.some_of (v := v) (o := mA f) (by rw [← hl]; exact r f)
  obtain ⟨oc, odi, oda, osl⟩ := o
  have h4' := h4 dx rfl
  dsimp only at h2 h3 h4'
  subst h2 h3 h4'
  exact exc_attr I1.kIn ⟨h1, rfl, rfl, ho⟩ k hd hf (by rw [hlk, hu]) (handed_of ru) ⟨v, H1, I1.tok _, ru, q⟩
end
namespace R
theorem kxfld {X : Cx} {e : Expr} {te : TE} {f : Str} {pos : Pos} {K : W.Frag} (he : XE X e te) (hK : X.K = K := by rfl) (hb : attributeBase e f X.env (eval e X.env) = eval e X.env := by rfl) : XE X (.Attribute e f pos) (mXF K te f) := hK ▸ ⟨pe_mxf he.h hb⟩
end R
end L2
namespace L2
open PySem PySem.Spec PyProof.Rows
structure InitAt (K : W.Frag) (fI : Addr) (qual : Str) (st : Stmt) (ps : List Str) : Prop where
  ex : ∃ fd, Fun K "__init__" qual st fI fd ∧ Binds K fd ps []
  fn : W.isFn K (.ref fI) = true
theorem InitAt.go {P : Program} {w : World} {K : W.Frag} {mg : Str → Option Value} {base : Heap} {qual fl : Str} {st : Stmt} {N ps : List Str} {k : Nat} {C fI : Addr} (D : InitAt K fI qual st ps) (S : FnScope N ps (defScope st)) (len : ps.length = 2)
    (hbody : ∀ (cdv : Value) (A : Around) (outer : List Env) (s : Shared) (H : Hp) (vs : List V) (Q : VK) (E : XK), Room k (A.deeper (envOfC qual (defScope st) s.heap.objs.size fI cdv)) → spXI C fl vs H Q E →
      ∃ t, XB (cxOf CX0 P w K mg base N qual (defScope st) fI cdv A outer s H E).nox (defBody st) t ∧ t { nx := fun _ H' => Q .non H', rt := Q } (start N vs) H) : XInit P w K mg base (k + 1) C fI fl := by
  obtain ⟨fd, F, hb⟩ := D.ex
  exact ⟨⟨fd, ps, F.go S (fun vs H Q E h => by obtain ⟨e, t, v, rfl, _⟩ := h; rw [len]; rfl) hbody, hb⟩, D.fn⟩
end L2
namespace L2
open PySem PySem.Spec PyProof.Rows
def WLT (K : W.Frag) (a : Addr) (R : It → Hp → Prop) (H : Hp) : Prop := ((∃ xs, SqL K H a xs) ∧ R (Itl K a) H) ∨ ((∃ xs, SqT K H a xs) ∧ R (Itt K a) H)
def iLT (K : W.Frag) (tl : TE) : TI := fun σ H R => tl σ H fun x H1 => ∃ a, x = .ref a ∧ WLT K a R H1
theorem lt_seq {K : W.Frag} {H : Hp} {t : Addr} {xs : List V} {R : It → Hp → Prop} (ht : H t = some (.lst xs) ∨ H t = some (.tup xs)) (main : ∀ (J : It) (W : Hp → Prop), Seqs J xs W → (∀ H', H' t = H t → W H') → R J H) : WLT K t R H := by
  rcases ht with ht | ht
  · exact .inl ⟨⟨_, SqL.of ht⟩, main _ _ (seq_list K t xs) fun H' e => SqL.of (e.trans ht)⟩
  · exact .inr ⟨⟨_, SqT.of ht⟩, main _ _ (seq_tup K t xs) fun H' e => SqT.of (e.trans ht)⟩
theorem pi_lt {X : Cx} {tg l : Expr} {tl : TE} (hl : PE X l tl) : PI X tg l (iLT X.K tl) := by
  intro pins s σ H R I h
  refine thn (hl pins s σ H _ I h) fun v s1 ⟨x, H1, I1, r1, q1⟩ => ?_
  obtain ⟨a, e, ⟨⟨xs, hq⟩, q⟩ | ⟨⟨xs, hq⟩, q⟩⟩ := q1
  · subst e
    cases r1
    obtain ⟨its, rv, p, hz⟩ := I1.list hq
    refine wpAny_pyIter_list p.isList ?_
    refine ⟨s1.heap.objs.size, [s1.heap.objs.size], _, _, H1, rfl, I1.kept (t' := s1.toks) fun b o e => Heap.get?_push_of_some _ e, turn_list a _, ⟨_, Heap.get?_push_size _ rfl, rfl, rfl⟩, fun b hb => ?_, q⟩
    obtain rfl : b = s1.heap.objs.size := by simpa using hb
    exact I1.fpOk (Nat.le_refl _) (I1.hok.fresh (Nat.le_refl _))
  · subst e
    cases r1
    obtain ⟨its, rv, p, hz⟩ := I1.tuple hq
    refine wpAny_pyIter_tuple (show s1.heap.IsTuple a its.toArray from p) ?_
    refine ⟨s1.heap.objs.size, [s1.heap.objs.size], _, _, H1, rfl, I1.kept (t' := s1.toks) fun b o e => Heap.get?_push_of_some _ e, turn_tuple a _, ⟨_, Heap.get?_push_size _ rfl, rfl, rfl⟩, fun b hb => ?_, q⟩
    obtain rfl : b = s1.heap.objs.size := by simpa using hb
    exact I1.fpOk (Nat.le_refl _) (I1.hok.fresh (Nat.le_refl _))
theorem R.kwLT {X : Cx} {tg e : Expr} {te : TE} {K : W.Frag} (hl : XE X e te) (hK : X.K = K := by rfl) : XI X tg e (iLT K te) := hK ▸ ⟨pi_lt hl.h⟩
end L2
namespace KL
open PySem L2
def top (i : Nat) : Stmt := PySem.Challenge.pw_oncedoor_k11_changes_of_a_book.main.body.getD i (.Pass ⟨0, 0, 0, 0⟩)
abbrev s_NoChange___init__ : Stmt := inClass (top 15) 0
abbrev s_Book___init__ : Stmt := inClass (top 22) 0
abbrev s_Book_amount : Stmt := inClass (top 22) 1
abbrev s_Book_rows : Stmt := inClass (top 22) 2
abbrev s_Book_change : Stmt := inClass (top 22) 3
abbrev s_law_mixed : Stmt := top 24
abbrev s_law_deck : Stmt := top 25
abbrev s_law_draw : Stmt := top 26
abbrev s_law_name : Stmt := top 27
abbrev s_law_names : Stmt := top 28
abbrev s_law_amount : Stmt := top 29
abbrev s_law_by : Stmt := top 30
abbrev s_law_changes : Stmt := top 31
abbrev s_law_told : Stmt := top 32
abbrev s_law_due : Stmt := top 33
abbrev s_law_stands : Stmt := top 34
abbrev s_law : Stmt := top 35
theorem sc_NoChange___init__ : FnScope ["self", "name"] ["self", "name"] (defScope s_NoChange___init__) := ⟨rfl, rfl, rfl, by decide +kernel, rfl, by decide +kernel, by decide +kernel⟩
theorem sc_Book___init__ : FnScope ["self", "rows"] ["self", "rows"] (defScope s_Book___init__) := ⟨rfl, rfl, rfl, by decide +kernel, rfl, by decide +kernel, by decide +kernel⟩
theorem sc_Book_amount : FnScope ["self", "name"] ["self", "name"] (defScope s_Book_amount) := ⟨rfl, rfl, rfl, by decide +kernel, rfl, by decide +kernel, by decide +kernel⟩
theorem sc_Book_rows : FnScope ["self"] ["self"] (defScope s_Book_rows) := ⟨rfl, rfl, rfl, by decide +kernel, rfl, by decide +kernel, by decide +kernel⟩
theorem sc_Book_change : FnScope ["self", "changes", "name", "by"] ["self", "changes"] (defScope s_Book_change) := ⟨rfl, rfl, rfl, by decide +kernel, rfl, by decide +kernel, by decide +kernel⟩
theorem sc_law_mixed : FnScope ["_law_number", "_law_k", "_law_seed"] ["_law_number", "_law_k"] (defScope s_law_mixed) := ⟨rfl, rfl, rfl, by decide +kernel, rfl, by decide +kernel, by decide +kernel⟩
theorem sc_law_deck : FnScope ["_law_script"] ["_law_script"] (defScope s_law_deck) := ⟨rfl, rfl, rfl, by decide +kernel, rfl, by decide +kernel, by decide +kernel⟩
theorem sc_law_draw : FnScope ["_law_deck_here", "_law_most", "_law_cell"] ["_law_deck_here", "_law_most"] (defScope s_law_draw) := ⟨rfl, rfl, rfl, by decide +kernel, rfl, by decide +kernel, by decide +kernel⟩
theorem sc_law_name : FnScope ["_law_deck_here", "_law_letters"] ["_law_deck_here"] (defScope s_law_name) := ⟨rfl, rfl, rfl, by decide +kernel, rfl, by decide +kernel, by decide +kernel⟩
theorem sc_law_names : FnScope ["_law_deck_here", "_law_many", "_law_letters", "_law_found", "_law_k", "_law_name_here", "_law_others"] ["_law_deck_here", "_law_many"] (defScope s_law_names) := ⟨rfl, rfl, rfl, by decide +kernel, rfl, by decide +kernel, by decide +kernel⟩
theorem sc_law_amount : FnScope ["_law_deck_here", "_law_least", "_law_some"] ["_law_deck_here", "_law_least"] (defScope s_law_amount) := ⟨rfl, rfl, rfl, by decide +kernel, rfl, by decide +kernel, by decide +kernel⟩
theorem sc_law_by : FnScope ["_law_deck_here", "_law_amount_here", "_law_top", "_law_small", "_law_some"] ["_law_deck_here", "_law_amount_here"] (defScope s_law_by) := ⟨rfl, rfl, rfl, by decide +kernel, rfl, by decide +kernel, by decide +kernel⟩
theorem sc_law_changes : FnScope ["_law_deck_here", "_law_names_here", "_law_known", "_law_many", "_law_left", "_law_found", "_law_name_here"] ["_law_deck_here", "_law_names_here", "_law_known"] (defScope s_law_changes) := ⟨rfl, rfl, rfl, by decide +kernel, rfl, by decide +kernel, by decide +kernel⟩
theorem sc_law_told : FnScope ["_law_book", "_law_changes_here", "_law_told_here", "e", "_law_some"] ["_law_book", "_law_changes_here"] (defScope s_law_told) := ⟨rfl, rfl, rfl, by decide +kernel, rfl, by decide +kernel, by decide +kernel⟩
theorem sc_law_due : FnScope ["_law_changes_here", "_law_known", "_law_name_here", "_law_by_here"] ["_law_changes_here", "_law_known"] (defScope s_law_due) := ⟨rfl, rfl, rfl, by decide +kernel, rfl, by decide +kernel, by decide +kernel⟩
theorem sc_law_stands : FnScope ["_law_book", "_law_names_here", "_law_known", "_law_name_here", "_law_found"] ["_law_book", "_law_names_here", "_law_known"] (defScope s_law_stands) := ⟨rfl, rfl, rfl, by decide +kernel, rfl, by decide +kernel, by decide +kernel⟩
theorem sc_law : FnScope ["_law_script", "_law_deck_here", "_law_many", "_law_names_here", "_law_known", "_law_book", "_law_k", "_law_changes_here", "_law_handed", "_law_due_here", "_law_name_here", "_law_by_here"] ["_law_script"] (defScope s_law) := ⟨rfl, rfl, rfl, by decide +kernel, rfl, by decide +kernel, by decide +kernel⟩
structure Txt (K : W.Frag) (mg : Str → Option Value) : Prop where
  b_ValueError : mg "ValueError" = none
  b_bool : mg "bool" = none
  b_dict : mg "dict" = none
  b_int : mg "int" = none
  b_isinstance : mg "isinstance" = none
  b_len : mg "len" = none
  b_list : mg "list" = none
  b_max : mg "max" = none
  b_range : mg "range" = none
  b_reversed : mg "reversed" = none
  b_sorted : mg "sorted" = none
  b_sum : mg "sum" = none
  b_tuple : mg "tuple" = none
  g_MOST : ∃ t, mg "MOST" = some (.int (1000000000000) t)
section
variable {P : Program} {w : World} {K : W.Frag} {mg : Str → Option Value} {base : Heap}
theorem ok_mixed (D : DefAt K mg "_law_mixed" s_law_mixed ["_law_number", "_law_k"]) : Callee P w K mg base 1 "_law_mixed" ["_law_number", "_law_k"] spMixed := by
  refine D.go sc_law_mixed (fun vs H Q E h => ?_) (fun f cdv A outer s H vs Q E hr h => ?_)
  · obtain ⟨n, k, rfl, _⟩ := h; rfl
  · obtain ⟨n, k, rfl, q⟩ := h
    refine ⟨_, (R.scons (R.set (i := 2) sc_law_mixed.nd (R.op R.mod (R.op R.mul (R.op R.add (R.op R.add (R.op R.mod (R.v 0) R.int) (R.op R.mul R.int (R.v 1))) R.int) R.int) R.int))
      (R.scons (R.set (i := 2) sc_law_mixed.nd (R.op R.mod (R.op R.add (R.op R.add (R.op R.mul (R.v 2) (R.v 2)) (R.op R.mul R.int (R.v 2))) (R.v 1)) R.int))
      (R.sone (R.ret (R.op R.fdiv (R.op R.mod (R.op R.add (R.op R.mul (R.v 2) R.int) R.int) R.int) R.int))))), ?_⟩
    refine ⟨by show (0 : Int) < _; decide, .inl ⟨by decide, by decide⟩, .inr ⟨by decide, by decide⟩, by show (0 : Int) < _; decide, ?_⟩
    generalize hx : (n % 2147483629 + 6563 * k + 29) * 48271 % 2147483647 = x
    have hx0 : 0 ≤ x := by omega
    have hx1 : x < 2147483647 := by omega
    refine ⟨.inl ⟨by omega, by omega⟩, .inl ⟨by decide, by decide⟩, by show (0 : Int) < _; decide, .inr ⟨by decide, by decide⟩, by show (0 : Int) < _; decide, ⟨by decide, by decide⟩, ?_⟩
    exact q _
theorem ok_draw (c__law_mixed : Callee P w K mg base 1 "_law_mixed" ["_law_number", "_law_k"] spMixed) (D : DefAt K mg "_law_draw" s_law_draw ["_law_deck_here", "_law_most"]) :
    Callee P w K mg base 2 "_law_draw" ["_law_deck_here", "_law_most"] spDraw := by
  refine D.go sc_law_draw (fun vs H Q E h => ?_) (fun f cdv A outer s H vs Q E hr h => ?_)
  · obtain ⟨d, b, m, rfl, _⟩ := h; rfl
  · obtain ⟨d, b, m, rfl, dk, hm, hm2, q⟩ := h
    have hu := hr.units0
    have hr__law_mixed := hr
    obtain ⟨ns, s0, k0, h1, h2, h3⟩ := dk.ex
    have ndb : d ≠ b := ne_of h1 h2 (by
      intro z
      injection z with z
      cases ns with
      | nil => cases z
      | cons z1 zs => injection z with z _; cases z)
    refine ⟨_, (R.scons (R.asg (R.op R.add (R.ix (R.kiL (K := K)) (R.v 0) R.int) R.int) (R.gsub (R.v 0) R.int R.setL))
      (R.scons (R.ife (R.tcmp (R.keqNil (K := K) hu) (R.ix (R.kiL (K := K)) (R.v 0) R.int) (R.lst R.nil))
      (R.sone (R.ret (R.op R.mod (R.fn c__law_mixed hr__law_mixed rfl (R.cons (R.ix (R.kiL (K := K)) (R.v 0) R.int) (R.cons (R.ix (R.kiL (K := K)) (R.v 0) R.int) R.nil))) (R.v 1))))
      R.snil)
      (R.scons (R.set (i := 2) sc_law_draw.nd (R.kbm0 (K := K) PySem.F.plainAttrs_list PySem.F.slot_list_pop PySem.F.type_list_pop R.pop (R.ix (R.kiL (K := K)) (R.v 0) R.int)))
      (R.scons (R.ife (R.tcmp R.lt (R.v 2) (R.op R.pow R.int R.int))
      (R.sone (R.ret (R.op R.mod (R.fn c__law_mixed hr__law_mixed rfl (R.cons (R.v 2) (R.cons (R.ix (R.kiL (K := K)) (R.v 0) R.int) R.nil))) (R.v 1))))
      R.snil)
      (R.scons (R.expr (R.kbm (K := K) PySem.F.plainAttrs_list PySem.F.slot_list_append PySem.F.type_list_append R.append (R.ix (R.kiL (K := K)) (R.v 0) R.int) (R.cons (R.op R.fdiv (R.v 2) (R.v 1)) R.nil)))
      (R.sone (R.ret (R.op R.mod (R.v 2) (R.v 1))))))))), ?_⟩
    refine ⟨_, SqL.of h1, _, rfl, d, _, 2, 2, rfl, rfl, h1, rfl, ?_⟩
    have g1 : (upd H d (.lst [.ref b, .int s0, .int (k0 + 1)])) d = some (.lst [.ref b, .int s0, .int (k0 + 1)]) := upd_same
    have g2 : (upd H d (.lst [.ref b, .int s0, .int (k0 + 1)])) b = some (.lst (ns.map V.int)) := by rw [upd_ne ndb.symm]; exact h2
    have kp1 : Kp d b H (upd H d (.lst [.ref b, .int s0, .int (k0 + 1)])) := fun c o e n1 n2 => by rw [upd_ne n1]; exact e
    show tSeq _ _ _ _ (upd H d (.lst [.ref b, .int s0, .int (k0 + 1)]))
    generalize upd H d (.lst [.ref b, .int s0, .int (k0 + 1)]) = H1 at g1 g2 kp1
    refine ⟨_, SqL.of g1, _, rfl, szl rfl, fun p hp => ⟨b, p, _, rfl, rfl, SqL.of (by rw [upd_ne (ne_of_none g2 hp)]; exact g2), SqL.of upd_same, ?_⟩⟩
    have e1 : (upd H1 p (.lst [])) d = some (.lst [.ref b, .int s0, .int (k0 + 1)]) := by rw [upd_ne (ne_of_none g1 hp)]; exact g1
    have e2 : (upd H1 p (.lst [])) b = some (.lst (ns.map V.int)) := by rw [upd_ne (ne_of_none g2 hp)]; exact g2
    have kp2 : Kp d b H (upd H1 p (.lst [])) := kp1.trans (.new hp)
    generalize upd H1 p (.lst []) = H2 at e1 e2 kp2
    rcases List.eq_nil_or_concat ns with rfl | ⟨init, z, rfl⟩
    · skip
      refine ⟨_, SqL.of e1, _, rfl, _, SqL.of e1, _, rfl, _, _, rfl, fun r => ⟨hm, ?_⟩⟩
      exact q _ _ (Int.emod_nonneg _ (by omega)) (Int.emod_lt_of_pos _ hm) ⟨[], s0, k0 + 1, e1, e2, h3⟩ kp2
    · refine if_f (by simp) ?_
      have e2' : H2 b = some (.lst (init.map V.int ++ [.int z])) := by rw [e2]; simp
      refine ⟨_, SqL.of e1, _, rfl, .inl ⟨rfl, _, SqL.of e2'⟩, b, _, .int z, rfl, rfl, e2', by simp, ?_⟩
      have f1 : (upd H2 b (.lst (init.map V.int ++ [V.int z]).dropLast)) d = some (.lst [.ref b, .int s0, .int (k0 + 1)]) := by rw [upd_ne ndb]; exact e1
      have f2 : (upd H2 b (.lst (init.map V.int ++ [V.int z]).dropLast)) b = some (.lst (init.map V.int)) := by rw [upd_same]; simp
      have kp3 : Kp d b H (upd H2 b (.lst (init.map V.int ++ [V.int z]).dropLast)) := fun c o e n1 n2 => by rw [upd_ne n2]; exact kp2 c o e n1 n2
      show tSeq _ _ _ _ (upd H2 b (.lst (init.map V.int ++ [V.int z]).dropLast))
      generalize upd H2 b (.lst (init.map V.int ++ [V.int z]).dropLast) = H3 at f1 f2 kp3
      have hl : init.length + 1 ≤ 63 := by simpa using h3
      refine ⟨⟨by decide, by decide, by decide⟩, ?_⟩
      refine if_b (fun _ => ?_) (fun _ => ?_)
      · refine ⟨_, SqL.of f1, _, rfl, _, _, rfl, fun r => ⟨hm, ?_⟩⟩
        exact q _ _ (Int.emod_nonneg _ (by omega)) (Int.emod_lt_of_pos _ hm) ⟨init, s0, k0 + 1, f1, f2, by omega⟩ kp3
      · refine ⟨_, SqL.of f1, _, rfl, .inl ⟨rfl, _, SqL.of f2⟩, ⟨hm, hm2⟩, b, _, _, rfl, rfl, f2, Nat.lt_of_le_of_lt (m := 63) (by rw [List.length_map]; omega) (by decide), hm, ?_⟩
        refine q _ _ (Int.emod_nonneg _ (by omega)) (Int.emod_lt_of_pos _ hm) ⟨init ++ [z / m], s0, k0 + 1, by rw [upd_ne ndb]; exact f1, by rw [upd_same]; simp, by simpa using hl⟩ fun c o e n1 n2 => by rw [upd_ne n2]; exact kp3 c o e n1 n2
theorem ok_deck (T : Txt K mg) (D : DefAt K mg "_law_deck" s_law_deck ["_law_script"]) : Callee P w K mg base 1 "_law_deck" ["_law_script"] (spDeck K) := by
  refine D.go sc_law_deck (fun vs H Q E h => ?_) (fun f cdv A outer s H vs Q E hr h => ?_)
  · obtain ⟨a, ns, rfl, _⟩ := h; rfl
  · obtain ⟨a, ns, rfl, hS, q⟩ := h
    refine ⟨_, (R.sone (R.ret (R.lst (R.cons (R.klistrev (K := K) rfl rfl T.b_list rfl T.b_reversed (R.sl (R.ksL (K := K)) (R.v 0) R.pn (R.ps R.int))) (R.cons (R.op R.add (R.callB (R.ksum (K := K) rfl) rfl T.b_sum bb_sum (R.cons (R.sl (R.ksL (K := K)) (R.v 0) R.pn (R.ps R.int)) R.nil)) (R.callB (R.klenL (K := K)) rfl T.b_len bb_len (R.cons (R.sl (R.ksL (K := K)) (R.v 0) R.pn (R.ps R.int)) R.nil))) (R.cons R.int R.nil)))))), ?_⟩
    have hc : cut (ns.map V.int) none (some 63) = (ns.take 63).map V.int := by rw [cut_map]; exact congrArg _ (cut_to ns 63)
    refine ⟨_, hS, fun p1 hp1 => ⟨p1, _, rfl, SqL.of upd_same, fun b hb => ?_⟩⟩
    have s2 : Same H (upd (upd H p1 (.lst (cut (ns.map V.int) none (some 63)))) b (.lst (cut (ns.map V.int) none (some 63)).reverse)) := (same_upd hp1).trans (same_upd hb)
    have g2 : (upd (upd H p1 (.lst (cut (ns.map V.int) none (some 63)))) b (.lst (cut (ns.map V.int) none (some 63)).reverse)) b = some (.lst (((ns.take 63).reverse).map V.int)) := by rw [upd_same, hc, List.map_reverse]
    have hb0 : H b = none := (same_upd hp1).free hb
    show tCons _ _ _ (upd (upd H p1 (.lst (cut (ns.map V.int) none (some 63)))) b (.lst (cut (ns.map V.int) none (some 63)).reverse)) _
    generalize upd (upd H p1 (.lst (cut (ns.map V.int) none (some 63)))) b (.lst (cut (ns.map V.int) none (some 63)).reverse) = H2 at s2 g2
    refine ⟨_, s2.seq hS, fun p2 hp2 => ⟨p2, ns.take 63, rfl, SqL.of (by rw [upd_same, hc]), _, ((s2.trans (same_upd hp2)).seq hS), fun p3 hp3 => ⟨_, .inl (SqL.of upd_same), szl rfl, fun d hd => ?_⟩⟩⟩
    have s4 : Same H (upd (upd H2 p2 (.lst (cut (ns.map V.int) none (some 63)))) p3 (.lst (cut (ns.map V.int) none (some 63)))) := (s2.trans (same_upd hp2)).trans (same_upd hp3)
    have nbd : b ≠ d := ne_of_none (((same_upd hp2).trans (same_upd hp3)) _ _ g2) hd
    refine q d b _ (s4.free hd) hb0 ⟨(ns.take 63).reverse, _, _, upd_same, ?_, ?_⟩ (s4.trans (same_upd hd))
    · rw [upd_ne nbd]
      exact ((same_upd hp2).trans (same_upd hp3)) _ _ g2
    · rw [List.length_reverse, List.length_take]
      exact Nat.min_le_left _ _
theorem ok_name (T : Txt K mg) (c__law_draw : Callee P w K mg base 2 "_law_draw" ["_law_deck_here", "_law_most"] spDraw) (D : DefAt K mg "_law_name" s_law_name ["_law_deck_here"]) : Callee P w K mg base 3 "_law_name" ["_law_deck_here"] spName := by
  refine D.go sc_law_name (fun vs H Q E h => ?_) (fun f cdv A outer s H vs Q E hr h => ?_)
  · obtain ⟨d, b, rfl, _⟩ := h; rfl
  · obtain ⟨d, b, rfl, dk, q⟩ := h
    have hr__law_draw := hr
    refine ⟨_, (R.scons (R.ife (R.tcmp R.eq (R.fn c__law_draw hr__law_draw rfl (R.cons (R.v 0) (R.cons R.int R.nil))) R.int)
      (R.sone (R.ret (R.ix (R.kiL (K := K)) (R.lst (R.cons R.str (R.cons R.str (R.cons R.str (R.cons R.str (R.cons R.str (R.cons R.str (R.cons R.str (R.cons R.str R.nil))))))))) (R.fn c__law_draw hr__law_draw rfl (R.cons (R.v 0) (R.cons R.int R.nil))))))
      R.snil)
      (R.scons (R.set (i := 1) sc_law_name.nd R.str)
      (R.sone (R.ret (R.kbm (K := K) PySem.F.plainAttrs_str PySem.F.slot_str_join PySem.F.type_str_join (R.kjoin (K := K)) R.str (R.cons (R.comp rfl (js := [none, some 0, some 1]) (N := ["_law_k", "_law_deck_here", "_law_letters"]) (CompScope.by (defScope s_law_name) ["_law_deck_here", "_law_letters"] rfl rfl (by decide +kernel)) (gown_name rfl) (R.range1 rfl T.b_range (R.cons (R.op R.add R.int (R.fn c__law_draw hr__law_draw rfl (R.cons (R.v 0) (R.cons R.int R.nil)))) R.nil)) (fun C s₂ H₂ fp => ⟨(R.gn (i := 0) (show (["_law_k", "_law_deck_here", "_law_letters"] : List Str).Nodup by decide +kernel)), R.ts0, (R.ix R.iS (R.v 2) (R.fn c__law_draw hr__law_draw rfl (R.cons (R.v 1) (R.cons R.int R.nil))))⟩)) R.nil)))))), ?_⟩
    refine ⟨d, b, 4, rfl, dk, by decide, by decide, fun r0 H1 a0 a1 D1 k1 => ?_⟩
    refine if_b (fun _ => ?_) (fun _ => ?_)
    · refine ⟨szl rfl, fun l hl => ⟨d, b, 8, rfl, D1.new hl, by decide, by decide, fun r H2 b0 b1 D2 k2 => ⟨_, SqL.of (k2 l _ upd_same (D1.ne hl).1 (D1.ne hl).2), ?_⟩⟩⟩
      have kp := (k1.trans (.new hl)).trans k2
      rcases eight b0 b1 with rfl | rfl | rfl | rfl | rfl | rfl | rfl | rfl
      all_goals exact ⟨_, rfl, q _ H2 ⟨by decide +kernel, by decide +kernel, by decide +kernel⟩ D2 kp⟩
    · refine ⟨rfl, d, b, 8, rfl, D1, by decide, by decide, fun r H2 b0 b1 D2 k2 => ⟨1 + r, rfl, by omega, by omega, ?_⟩⟩
      have k12 := k1.trans k2
      refine comp_seq (seq_range 0 (1 + r).toNat) (by simp [rangeV]; omega) (fun i ys H' => Dk H' d b ∧ Kp d b H H' ∧ ∃ ts : List Nat, ys = ts.map (fun c => V.str (tx [c])) ∧ ts.length = i ∧ ∀ c ∈ ts, c ∈ LET) (fun i ys H' ⟨_, _, ts, e, e2, _⟩ => ⟨trivial, by rw [e, List.length_map, e2]; exact Nat.le_refl _⟩) ⟨D2, k12, [], rfl, rfl, (fun _ h => nomatch h)⟩ (fun i x ys H' hx ⟨Di, kpi, ts, e, e2, e3⟩ => ?_) (fun ys H' ⟨Di, kpi, ts, e, e2, e3⟩ => ?_)
      · refine ⟨d, b, 26, rfl, Di, by decide, by decide, fun r2 H'' r20 r21 Dj kpj => ⟨by decide +kernel, ?_⟩⟩
        obtain ⟨c, hc, hm⟩ := atI_some (xs := ("abcdefghijklmnopqrstuvwxyz" : Str).cps.toList) r20 (by
          have : (("abcdefghijklmnopqrstuvwxyz" : Str).cps.toList.length : Int) = 26 := by decide +kernel
          rw [this]; exact r21)
        rw [let_eq] at hm
        refine ⟨c, hc, Dj, kpi.trans kpj, ts ++ [c], by rw [e, List.map_append]; rfl, by rw [List.length_append, e2]; rfl, fun c' hc' => ?_⟩
        rcases List.mem_append.mp hc' with h | h
        · exact e3 c' h
        · rw [List.mem_singleton.mp h]; exact hm
      · intro p hp
        have hts : ts.length = (1 + r).toNat := by rw [e2]; simp [rangeV]
        refine ⟨_, p, ts.map (fun c => tx [c]), rfl, rfl, SqL.of (by rw [upd_same, e, List.map_map]; rfl), ?_, ?_⟩
        · rw [sum_ones, List.length_map, emp_eq, tx_len]; simp; omega
        · have hq := q (tx ts) (upd H' p (.lst ys)) ⟨by rw [tx_len]; omega, by rw [tx_len]; omega, fun c hc => e3 c (by simpa using hc)⟩ (Di.new hp) (kpi.trans (.new hp))
          rw [← join_signs, ← emp_eq] at hq
          exact hq
theorem ok_names (T : Txt K mg) (c__law_name : Callee P w K mg base 3 "_law_name" ["_law_deck_here"] spName) (D : DefAt K mg "_law_names" s_law_names ["_law_deck_here", "_law_many"]) : Callee P w K mg base 4 "_law_names" ["_law_deck_here", "_law_many"] spNames := by
  refine D.go sc_law_names (fun vs H Q E h => ?_) (fun f cdv A outer s H vs Q E hr h => ?_)
  · obtain ⟨d, b, m, rfl, _⟩ := h; rfl
  · obtain ⟨d, b, m, rfl, dk, hm, q⟩ := h
    have hr__law_name := hr
    refine ⟨_, (R.scons (R.set (i := 2) sc_law_names.nd R.str)
      (R.scons (R.set (i := 3) sc_law_names.nd (R.lst R.nil))
      (R.scons (R.for_ PassesOwn.never rfl (R.range1 rfl T.b_range (R.cons (R.v 1) R.nil)) (R.gn (i := 4) sc_law_names.nd)
      (R.scons (R.set (i := 5) sc_law_names.nd (R.fn c__law_name hr__law_name rfl (R.cons (R.v 0) R.nil)))
      (R.scons (R.ife (R.tcmp (R.kinQ (K := K)) (R.v 5) (R.v 3))
      (R.scons (R.scomp (i := 6) sc_law_names.nd rfl (Or.inl rfl) rfl (js := [none, some 2]) (N := ["_law_k", "_law_letters"]) (CompScope.by (defScope s_law_names) ["_law_deck_here", "_law_many", "_law_letters", "_law_found", "_law_k", "_law_name_here", "_law_others"] rfl rfl (by decide +kernel)) (gown_name rfl) (R.range1 rfl T.b_range (R.cons R.int R.nil)) (fun C s₂ H₂ fp => ⟨(R.gn (i := 0) (show (["_law_k", "_law_letters"] : List Str).Nodup by decide +kernel)), R.ts0, (R.op R.addS (R.op R.addS (R.ix R.iS (R.v 1) (R.op R.fdiv (R.v 0) R.int)) (R.ix R.iS (R.v 1) (R.op R.mod (R.v 0) R.int))) R.str)⟩) rfl)
      (R.sone (R.set (i := 5) sc_law_names.nd (R.ix (R.kiL (K := K)) (R.comp rfl (js := [none, some 3]) (N := ["_law_other", "_law_found"]) (CompScope.by (defScope s_law_names) ["_law_deck_here", "_law_many", "_law_letters", "_law_found", "_law_k", "_law_name_here", "_law_others"] rfl rfl (by decide +kernel)) (gown_name rfl) (R.kwL (K := K) (R.v 6)) (fun C s₂ H₂ fp => ⟨(R.gn (i := 0) (show (["_law_other", "_law_found"] : List Str).Nodup by decide +kernel)), (R.ts1 (R.tcmp (R.knotInQ (K := K)) (R.v 0) (R.v 1))), (R.v 0)⟩)) R.int))))
      R.snil)
      (R.sone (R.expr (R.kbm (K := K) PySem.F.plainAttrs_list PySem.F.slot_list_append PySem.F.type_list_append R.append (R.v 3) (R.cons (R.v 5) R.nil)))))))
      (R.sone (R.ret (R.v 3)))))), ?_⟩
    refine ⟨szl rfl, fun l hl => ⟨m, rfl, by omega, by omega, ?_⟩⟩
    have hld := dk.ne hl
    have e0 : ((m : Int)).toNat = m := by omega
    refine for_seq (seq_range 0 (m : Int).toNat) (fun i σ H' => ∃ (zs : List Str) (o4 o5 o6 : Option V), σ = [some (.ref d), some (.int m), some (.str "abcdefghijklmnopqrstuvwxyz"), some (.ref l), o4, o5, o6] ∧ zs.length = i ∧ (∀ z ∈ zs, isNm z) ∧ zs.Nodup ∧ H' l = some (.lst (zs.map V.str)) ∧ Dk H' d b ∧ Kp d b H H') (fun _ _ _ _ => trivial) ⟨[], _, _, _, rfl, rfl, (fun _ h => nomatch h), List.nodup_nil, upd_same, dk.new hl, .new hl⟩ ?_ ?_
    · rintro i x σ H1 hx ⟨zs, o4, o5, o6, rfl, hzl, hnm, hnd, g1, D1, k1⟩
      have hi : i < m := by
        have := (List.getElem?_eq_some_iff.mp hx).1
        simp [rangeV] at this
        omega
      refine ⟨d, b, rfl, D1, fun z H2 hz D2 k2 => ?_⟩
      have g2 := k2 l _ g1 hld.1 hld.2
      dsimp only [gName]
      refine cutS (t := tIfS _ _ _) (fun σ' H' => ∃ (z' : Str) (o4 o6 : Option V), σ' = [some (.ref d), some (.int m), some (.str "abcdefghijklmnopqrstuvwxyz"), some (.ref l), o4, some (.str z'), o6] ∧ isNm z' ∧ ¬ z' ∈ zs ∧ H' l = some (.lst (zs.map V.str)) ∧ Dk H' d b ∧ Kp d b H H') (fun nx hnx => ?_) (fun σ' H' hr' => ?_)
      · refine ⟨l, _, rfl, .inl (SqL.of g2), rfl, flat_strs zs, ?_⟩
        dsimp only
        rw [if_neg Bool.false_ne_true, inV_str]
        refine if_b (fun hb => ?_) (fun hb => ?_)
        · refine ⟨100, rfl, by decide, by decide, ?_⟩
          refine comp_seq (seq_range 0 100) (by decide) (fun i ys H' => ys = ((List.range i).map other).map V.str ∧ H' = H2) (fun i ys H' ⟨e, _⟩ => ⟨trivial, by rw [e]; simp⟩) ⟨rfl, rfl⟩ (fun i x ys H' hx ⟨e, e2⟩ => ?_) (fun ys H' ⟨e, e2⟩ => ?_)
          · have hi100 : i < 100 := by
              have := (List.getElem?_eq_some_iff.mp hx).1
              simpa [rangeV] using this
            have ex : x = .int (i : Int) := by
              unfold rangeV at hx
              rw [List.getElem?_map, List.getElem?_range hi100] at hx
              have := Option.some.inj hx
              rw [← this]
              show V.int (0 + (i : Int)) = _
              rw [Int.zero_add]
            subst ex
            have hat : ∀ j : Nat, j < 26 → atI (("abcdefghijklmnopqrstuvwxyz" : Str).cps.toList) (j : Int) = some (LET.getD j 0) := fun j hj => by
              rw [let_eq]
              refine atI_nat ?_
              have : ∀ j, j < 26 → LET[j]? = some (LET.getD j 0) := by decide +kernel
              exact this j hj
            refine ⟨⟨by decide, by decide⟩, by decide +kernel, _, hat (i / 26) (by omega), by show (0 : Int) < _; decide, by decide +kernel, _, hat (i % 26) (by omega), szl rfl, szl' ?_, ?_, e2⟩
            · rw [app_len, tx_len, tx_len, (by decide +kernel : ("q" : Str).length = 1)]; simp
            · rw [e, List.range_succ, List.map_append, List.map_append]
              rfl
          · intro p hp
            subst e2
            have e3 : ys = others.map V.str := by rw [e]; rfl
            subst e3
            have ge := at_upd (u := .lst (others.map V.str)) g2 hp
            refine ⟨p, rfl, ⟨_, SqL.of upd_same⟩, comp_pure (seq_list _ p (others.map V.str)) (by decide +kernel) (fun v => match v with | .str y => !decide (y ∈ zs) | _ => false) id (SqL.of upd_same) (fun v ys N hv ht hf => ?_) ?_⟩
            · obtain ⟨y, hy, rfl⟩ := List.mem_map.mp hv
              refine ⟨l, _, rfl, .inl (SqL.of ge), rfl, flat_strs zs, ?_⟩
              dsimp only
              rw [if_pos rfl, inV_str]
              exact if_b (fun h => ht h) (fun h => hf h)
            · intro p2 hp2
              have ef : (List.map id (List.filter (fun v => match v with | .str y => !decide (y ∈ zs) | _ => false) (others.map V.str))) = (others.filter (fun y => !decide (y ∈ zs))).map V.str := by
                rw [List.map_id, List.filter_map]; rfl
              rw [ef]
              cases hfl : others.filter (fun y => !decide (y ∈ zs)) with
              | nil => exact absurd hfl (some_out others zs others_nodup (by rw [hzl]; show i < 100; omega))
              | cons y ys2 =>
                have hy : y ∈ others.filter (fun y => !decide (y ∈ zs)) := by rw [hfl]; exact List.mem_cons_self
                obtain ⟨hy1, hy2⟩ := List.mem_filter.mp hy
                refine ⟨_, SqL.of upd_same, .str y, atI_nat (j := 0) rfl, ?_⟩
                refine hnx _ _ ⟨y, _, _, rfl, others_nm y hy1, by simpa using hy2, at_upd ge hp2, (D2.new hp).new hp2, ((k1.trans k2).trans (.new hp)).trans (.new hp2)⟩
        · exact hnx _ _ ⟨z, _, _, rfl, hz, of_decide_eq_false hb, g2, D2, k1.trans k2⟩
      · obtain ⟨z', p4, p6, rfl, hz', hno, g3, D3, k3⟩ := hr'
        refine ⟨.inl ⟨rfl, _, SqL.of g3⟩, l, _, _, rfl, rfl, g3, Nat.lt_of_le_of_lt (m := 60) (by rw [List.length_map, hzl]; omega) (by decide), ?_⟩
        refine ⟨zs ++ [z'], _, _, _, rfl, by rw [List.length_append, hzl]; rfl, fun y hy => ?_, ?_, by rw [upd_same, List.map_append]; rfl, ?_, fun c o e n1 n2 => ?_⟩
        · rcases List.mem_append.mp hy with h | h
          · exact hnm y h
          · rw [List.mem_singleton.mp h]; exact hz'
        · exact nd_snoc hnd hno
        · obtain ⟨ns, s0, kk, f1, f2, f3⟩ := D3.ex
          exact ⟨ns, s0, kk, by rw [upd_ne hld.1.symm]; exact f1, by rw [upd_ne hld.2.symm]; exact f2, f3⟩
        · rw [upd_ne (ne_of_none e hl)]; exact k3 c o e n1 n2
    · rintro σ H1 ⟨zs, o4, o5, o6, rfl, hzl, hnm, hnd, g1, D1, k1⟩
      exact q l zs H1 (by rw [hzl]; simp [rangeV]) hnm hnd hl g1 D1 k1
theorem ok_amount (T : Txt K mg) (c__law_draw : Callee P w K mg base 2 "_law_draw" ["_law_deck_here", "_law_most"] spDraw) (D : DefAt K mg "_law_amount" s_law_amount ["_law_deck_here", "_law_least"]) : Callee P w K mg base 3 "_law_amount" ["_law_deck_here", "_law_least"] spAmount := by
  refine D.go sc_law_amount (fun vs H Q E h => ?_) (fun f cdv A outer s H vs Q E hr h => ?_)
  · obtain ⟨d, b, m, rfl, _⟩ := h; rfl
  · obtain ⟨d, b, m, rfl, m0, m1, dk, q⟩ := h
    have hr__law_draw := hr
    refine ⟨_, (R.scons (R.set (i := 2) sc_law_amount.nd (R.lst (R.cons (R.v 1) (R.cons (R.op R.add (R.v 1) R.int) (R.cons (R.op R.pow R.int R.int) (R.cons (R.op R.sub (R.op R.pow R.int R.int) R.int) (R.cons (R.op R.add (R.fn c__law_draw hr__law_draw rfl (R.cons (R.v 0) (R.cons R.int R.nil))) (R.v 1)) R.nil)))))))
      (R.scons (R.expr (R.kbm (K := K) PySem.F.plainAttrs_list PySem.F.slot_list_append PySem.F.type_list_append R.append (R.v 2) (R.cons (R.callB (R.max rfl) rfl T.b_max bb_max (R.cons (R.v 1) (R.cons (R.op R.add (R.op R.mul (R.fn c__law_draw hr__law_draw rfl (R.cons (R.v 0) (R.cons (R.op R.pow R.int R.int) R.nil))) (R.op R.pow R.int R.int)) (R.fn c__law_draw hr__law_draw rfl (R.cons (R.v 0) (R.cons (R.op R.pow R.int R.int) R.nil)))) R.nil))) R.nil)))
      (R.sone (R.ret (R.ix (R.kiL (K := K)) (R.v 2) (R.fn c__law_draw hr__law_draw rfl (R.cons (R.v 0) (R.cons R.int R.nil)))))))), ?_⟩
    have e6 : (10 : Int) ^ (6 : Int).toNat = 1000000 := by decide
    have e12 : (10 : Int) ^ (12 : Int).toNat = 1000000000000 := by decide
    refine ⟨⟨by decide, by decide, by decide⟩, ⟨by decide, by decide, by decide⟩, d, b, 40, rfl, dk, by decide, by decide, fun r1 H1 a0 a1 D1 k1 => ⟨szl rfl, fun l hl => ?_⟩⟩
    have hld := D1.ne hl
    refine ⟨.inl ⟨rfl, _, SqL.of upd_same⟩, ⟨by decide, by decide, by decide⟩, d, b, _, rfl, D1.new hl, by decide, by decide, fun r2 H2 b0 b1 D2 k2 => ⟨⟨by decide, by decide, by decide⟩, .inr ⟨by decide, by decide⟩, ⟨by decide, by decide, by decide⟩, d, b, _, rfl, D2, by decide, by decide, fun r3 H3 c0 c1 D3 k3 => ?_⟩⟩
    rw [e6] at b1 c1
    have g := (k2.trans k3) l _ upd_same hld.1 hld.2
    refine ⟨l, _, _, rfl, rfl, g, by show 5 < sizeLine; decide, ?_⟩
    have D4 : ∀ o, Dk (upd H3 l o) d b := fun o => by
      obtain ⟨ns, s0, kk, f1, f2, f3⟩ := D3.ex
      exact ⟨ns, s0, kk, by rw [upd_ne hld.1.symm]; exact f1, by rw [upd_ne hld.2.symm]; exact f2, f3⟩
    have k4 : ∀ o, Kp d b H (upd H3 l o) := fun o c u e n1 n2 => by
      have hc : c ≠ l := ne_of_none (k1 c u e n1 n2) hl
      rw [upd_ne hc]
      exact (k2.trans k3) c u (by rw [upd_ne hc]; exact k1 c u e n1 n2) n1 n2
    refine ⟨d, b, 6, rfl, D4 _, by decide, by decide, fun r4 H4 d0 d1 D5 k5 => ⟨_, SqL.of (k5 l _ upd_same hld.1 hld.2), ?_⟩⟩
    have kp := (k4 _).trans k5
    have bd : ∀ n : Int, m ≤ n → n ≤ 1000000000000 → Q (.int n) H4 := fun n h0 h1 => q n H4 h0 h1 D5 kp
    rcases six d0 d1 with rfl | rfl | rfl | rfl | rfl | rfl
    · exact ⟨_, rfl, bd _ (by omega) (by omega)⟩
    · exact ⟨_, rfl, bd _ (by omega) (by omega)⟩
    · exact ⟨_, rfl, bd _ (by rw [e12]; omega) (by rw [e12]; omega)⟩
    · exact ⟨_, rfl, bd _ (by rw [e12]; omega) (by rw [e12]; omega)⟩
    · exact ⟨_, rfl, bd _ (by omega) (by omega)⟩
    · refine ⟨_, rfl, bd _ ?_ ?_⟩
      · rw [e6]; split <;> omega
      · rw [e6]; split <;> omega
theorem ok_initF {C : Addr} (T : Txt K mg) (B : BkT K C) (D : ClsAt K mg "Book" C "Book.__init__" s_Book___init__ ["self", "rows"] [[], [.non]]) : ∀ d ∈ ([[], [.non]] : List (List V)), Mkr P w K mg base 1 "Book" C ["self", "rows"] d (spInitF C) := by
  refine D.go sc_Book___init__ (fun vs H Q E h => ?_) (fun f cdv A outer s H vs Q E hr h => ?_)
  · obtain ⟨p, dx, r, prs, rfl, _⟩ := h; rfl
  · obtain ⟨p, dx, r, prs, rfl, hp, hR, nd, hz, q⟩ := h
    refine ⟨_, (R.scons (R.ksfld (K := K) (R.v 0) R.dnew)
      (R.sone (R.ife (R.tcmp R.notN (R.v 1) R.non)
      (R.sone (R.ksfld (K := K) (R.v 0) (R.callTy (R.kdictOf (K := K) rfl) rfl T.b_dict bb_dict (R.cons (R.v 1) R.nil))))
      R.snil))), ?_⟩
    intro d1 hd1
    have np := ne_of_none hp hd1
    refine ⟨C, dx, [], (by rw [upd_ne np]; exact hp), B.cl, B.nA, (by show 0 < 1000; decide), ?_⟩
    have g1 : (upd (upd H d1 (.dK [])) p (.ins C dx [("amounts", .ref d1)])) p = some (.ins C dx [("amounts", .ref d1)]) := upd_same
    have g2 : (upd (upd H d1 (.dK [])) p (.ins C dx [("amounts", .ref d1)])) d1 = some (.dK []) := by rw [upd_ne np.symm]; exact upd_same
    have k1 : ∀ b o, H b = some o → b ≠ p → (upd (upd H d1 (.dK [])) p (.ins C dx [("amounts", .ref d1)])) b = some o := fun b o e hb => by rw [upd_ne hb, upd_ne (ne_of_none e hd1)]; exact e
    dsimp only
    rw [put0]
    generalize upd (upd H d1 (.dK [])) p (.ins C dx [("amounts", .ref d1)]) = H1 at g1 g2 k1
    rcases hR with ⟨rfl, rfl⟩ | ⟨l, zs, rfl, hl, hza, rfl⟩
    · exact q H1 d1 hd1 g1 g2 k1
    · have nl : l ≠ p := ne_of hl hp (fun z => nomatch z)
      have hza1 : ZAt H1 zs := fun z hz => k1 _ _ (hza z hz) (ne_of (hza z hz) hp (fun z => nomatch z))
      refine ⟨wz zs, by rw [wz_ref]; exact SqL.of (k1 _ _ hl nl), wz_at hza1, by unfold wz; rw [List.length_map]; simpa using hz, fun d hd => ?_⟩
      have hd0 : H d = none := by
        cases e : H d with
        | none => rfl
        | some o =>
          by_cases z : d = p
          · rw [z, g1] at hd; cases hd
          · rw [k1 d o e z] at hd; cases hd
      rw [wz_dkv, merge_dkv nd]
      refine ⟨C, dx, _, (by rw [upd_ne (ne_of_none g1 hd)]; exact g1), B.cl, B.nA, (by show 1 < 1000; decide), ?_⟩
      refine q _ d hd0 (by rw [upd_same, put1]) (by rw [upd_ne (ne_of_none g1 hd).symm]; exact upd_same) fun b o e hb => ?_
      rw [upd_ne hb, upd_ne (ne_of_none (k1 b o e hb) hd)]
      exact k1 b o e hb
theorem ok_amount_of {C : Addr} (B : BkT K C) (D : MethAt K C "amount" "Book.amount" s_Book_amount ["self", "name"]) : Mth P w K mg base 1 C "amount" ["self", "name"] (spAmountOf C) := by
  refine D.go sc_Book_amount (fun vs H Q E h => ?_) (fun f cdv A outer s H vs Q E hr h => ?_)
  · obtain ⟨p, n, prs, rfl, _⟩ := h; rfl
  · obtain ⟨p, n, prs, rfl, bk, q⟩ := h
    have hu1 := hu_of hr
    obtain ⟨dx, d, h1, h2⟩ := bk.ex
    refine ⟨_, (R.sone (R.ret (R.dget2 hu1 (R.kfld (K := K) (R.v 0)) (R.v 1) R.int))), ?_⟩
    refine ⟨C, dx, _, .ref d, h1, B.cl, B.nA, fld_amounts _, d, rfl, .inl ⟨_, .inl h2⟩, _, DGet.k (k := Sum.inr n) h2, ?_⟩
    rw [dkv_amt]
    exact q
theorem take_snoc {α : Type} {xs : List α} {i : Nat} {x : α} (h : xs[i]? = some x) : xs.take (i + 1) = xs.take i ++ [x] := by
  rw [List.take_succ, h]
  rfl
theorem ok_rows_of {C : Addr} (T : Txt K mg) (B : BkT K C) (D : MethAt K C "rows" "Book.rows" s_Book_rows ["self"]) : Mth P w K mg base 1 C "rows" ["self"] (spRowsOf C) := by
  refine D.go sc_Book_rows (fun vs H Q E h => ?_) (fun f cdv A outer s H vs Q E hr h => ?_)
  · obtain ⟨p, prs, rfl, _⟩ := h; rfl
  · obtain ⟨p, prs, rfl, bk, hz, q⟩ := h
    have hu1 := hu_of hr
    obtain ⟨dx, d, h1, h2⟩ := bk.ex
    refine ⟨_, (R.sone (R.ret (R.comp rfl (js := [none, some 0]) (N := ["name", "self"]) (CompScope.by (defScope s_Book_rows) ["self"] rfl rfl (by decide +kernel)) (gown_name rfl) (R.kwL (K := K) (R.callB (R.sortedD rfl) rfl T.b_sorted bb_sorted (R.cons (R.kfld (K := K) (R.v 0)) R.nil))) (fun C s₂ H₂ fp => ⟨(R.gn (i := 0) (show (["name", "self"] : List Str).Nodup by decide +kernel)), (R.ts1 (R.tcmp R.gt (R.dix hu1 (R.kfld (K := K) (R.v 1)) (R.v 0)) R.int)), (R.tup (R.cons (R.v 0) (R.cons (R.dix hu1 (R.kfld (K := K) (R.v 1)) (R.v 0)) R.nil)))⟩)))), ?_⟩
    refine ⟨C, dx, _, .ref d, h1, B.cl, B.nA, fld_amounts _, prs.map (·.1), _, .inl h2, dkv_keys prs, by rw [List.length_map]; exact hz, fun l hl => ⟨l, rfl, ⟨_, SqL.of upd_same⟩, ?_⟩⟩
    have s1 : Same H (upd H l (.lst ((srt (prs.map (·.1))).map V.str))) := same_upd hl
    have g1 : (upd H l (.lst ((srt (prs.map (·.1))).map V.str))) l = some (.lst ((srt (prs.map (·.1))).map V.str)) := upd_same
    generalize upd H l (.lst ((srt (prs.map (·.1))).map V.str)) = H1 at s1 g1
    have hlen : (srt (prs.map (·.1))).length < 64 := by rw [srt_len, List.length_map]; exact hz
    refine comp_seq (seq_list K l ((srt (prs.map (·.1))).map V.str)) (by rw [List.length_map]; omega) (fun i ys H' => ∃ zs : List Z, ys = zref zs ∧ Same H1 H' ∧ ZAt H' zs ∧ zs.length ≤ i ∧ zs.map (·.2) = (((srt (prs.map (·.1))).take i).filter fun n => decide (0 < amt prs n)).map fun n => (n, amt prs n))
      (fun i ys H' ⟨zs, e, s', _, hl', _⟩ => ⟨SqL.of (s' _ _ g1), by rw [e]; unfold zref; rw [List.length_map]; exact hl'⟩) ⟨[], rfl, Same.refl _, (fun _ h => nomatch h), Nat.le_refl _, rfl⟩ (fun i x ys H' hx ⟨zs, e, s', hza, hzl, hzm⟩ => ?_) (fun ys H' ⟨zs, e, s', hza, hzl, hzm⟩ => ?_)
    · rw [List.getElem?_map] at hx
      cases hn : (srt (prs.map (·.1)))[i]? with
      | none => rw [hn] at hx; cases hx
      | some n =>
        rw [hn] at hx
        cases hx
        have hmem : n ∈ prs.map (·.1) := (srt_perm _).mem_iff.mp (List.mem_of_getElem? hn)
        obtain ⟨a, ha⟩ := has_lookup hmem
        have ea : amt prs n = a := by unfold amt; rw [ha]; rfl
        have gd : ∀ H'', Same H1 H'' → DGet H'' d (.str n) (some (.int a)) := fun H'' s'' => by
          have := DGet.k (k := Sum.inr n) (s''  _ _ (s1 _ _ h2))
          rw [dkv_val, ha] at this
          exact this
        have h1' := s' _ _ (s1 _ _ h1)
        refine ⟨C, dx, _, .ref d, h1', B.cl, B.nA, fld_amounts _, d, _, rfl, gd H' s', ?_⟩
        refine if_b (fun hb => ?_) (fun hb => ?_)
        · have hb' : 0 < a := by simpa using hb
          refine ⟨C, dx, _, .ref d, h1', B.cl, B.nA, fld_amounts _, d, _, rfl, gd H' s', szl rfl, fun t ht => ⟨zs ++ [(t, n, a)], by rw [e]; unfold zref; rw [List.map_append]; rfl, s'.trans (same_upd ht), ?_, by rw [List.length_append]; simpa using hzl, ?_⟩⟩
          · intro z hz'
            rcases List.mem_append.mp hz' with m | m
            · exact (hza.same (same_upd ht)) z m
            · rw [List.mem_singleton.mp m]; exact upd_same
          · rw [List.map_append, hzm, take_snoc hn, List.filter_append, List.map_append]
            congr 1
            rw [List.filter_cons, if_pos (by rw [ea]; exact decide_eq_true hb')]
            rw [← ea]
            rfl
        · have hb' : ¬ 0 < a := by simpa using hb
          refine ⟨zs, e, s', hza, by omega, ?_⟩
          rw [hzm, take_snoc hn, List.filter_append, List.filter_cons, if_neg (by rw [ea]; simpa using hb')]
          simp
    · intro l2 hl2
      subst e
      refine q l2 zs _ (s1.trans (s'.trans (same_upd hl2))) ?_ upd_same (hza.same (same_upd hl2)) ?_
      · exact s1.free (s'.free hl2)
      · rw [hzm, List.length_map, List.take_length]
        rfl
end
end KL
namespace KL
open PySem L2
section
variable {P : Program} {w : World} {K : W.Frag} {mg : Str → Option Value} {base : Heap}
def setP (prs : List (Str × Int)) (n : Str) (v : Int) : List (Str × Int) := if n ∈ prs.map (·.1) then putA prs n v else prs ++ [(n, v)]
def chgP : List (Str × Int) → List (Str × Int) → List (Str × Int)
  | prs, [] => prs
  | prs, q :: r => chgP (setP prs q.1 (amt prs q.1 + q.2)) r
theorem chgP_snoc : ∀ (cs prs : List (Str × Int)) (q : Str × Int), chgP prs (cs ++ [q]) = setP (chgP prs cs) q.1 (amt (chgP prs cs) q.1 + q.2)
  | [], _, _ => rfl
  | p :: r, prs, q => chgP_snoc r _ q
theorem setP_dkv {prs : List (Str × Int)} {n : Str} {v : Int} : putK (dkv prs) (Sum.inr n) (.int v) = dkv (setP prs n v) := by
  unfold setP
  by_cases h : n ∈ prs.map (·.1)
  · rw [if_pos h]; exact put_dkv h
  · rw [if_neg h]
    have hv : valV (dkv prs) (Sum.inr n) = none := by
      cases e : valV (dkv prs) (Sum.inr n) with
      | none => rfl
      | some x =>
        have := valV_in e
        rw [dkv_keys] at this
        obtain ⟨m, hm, e2⟩ := List.mem_map.mp this
        cases e2
        exact absurd hm h
    rw [putK_new _ hv]
    unfold dkv
    rw [List.map_append]
    rfl
theorem setP_keys {prs : List (Str × Int)} {n : Str} {v : Int} : (setP prs n v).map (·.1) = if n ∈ prs.map (·.1) then prs.map (·.1) else prs.map (·.1) ++ [n] := by
  unfold setP
  by_cases h : n ∈ prs.map (·.1)
  · rw [if_pos h, if_pos h]; exact keys_putA _ _ _
  · rw [if_neg h, if_neg h, List.map_append]; rfl
theorem setP_nd {prs : List (Str × Int)} {n : Str} {v : Int} (h : (prs.map (·.1)).Nodup) : ((setP prs n v).map (·.1)).Nodup := by
  rw [setP_keys]
  split
  · exact h
  · rename_i hn; exact nd_snoc h hn
theorem setP_in {prs : List (Str × Int)} {n : Str} {v : Int} {zn : List Str} (h : ∀ m ∈ prs.map (·.1), m ∈ zn) (hn : n ∈ zn) : ∀ m ∈ (setP prs n v).map (·.1), m ∈ zn := by
  rw [setP_keys]
  split
  · exact h
  · intro m hm
    rcases List.mem_append.mp hm with hm | hm
    · exact h m hm
    · cases List.mem_singleton.mp hm; exact hn
theorem chgP_nd : ∀ (cs prs : List (Str × Int)), (prs.map (·.1)).Nodup → ((chgP prs cs).map (·.1)).Nodup
  | [], _, h => h
  | _ :: r, _, h => chgP_nd r _ (setP_nd h)
theorem chgP_in {zn : List Str} : ∀ (cs prs : List (Str × Int)), (∀ m ∈ prs.map (·.1), m ∈ zn) → (∀ q ∈ cs, q.1 ∈ zn) → ∀ m ∈ (chgP prs cs).map (·.1), m ∈ zn
  | [], _, h, _ => h
  | q :: r, _, h, hc => chgP_in r _ (setP_in h (hc q List.mem_cons_self)) fun p hp => hc p (List.mem_cons_of_mem _ hp)
theorem nd_le {xs : List Str} : ∀ {ys : List Str}, xs.Nodup → (∀ x ∈ xs, x ∈ ys) → xs.length ≤ ys.length := by
  induction xs with
  | nil => exact fun _ _ => Nat.zero_le _
  | cons x r ih =>
    intro ys hn h
    obtain ⟨h1, h2⟩ := List.nodup_cons.mp hn
    have hx := h x List.mem_cons_self
    have := ih (ys := ys.erase x) h2 fun y hy => (List.mem_erase_of_ne (fun e => h1 (by rw [← e]; exact hy))).mpr (h y (List.mem_cons_of_mem _ hy))
    rw [List.length_erase_of_mem hx] at this
    have hp : 0 < ys.length := List.length_pos_of_mem hx
    rw [List.length_cons]
    omega
def goodP (prs : List (Str × Int)) (q : Str × Int) : Prop := 0 ≤ amt prs q.1 + q.2 ∧ amt prs q.1 + q.2 ≤ 1000000000000
instance (prs : List (Str × Int)) (q : Str × Int) : Decidable (goodP prs q) := inferInstanceAs (Decidable (_ ∧ _))
def badP (prs cs : List (Str × Int)) : Option Str := (cs.find? fun q => !decide (goodP prs q)).map (·.1)
theorem badP_none {prs cs : List (Str × Int)} (h : ∀ q ∈ cs, goodP prs q) : badP prs cs = none := by
  unfold badP
  rw [List.find?_eq_none.mpr fun q hq => by simp [h q hq]]
  rfl
theorem badP_some {prs cs : List (Str × Int)} {i : Nat} {q : Str × Int} (h : ∀ p ∈ cs.take i, goodP prs p) (hi : cs[i]? = some q) (hq : ¬ goodP prs q) : badP prs cs = some q.1 := by
  have e : cs = cs.take i ++ q :: cs.drop (i + 1) := by
    have := (List.getElem?_eq_some_iff.mp hi)
    obtain ⟨hl, e⟩ := this
    rw [← e, ← List.drop_eq_getElem_cons hl, List.take_append_drop]
  unfold badP
  rw [e, List.find?_append, List.find?_eq_none.mpr fun p hp => by simp [h p hp]]
  simp [hq]
theorem ok_ninit {CN fI : Addr} (XA : XAtt K CN "name") (D : InitAt K fI "NoChange.__init__" s_NoChange___init__ ["self", "name"]) : XInit P w K mg base 1 CN fI "name" := by
  refine D.go sc_NoChange___init__ rfl (fun cdv A outer s H vs Q E hr h => ?_)
  obtain ⟨e, t, v, rfl, he, q⟩ := h
  exact ⟨_, (R.sone (R.ksfldX (K := K) (R.v 0) (R.v 1))), CN, t, he, XA, q⟩
def spChangeX (C CN : Addr) : Sp := fun vs H Q E => ∃ (p dx d t : Addr) (prs : List (Str × Int)) (zs : List Z) (zn : List Str), vs = [.ref p, .ref t] ∧ H p = some (.ins C dx [("amounts", .ref d)]) ∧ H d = some (.dK (dkv prs)) ∧ (prs.map (·.1)).Nodup ∧ (H t = some (.lst (zref zs)) ∨ H t = some (.tup (zref zs))) ∧ ZAt H zs ∧
  (∀ m ∈ prs.map (·.1), m ∈ zn) ∧ (∀ q ∈ zs.map (·.2), q.1 ∈ zn) ∧ zn.length ≤ 60 ∧
  (badP prs (zs.map (·.2)) = none → ∀ H', H' d = some (.dK (dkv (chgP prs (zs.map (·.2))))) → (∀ b o, H b = some o → b ≠ d → H' b = some o) → Q .non H') ∧
  (∀ n, badP prs (zs.map (·.2)) = some n → ∀ dx' H', Same H H' → H' dx' = some (.xd [("name", .str n)]) → E (.ref CN) (some dx') H')
theorem pair_at {H : Hp} {zs : List Z} {i : Nat} {x : V} (hz : ZAt H zs) (hx : (zref zs)[i]? = some x) : ∃ z, zs[i]? = some z ∧ x = .ref z.1 ∧ H z.1 = some (.tup [.str z.2.1, .int z.2.2]) := by
  unfold zref at hx
  rw [List.getElem?_map] at hx
  obtain ⟨z, hn, rfl⟩ := Option.map_eq_some_iff.mp hx
  exact ⟨z, hn, rfl, hz z (List.mem_of_getElem? hn)⟩
theorem ok_changeX {C CN fI : Addr} (T : Txt K mg) (B : BkT K C) (X_NoChange : XClsI K mg "NoChange" CN fI) (i_NoChange : XInit P w K mg base 1 CN fI "name") (c_Book_amount : Mth P w K mg base 1 C "amount" ["self", "name"] (spAmountOf C)) (D : MethAt K C "change" "Book.change" s_Book_change ["self", "changes"]) : MthX P w K mg base 3 C "change" ["self", "changes"] (spChangeX C CN) := by
  refine D.goX sc_Book_change (fun vs H Q E h => ?_) (fun f cdv A outer s H vs Q E hr h => ?_)
  · obtain ⟨p, dx, d, t, prs, zs, zn, rfl, _⟩ := h; rfl
  · obtain ⟨p, dx, d, t, prs, zs, zn, rfl, hp, hd, nd, ht, hz, hin, hcz, h60, Q0, E0⟩ := h
    have hr_Book_amount : Room 1 _ := hr.mono (by decide)
    have hr_NoChange : Room 2 _ := hr
    have hu1 := hu_of hr
    refine ⟨_, (R.scons (R.for_ passes_cx rfl (R.kwLT (K := K) (R.v 1)) (R.kgt (K := K) (n := 2) rfl (R.gsc (R.gn (i := 2) sc_Book_change.nd) (R.gsc (R.gn (i := 3) sc_Book_change.nd) R.gsn)))
      (R.sone (R.ife (R.tnot (R.tchain R.le R.le R.int (R.op R.add (R.meth c_Book_amount hr_Book_amount (R.v 0) (R.cons (R.v 2) R.nil)) (R.v 3)) (R.gI rfl T.g_MOST)))
      (R.sone (R.raiseI X_NoChange i_NoChange hr_NoChange leaves_here rfl rfl (R.cons (R.v 2) R.nil)))
      R.snil)))
      (R.sone (R.for_ passes_cx rfl (R.kwLT (K := K) (R.v 1)) (R.kgt (K := K) (n := 2) rfl (R.gsc (R.gn (i := 2) sc_Book_change.nd) (R.gsc (R.gn (i := 3) sc_Book_change.nd) R.gsn)))
      (R.sone (R.asg (R.op R.add (R.meth c_Book_amount hr_Book_amount (R.v 0) (R.cons (R.v 2) R.nil)) (R.v 3)) (R.gsub (R.kfld (K := K) (R.v 0)) (R.v 2) (R.setD hu1))))))), ?_⟩
    refine ⟨t, rfl, lt_seq ht fun J W sq hW => ?_⟩
    refine for_seq sq (fun i σ H' => H' = H ∧ (∀ q ∈ (zs.map (·.2)).take i, goodP prs q) ∧ ∃ o2 o3, σ = [some (.ref p), some (.ref t), o2, o3]) (fun i σ H' ⟨e, _⟩ => hW _ (by rw [e])) ⟨rfl, (fun q h => by simp at h), _, _, rfl⟩ ?_ ?_
    · rintro i x σ H' hx ⟨rfl, hg, o2, o3, rfl⟩
      obtain ⟨z, hn, rfl, gz⟩ := pair_at hz hx
      have hni : (zs.map (·.2))[i]? = some z.2 := by rw [List.getElem?_map, hn]; rfl
      refine ⟨z.1, _, rfl, SqT.of gz, rfl, _, _, rfl, _, _, rfl, rfl, dx, _, hp, fld_no _ (by decide +kernel), p, z.2.1, prs, rfl, ⟨⟨dx, d, hp, hd⟩, nd⟩, ?_⟩
      have bad : ¬ goodP prs z.2 → ∀ dx' : Addr, H' dx' = none → E (.ref CN) (some dx') (upd H' dx' (.xd [("name", .str z.2.1)])) := fun hb dx' hdx => E0 _ (badP_some hg hni hb) dx' _ (same_upd hdx) upd_same
      refine if_b (fun h0 => ?_) (fun h => ?_)
      · refine if_b (fun h => ?_) (fun h => ⟨rfl, fun q hq => ?_, _, _, rfl⟩)
        · exact ⟨_, rfl, bad fun hg' => absurd hg'.2 (by simpa using h)⟩
        · rw [take_snoc hni] at hq
          rcases List.mem_append.mp hq with hq | hq
          · exact hg q hq
          · cases List.mem_singleton.mp hq
            exact ⟨of_decide_eq_true h0, by simpa using h⟩
      · exact ⟨_, rfl, bad fun hg' => absurd hg'.1 (of_decide_eq_false h)⟩
    · rintro σ H' ⟨rfl, hg, o2, o3, rfl⟩
      have hlz : (zref zs).length = zs.length := by unfold zref; rw [List.length_map]
      rw [hlz, List.take_of_length_le (by rw [List.length_map]; exact Nat.le_refl _)] at hg
      refine ⟨t, rfl, lt_seq ht fun J2 W2 sq2 hW2 => ?_⟩
      have ntd : t ≠ d := by
        rcases ht with ht | ht
        · exact ne_of ht hd (fun z => nomatch z)
        · exact ne_of ht hd (fun z => nomatch z)
      have kt : ∀ {H'' : Hp}, (∀ b o, H' b = some o → b ≠ d → H'' b = some o) → H'' t = H' t := fun {H''} k => by
        rcases ht with ht | ht
        · rw [ht]; exact k _ _ ht ntd
        · rw [ht]; exact k _ _ ht ntd
      refine for_seq sq2 (fun i σ H'' => H'' d = some (.dK (dkv (chgP prs ((zs.map (·.2)).take i)))) ∧ (∀ b o, H' b = some o → b ≠ d → H'' b = some o) ∧ ∃ o2 o3, σ = [some (.ref p), some (.ref t), o2, o3]) (fun i σ H'' ⟨_, k, _⟩ => hW2 _ (kt k)) ⟨hd, fun b o e _ => e, _, _, rfl⟩ ?_ ?_
      · rintro i x σ H'' hx ⟨g, k, o2, o3, rfl⟩
        obtain ⟨z, hn, rfl, gz⟩ := pair_at (fun z m => k _ _ (hz z m) (ne_of (hz z m) hd (fun z => nomatch z))) hx
        have hni : (zs.map (·.2))[i]? = some z.2 := by rw [List.getElem?_map, hn]; rfl
        have hp' := k _ _ hp (ne_of hp hd (fun z => nomatch z))
        have nd' := chgP_nd ((zs.map (·.2)).take i) prs nd
        have hin' := chgP_in ((zs.map (·.2)).take i) prs hin (fun q hq => hcz q (List.mem_of_mem_take hq))
        have hle := nd_le nd' hin'
        rw [List.length_map] at hle
        refine ⟨z.1, _, rfl, SqT.of gz, rfl, _, _, rfl, _, _, rfl, rfl, dx, _, hp', fld_no _ (by decide +kernel), p, z.2.1, chgP prs ((zs.map (·.2)).take i), rfl, ⟨⟨dx, d, hp', g⟩, nd'⟩, ?_⟩
        refine ⟨C, dx, _, .ref d, hp', B.cl, B.nA, fld_amounts _, d, _, rfl, DPut.k (k := Sum.inr z.2.1) g ?_, ?_, fun b o e hb => ?_, _, _, rfl⟩
        · unfold dkv; rw [List.length_map]; exact Nat.lt_of_le_of_lt (show _ ≤ 60 by omega) (by decide)
        · rw [upd_same, setP_dkv, take_snoc hni, chgP_snoc]
        · rw [upd_ne hb]; exact k b o e hb
      · rintro σ H'' ⟨g, k, o2, o3, rfl⟩
        refine Q0 (badP_none hg) _ ?_ k
        rw [g, hlz, List.take_of_length_le (by rw [List.length_map]; exact Nat.le_refl _)]
end
end KL
namespace KL
open PySem L2
section
variable {P : Program} {w : World} {K : W.Frag} {mg : Str → Option Value} {base : Heap}
theorem none_of_same {H H' : Hp} {l : Addr} (s : Same H H') (h : H' l = none) : H l = none := by
  cases e : H l with
  | none => rfl
  | some o => rw [s _ _ e] at h; cases h
def dueV (prs cs : List (Str × Int)) : V := match badP prs cs with
  | none => .non
  | some n => .str n
def dueP (prs cs : List (Str × Int)) : List (Str × Int) := match badP prs cs with
  | none => chgP prs cs
  | some _ => prs
theorem dueV_none {prs cs : List (Str × Int)} (h : badP prs cs = none) : dueV prs cs = .non := by unfold dueV; rw [h]
theorem dueV_some {prs cs : List (Str × Int)} {n : Str} (h : badP prs cs = some n) : dueV prs cs = .str n := by unfold dueV; rw [h]
theorem dueP_none {prs cs : List (Str × Int)} (h : badP prs cs = none) : dueP prs cs = chgP prs cs := by unfold dueP; rw [h]
theorem dueP_some {prs cs : List (Str × Int)} {n : Str} (h : badP prs cs = some n) : dueP prs cs = prs := by unfold dueP; rw [h]
structure Told11 (K : W.Frag) (mg : Str → Option Value) (CN CD : Addr) (as bs : List Addr) : Prop where
  mD : mg "DoorError" = some (.ref CD)
  mC : mg "NoChange" = some (.ref CN)
  xm : W.exmOne K (.ref CN) (.ref CD) = some true
  xk : XKind K CN
  k1 : W.kitAny K (.ref CN) (as.map Value.ref) = some false
  k2 : W.kitAny K (.ref CN) (bs.map Value.ref) = some false
  k3 : W.kitOne K (.ref CN) (.ref CN) = some true
  k4 : W.kitOne K (.ref CN) (.type "ValueError") = some true
  hd : W.hasDictIn K CN = true
  nu : W.findIn K (.ref CN) "name" = some none
def spTold11 (C : Addr) : Sp := fun vs H Q _ => ∃ (p dx d t : Addr) (prs : List (Str × Int)) (zs : List Z) (zn : List Str), vs = [.ref p, .ref t] ∧ H p = some (.ins C dx [("amounts", .ref d)]) ∧ H d = some (.dK (dkv prs)) ∧ (prs.map (·.1)).Nodup ∧ (H t = some (.lst (zref zs)) ∨ H t = some (.tup (zref zs))) ∧ ZAt H zs ∧
  (∀ m ∈ prs.map (·.1), m ∈ zn) ∧ (∀ q ∈ zs.map (·.2), q.1 ∈ zn) ∧ zn.length ≤ 60 ∧
  ∀ H', H' d = some (.dK (dkv (dueP prs (zs.map (·.2))))) → (∀ b o, H b = some o → b ≠ d → H' b = some o) → Q (dueV prs (zs.map (·.2))) H'
theorem ok_told11 {C CN CD a1 a2 a3 a4 a5 a6 a7 a8 a9 a10 b1 b2 b3 b4 b5 b6 b7 : Addr} (T : Txt K mg) (M : Told11 K mg CN CD [a1, a2, a3, a4, a5, a6, a7, a8, a9, a10] [b1, b2, b3, b4, b5, b6, b7])
    (M_Busy : mg "Busy" = some (.ref a1)) (M_Down : mg "Down" = some (.ref a2)) (M_Late : mg "Late" = some (.ref a3)) (M_NoAsk : mg "NoAsk" = some (.ref a4)) (M_NoDeed : mg "NoDeed" = some (.ref a5)) (M_NoHouse : mg "NoHouse" = some (.ref a6)) (M_NoJournal : mg "NoJournal" = some (.ref a7)) (M_NoKey : mg "NoKey" = some (.ref a8)) (M_NoLine : mg "NoLine" = some (.ref a9)) (M_NoName : mg "NoName" = some (.ref a10))
    (M_NoNumber : mg "NoNumber" = some (.ref b1)) (M_NoRow : mg "NoRow" = some (.ref b2)) (M_NoRows : mg "NoRows" = some (.ref b3)) (M_NoWay : mg "NoWay" = some (.ref b4)) (M_Other : mg "Other" = some (.ref b5)) (M_Unsafe : mg "Unsafe" = some (.ref b6)) (M_Up : mg "Up" = some (.ref b7))
    (c_Book_change : MthX P w K mg base 3 C "change" ["self", "changes"] (spChangeX C CN)) (D : DefAt K mg "_law_told" s_law_told ["_law_book", "_law_changes_here"]) : Callee P w K mg base 4 "_law_told" ["_law_book", "_law_changes_here"] (spTold11 C) := by
  have M_DoorError := M.mD
  have M_NoChange := M.mC
  refine D.go sc_law_told (fun vs H Q E h => ?_) (fun f cdv A outer s H vs Q E hr h => ?_)
  · obtain ⟨p, dx, d, t, prs, zs, zn, rfl, _⟩ := h; rfl
  · obtain ⟨p, dx, d, t, prs, zs, zn, rfl, hp, hd, nd, ht, hz, hin, hcz, h60, Q0⟩ := h
    have hr_Book_change : Room 3 _ := hr
    refine ⟨_, (R.scons (R.set (i := 2) sc_law_told.nd R.str)
      (R.scons (R.ktry (K := K) (i := 3) M_DoorError rfl sc_law_told.nd (fun pn Ex => (R.sone (R.ife (R.tcmp R.isN (R.methX c_Book_change hr_Book_change takes_trying (R.v 0) (R.cons (R.v 1) R.nil)) R.non)
      (R.sone (R.set (i := 2) sc_law_told.nd R.non))
      R.snil)))
      (fun a => (R.scons (R.set (i := 4) sc_law_told.nd (R.lst (R.cons (R.callB (R.kisX (K := K)) rfl T.b_isinstance bb_isinstance (R.cons (R.v 3) (R.cons (R.tup (R.cons (R.gR rfl M_Busy) (R.cons (R.gR rfl M_Down) (R.cons (R.gR rfl M_Late) (R.cons (R.gR rfl M_NoAsk) (R.cons (R.gR rfl M_NoDeed) (R.cons (R.gR rfl M_NoHouse) (R.cons (R.gR rfl M_NoJournal) (R.cons (R.gR rfl M_NoKey) (R.cons (R.gR rfl M_NoLine) (R.cons (R.gR rfl M_NoName) R.nil))))))))))) R.nil))) R.nil)))
      (R.scons (R.expr (R.kbm (K := K) PySem.F.plainAttrs_list PySem.F.slot_list_append PySem.F.type_list_append R.append (R.v 4) (R.cons (R.callB (R.kisX (K := K)) rfl T.b_isinstance bb_isinstance (R.cons (R.v 3) (R.cons (R.tup (R.cons (R.gR rfl M_NoNumber) (R.cons (R.gR rfl M_NoRow) (R.cons (R.gR rfl M_NoRows) (R.cons (R.gR rfl M_NoWay) (R.cons (R.gR rfl M_Other) (R.cons (R.gR rfl M_Unsafe) (R.cons (R.gR rfl M_Up) R.nil)))))))) R.nil))) R.nil)))
      (R.sone (R.ife (R.tw (R.wand (R.val (R.callB (R.kisX (K := K)) rfl T.b_isinstance bb_isinstance (R.cons (R.v 3) (R.cons (R.gR rfl M_NoChange) R.nil)))) (R.wand (R.val (R.callB (R.kisX (K := K)) rfl T.b_isinstance bb_isinstance (R.cons (R.v 3) (R.cons (R.bty rfl T.b_ValueError bb_ValueError) R.nil)))) (R.wand1 (R.tcmp (R.knotInQ (K := K)) R.bl (R.v 4))))))
      (R.sone (R.set (i := 2) sc_law_told.nd (R.kxfld (K := K) (R.v 3))))
      R.snil))))))
      (R.sone (R.ret (R.v 2))))), ?_⟩
    refine ⟨dx, _, hp, fld_no _ (by decide +kernel), p, dx, d, t, prs, zs, zn, rfl, hp, hd, nd, ht, hz, hin, hcz, h60, fun hb H' g k => ?_, fun n hb dx' G sG gx => ⟨M.xm, fun e he => ?_⟩⟩
    · have := Q0 H' (by rw [dueP_none hb]; exact g) k
      rw [dueV_none hb] at this
      exact this
    · have s1 := same_upd (o := .ext (ExcO e (.ref CN) (some dx'))) he
      have ge : (upd G e (.ext (ExcO e (.ref CN) (some dx')))) e = some (.ext (ExcO e (.ref CN) (some dx'))) := upd_same
      have sG1 := sG.trans s1
      have gx1 := s1 _ _ gx
      generalize upd G e (.ext (ExcO e (.ref CN) (some dx'))) = G1 at s1 ge sG1 gx1 ⊢
      refine ⟨szl rfl, fun q1 hq1 => ⟨CN, false, _, same_upd hq1 _ _ ge, M.xk, .inl ⟨[a1, a2, a3, a4, a5, a6, a7, a8, a9, a10], upd_same, M.k1⟩, szl rfl, fun l hl => ?_⟩⟩
      dsimp only [gName]
      obtain ⟨G2, e2⟩ : ∃ G2, G2 = upd (upd G1 q1 (.tup [.ref a1, .ref a2, .ref a3, .ref a4, .ref a5, .ref a6, .ref a7, .ref a8, .ref a9, .ref a10])) l (.lst [.bl false]) := ⟨_, rfl⟩
      have s2 : Same G1 G2 := e2 ▸ (same_upd hq1).trans (same_upd hl)
      have gl : G2 l = some (.lst [.bl false]) := e2 ▸ upd_same
      have fl : G1 l = none := none_of_same (same_upd hq1) hl
      rw [← e2]
      clear e2
      refine ⟨.inl ⟨rfl, _, SqL.of gl⟩, szl rfl, fun q2 hq2 => ⟨CN, false, _, same_upd hq2 _ _ (s2 _ _ ge), M.xk, .inl ⟨[b1, b2, b3, b4, b5, b6, b7], upd_same, M.k2⟩, l, _, .bl false, rfl, rfl, same_upd hq2 _ _ gl, by show 1 < sizeLine; decide, ?_⟩⟩
      obtain ⟨G3, e3⟩ : ∃ G3, G3 = upd (upd G2 q2 (.tup [.ref b1, .ref b2, .ref b3, .ref b4, .ref b5, .ref b6, .ref b7])) l (.lst [.bl false, .bl false]) := ⟨_, rfl⟩
      have s3 : Same G1 G3 := fun c o e' => by
        rw [e3, upd_ne (ne_of_none e' fl)]
        exact same_upd hq2 _ _ (s2 _ _ e')
      have gl3 : G3 l = some (.lst [.bl false, .bl false]) := e3 ▸ upd_same
      dsimp only [List.cons_append, List.nil_append]
      rw [← e3]
      clear e3
      have ge3 := s3 _ _ ge
      have lk1 : ([(("name" : Str), V.str n)]).lookup ("name" : Str) = some (.str n) := by rw [List.lookup_cons]; simp
      refine ⟨CN, true, _, ge3, M.xk, .inr M.k3, CN, true, _, ge3, M.xk, M.k4, l, _, rfl, .inl (SqL.of gl3), rfl, rfl, e, CN, dx', _, .str n, rfl, ge3, s3 _ _ gx1, M.xk, M.hd, M.nu, lk1, ?_⟩
      have := Q0 G3 (by rw [dueP_some hb]; exact (sG1.trans s3) _ _ hd) (fun b o e _ => (sG1.trans s3) _ _ e)
      rw [dueV_some hb] at this
      exact this
def spDue11 : Sp := fun vs H Q _ => ∃ (t kd : Addr) (prs : List (Str × Int)) (zs : List Z), vs = [.ref t, .ref kd] ∧ H kd = some (.dK (dkv prs)) ∧ H t = some (.lst (zref zs)) ∧ ZAt H zs ∧ Q (dueV prs (zs.map (·.2))) H
theorem ok_due11 (T : Txt K mg) (D : DefAt K mg "_law_due" s_law_due ["_law_changes_here", "_law_known"]) : Callee P w K mg base 1 "_law_due" ["_law_changes_here", "_law_known"] spDue11 := by
  refine D.go sc_law_due (fun vs H Q E h => ?_) (fun f cdv A outer s H vs Q E hr h => ?_)
  · obtain ⟨t, kd, prs, zs, rfl, _⟩ := h; rfl
  · obtain ⟨t, kd, prs, zs, rfl, hd, ht, hz, Q0⟩ := h
    have Q1 : ∀ n, badP prs (zs.map (·.2)) = some n → Q (.str n) H := fun n hb => by rw [← dueV_some hb]; exact Q0
    have hu1 := hu_of hr
    refine ⟨_, (R.scons (R.for_ PassesOwn.never rfl (R.kwL (K := K) (R.v 0)) (R.kgt (K := K) (n := 2) rfl (R.gsc (R.gn (i := 2) sc_law_due.nd) (R.gsc (R.gn (i := 3) sc_law_due.nd) R.gsn)))
      (R.sone (R.ife (R.tnot (R.tchain R.le R.le R.int (R.op R.add (R.dget2 hu1 (R.v 1) (R.v 2) R.int) (R.v 3)) (R.op R.pow R.int R.int)))
      (R.sone (R.ret (R.v 2)))
      R.snil)))
      (R.sone (R.ret R.non))), ?_⟩
    have e12 : (10 : Int) ^ (12 : Int).toNat = 1000000000000 := by decide
    refine ⟨t, rfl, ⟨_, SqL.of ht⟩, ?_⟩
    refine for_seq (seq_list K t (zref zs)) (fun i σ H' => H' = H ∧ (∀ q ∈ (zs.map (·.2)).take i, goodP prs q) ∧ ∃ o2 o3, σ = [some (.ref t), some (.ref kd), o2, o3]) (fun i σ H' ⟨e, _⟩ => by rw [e]; exact SqL.of ht) ⟨rfl, (fun q h => by simp at h), _, _, rfl⟩ ?_ ?_
    · rintro i x σ H' hx ⟨rfl, hg, o2, o3, rfl⟩
      obtain ⟨z, hn, rfl, gz⟩ := pair_at hz hx
      have hni : (zs.map (·.2))[i]? = some z.2 := by rw [List.getElem?_map, hn]; rfl
      have dg := DGet.k (k := Sum.inr z.2.1) hd
      refine ⟨z.1, _, rfl, SqT.of gz, rfl, _, _, rfl, _, _, rfl, rfl, kd, rfl, .inl ⟨_, .inl hd⟩, _, dg, ?_⟩
      rw [dkv_amt]
      refine if_b (fun h0 => ?_) (fun h => ?_)
      · refine ⟨⟨by decide, by decide, by decide⟩, ?_⟩
        show if (!decide (amt prs z.2.1 + z.2.2 ≤ (10 : Int) ^ (12 : Int).toNat)) = true then _ else _
        rw [e12]
        refine if_b (fun h => ?_) (fun h => ⟨rfl, fun q hq => ?_, _, _, rfl⟩)
        · exact Q1 _ (badP_some hg hni fun hg' => absurd hg'.2 (by simpa using h))
        · rw [take_snoc hni] at hq
          rcases List.mem_append.mp hq with hq | hq
          · exact hg q hq
          · cases List.mem_singleton.mp hq
            exact ⟨of_decide_eq_true h0, by simpa using h⟩
      · exact Q1 _ (badP_some hg hni fun hg' => absurd hg'.1 (of_decide_eq_false h))
    · rintro σ H' ⟨rfl, hg, o2, o3, rfl⟩
      have hlz : (zref zs).length = zs.length := by unfold zref; rw [List.length_map]
      rw [hlz, List.take_of_length_le (by rw [List.length_map]; exact Nat.le_refl _)] at hg
      rw [dueV_none (badP_none hg)] at Q0
      exact Q0
end
end KL
namespace KL
open PySem L2
section
variable {P : Program} {w : World} {K : W.Frag} {mg : Str → Option Value} {base : Heap}
theorem int_at {xs : List V} (h : ∀ v ∈ xs, ∃ n, v = .int n) {r : Int} (r0 : 0 ≤ r) (r1 : r < xs.length) : ∃ n, atI xs r = some (.int n) := by
  obtain ⟨k, rfl⟩ := Int.eq_ofNat_of_zero_le r0
  have hk : k < xs.length := by omega
  obtain ⟨n, e⟩ := h _ (List.getElem_mem hk)
  exact ⟨n, atI_nat (by rw [List.getElem?_eq_getElem hk, e])⟩
def spBy : Sp := fun vs H Q _ => ∃ (d b : Addr) (m : Int), vs = [.ref d, .int m] ∧ Dk H d b ∧ ∀ n H', Dk H' d b → Kp d b H H' → Q (.int n) H'
theorem ok_by (T : Txt K mg) (c__law_draw : Callee P w K mg base 2 "_law_draw" ["_law_deck_here", "_law_most"] spDraw) (D : DefAt K mg "_law_by" s_law_by ["_law_deck_here", "_law_amount_here"]) : Callee P w K mg base 3 "_law_by" ["_law_deck_here", "_law_amount_here"] spBy := by
  refine D.go sc_law_by (fun vs H Q E h => ?_) (fun f cdv A outer s H vs Q E hr h => ?_)
  · obtain ⟨d, b, m, rfl, _⟩ := h; rfl
  · obtain ⟨d, b, m, rfl, dk, q⟩ := h
    have hr__law_draw := hr
    refine ⟨_, (R.scons (R.set (i := 2) sc_law_by.nd (R.op R.sub (R.op R.pow R.int R.int) (R.v 1)))
      (R.scons (R.set (i := 3) sc_law_by.nd (R.op R.sub (R.fn c__law_draw hr__law_draw rfl (R.cons (R.v 0) (R.cons R.int R.nil))) R.int))
      (R.scons (R.set (i := 4) sc_law_by.nd (R.lst (R.cons (R.op R.sub R.int (R.v 1)) (R.cons (R.v 2) (R.cons (R.v 3) (R.cons R.int (R.cons (R.fn c__law_draw hr__law_draw rfl (R.cons (R.v 0) (R.cons (R.op R.pow R.int R.int) R.nil))) (R.cons (R.op R.sub R.int (R.op R.fdiv (R.v 1) R.int)) (R.cons (R.v 3) (R.cons (R.op R.sub R.int (R.v 1)) (R.cons (R.v 2) R.nil)))))))))))
      (R.scons (R.set (i := 4) sc_law_by.nd (R.op R.cat (R.v 4) (R.lst (R.cons (R.op R.sub (R.op R.sub R.int (R.v 1)) R.int) (R.cons (R.op R.add (R.v 2) R.int) (R.cons (R.op R.sub R.int (R.op R.pow R.int R.int)) (R.cons (R.op R.pow R.int R.int) R.nil)))))))
      (R.sone (R.ret (R.ix (R.kiL (K := K)) (R.v 4) (R.fn c__law_draw hr__law_draw rfl (R.cons (R.v 0) (R.cons (R.ix (R.kiL (K := K)) (R.lst (R.cons R.int (R.cons R.int R.nil))) (R.callTy R.toInt rfl T.b_int bb_int (R.cons (R.cmp R.eq (R.fn c__law_draw hr__law_draw rfl (R.cons (R.v 0) (R.cons R.int R.nil))) R.int) R.nil))) R.nil)))))))))), ?_⟩
    refine ⟨⟨by decide, by decide, by decide⟩, ?_⟩
    dsimp only [gName]
    refine ⟨d, b, 30, rfl, dk, by decide, by decide, fun r1 H1 _ _ D1 k1 => ?_⟩
    dsimp only [gName]
    refine ⟨⟨by decide, by decide, by decide⟩, d, b, _, rfl, D1, by decide, by decide, fun r2 H2 _ _ D2 k2 => ⟨⟨by decide, by decide⟩, szl rfl, fun l hl => ?_⟩⟩
    dsimp only [gName]
    have D3 := D2.new (o := .lst [.int (0 - m), .int ((10 : Int) ^ (12 : Int).toNat - m), .int (r1 - 15), .int 0, .int r2, .int (0 - m / 2), .int (r1 - 15), .int (0 - m), .int ((10 : Int) ^ (12 : Int).toNat - m)]) hl
    have g3 : (upd H2 l (.lst [.int (0 - m), .int ((10 : Int) ^ (12 : Int).toNat - m), .int (r1 - 15), .int 0, .int r2, .int (0 - m / 2), .int (r1 - 15), .int (0 - m), .int ((10 : Int) ^ (12 : Int).toNat - m)])) l = _ := upd_same
    have s3 := same_upd (o := .lst [.int (0 - m), .int ((10 : Int) ^ (12 : Int).toNat - m), .int (r1 - 15), .int 0, .int r2, .int (0 - m / 2), .int (r1 - 15), .int (0 - m), .int ((10 : Int) ^ (12 : Int).toNat - m)]) hl
    generalize upd H2 l (.lst [.int (0 - m), .int ((10 : Int) ^ (12 : Int).toNat - m), .int (r1 - 15), .int 0, .int r2, .int (0 - m / 2), .int (r1 - 15), .int (0 - m), .int ((10 : Int) ^ (12 : Int).toNat - m)]) = H3 at D3 g3 s3 ⊢
    refine ⟨⟨by decide, by decide, by decide⟩, ⟨by decide, by decide, by decide⟩, szl rfl, fun l2 hl2 => ⟨_, _, same_upd hl2 _ _ g3, upd_same, szl rfl, fun l3 hl3 => ?_⟩⟩
    dsimp only [gName, List.cons_append, List.nil_append]
    have nl3 := (D3.new hl2).ne hl3
    have D5 := (D3.new hl2).new (o := .lst [.int (0 - m), .int ((10 : Int) ^ (12 : Int).toNat - m), .int (r1 - 15), .int 0, .int r2, .int (0 - m / 2), .int (r1 - 15), .int (0 - m), .int ((10 : Int) ^ (12 : Int).toNat - m), .int (0 - m - 1), .int ((10 : Int) ^ (12 : Int).toNat - m + 1), .int (0 - (10 : Int) ^ (13 : Int).toNat), .int ((10 : Int) ^ (20 : Int).toNat)]) hl3
    have s5 := (s3.trans (same_upd hl2)).trans (same_upd (o := .lst [.int (0 - m), .int ((10 : Int) ^ (12 : Int).toNat - m), .int (r1 - 15), .int 0, .int r2, .int (0 - m / 2), .int (r1 - 15), .int (0 - m), .int ((10 : Int) ^ (12 : Int).toNat - m), .int (0 - m - 1), .int ((10 : Int) ^ (12 : Int).toNat - m + 1), .int (0 - (10 : Int) ^ (13 : Int).toNat), .int ((10 : Int) ^ (20 : Int).toNat)]) hl3)
    refine ⟨szl rfl, fun l4 hl4 => ⟨d, b, 4, rfl, D5.new hl4, by decide, by decide, fun r4 H6 _ _ D6 k6 => ?_⟩⟩
    have nl4 := D5.ne hl4
    have g4 := k6 _ _ (upd_same (o := .lst [.int 9, .int 13])) nl4.1 nl4.2
    have g6 := k6 _ _ (same_upd (o := .lst [.int 9, .int 13]) hl4 _ _ upd_same) nl3.1 nl3.2
    have hmem : ∀ v ∈ [V.int (0 - m), .int ((10 : Int) ^ (12 : Int).toNat - m), .int (r1 - 15), .int 0, .int r2, .int (0 - m / 2), .int (r1 - 15), .int (0 - m), .int ((10 : Int) ^ (12 : Int).toNat - m), .int (0 - m - 1), .int ((10 : Int) ^ (12 : Int).toNat - m + 1), .int (0 - (10 : Int) ^ (13 : Int).toNat), .int ((10 : Int) ^ (20 : Int).toNat)], ∃ n, v = .int n := by
      intro v hv
      simp only [List.mem_cons, List.not_mem_nil, or_false] at hv
      rcases hv with rfl | rfl | rfl | rfl | rfl | rfl | rfl | rfl | rfl | rfl | rfl | rfl | rfl <;> exact ⟨_, rfl⟩
    have fin : ∀ (r : Int) H7, 0 ≤ r → r < 13 → Dk H7 d b → Kp d b H6 H7 → ∃ v, atI [V.int (0 - m), .int ((10 : Int) ^ (12 : Int).toNat - m), .int (r1 - 15), .int 0, .int r2, .int (0 - m / 2), .int (r1 - 15), .int (0 - m), .int ((10 : Int) ^ (12 : Int).toNat - m), .int (0 - m - 1), .int ((10 : Int) ^ (12 : Int).toNat - m + 1), .int (0 - (10 : Int) ^ (13 : Int).toNat), .int ((10 : Int) ^ (20 : Int).toNat)] r = some v ∧ Q v H7 := fun r H7 r0 r1' D7 k7 => by
      obtain ⟨n, hn⟩ := int_at hmem r0 r1'
      exact ⟨_, hn, q n H7 D7 ((((k1.trans k2).trans (Same.kp s5)).trans (.new hl4)).trans (k6.trans k7))⟩
    refine ⟨_, SqL.of g4, ?_⟩
    by_cases h7 : r4 = 1
    · subst h7
      refine ⟨_, rfl, d, b, 13, rfl, D6, by decide, by decide, fun r H7 r0 r1' D7 k7 => ⟨_, SqL.of (k7 _ _ g6 nl3.1 nl3.2), fin r H7 r0 r1' D7 k7⟩⟩
    · rw [if_neg (by simpa using h7)]
      refine ⟨_, rfl, d, b, 9, rfl, D6, by decide, by decide, fun r H7 r0 r1' D7 k7 => ⟨_, SqL.of (k7 _ _ g6 nl3.1 nl3.2), fin r H7 r0 (by omega) D7 k7⟩⟩
end
end KL
namespace KL
open PySem L2
section
variable {P : Program} {w : World} {K : W.Frag} {mg : Str → Option Value} {base : Heap}
theorem erase_strs : ∀ (l : List Str) (i : Nat), (l.map V.str).eraseIdx i = (l.eraseIdx i).map V.str
  | [], _ => rfl
  | _ :: _, 0 => rfl
  | x :: r, i + 1 => by rw [List.map_cons, List.eraseIdx_cons_succ, List.eraseIdx_cons_succ, List.map_cons, erase_strs r i]
theorem dk_ne11 {H : Hp} {d b c : Addr} {kvs : List (Key × V)} (D : Dk H d b) (e : H c = some (.dK kvs)) : c ≠ d ∧ c ≠ b := by
  obtain ⟨ns, s0, kk, f1, f2, _⟩ := D.ex
  exact ⟨ne_of e f1 (fun z => nomatch z), ne_of e f2 (fun z => nomatch z)⟩
theorem none_of_kp {H H' : Hp} {d b l : Addr} (k : Kp d b H H') (h : H' l = none) (n : l ≠ d ∧ l ≠ b) : H l = none := by
  cases e : H l with
  | none => rfl
  | some o => rw [k _ _ e n.1 n.2] at h; cases h
def spChanges11 : Sp := fun vs H Q _ => ∃ (d b l kd : Addr) (zn : List Str) (prs : List (Str × Int)), vs = [.ref d, .ref l, .ref kd] ∧ Dk H d b ∧ H l = some (.lst (zn.map V.str)) ∧ l ≠ d ∧ l ≠ b ∧ zn.length ≤ 60 ∧ H kd = some (.dK (dkv prs)) ∧
  ∀ lc (zs : List Z) H', H lc = none → H' lc = some (.lst (zref zs)) → ZAt H' zs → (∀ q ∈ zs.map (·.2), q.1 ∈ zn) → zs.length ≤ 60 → Dk H' d b → Kp d b H H' → Q (.ref lc) H'
theorem ok_changes11 (T : Txt K mg) (c__law_draw : Callee P w K mg base 2 "_law_draw" ["_law_deck_here", "_law_most"] spDraw) (c__law_by : Callee P w K mg base 3 "_law_by" ["_law_deck_here", "_law_amount_here"] spBy) (D : DefAt K mg "_law_changes" s_law_changes ["_law_deck_here", "_law_names_here", "_law_known"]) : Callee P w K mg base 4 "_law_changes" ["_law_deck_here", "_law_names_here", "_law_known"] spChanges11 := by
  refine D.go sc_law_changes (fun vs H Q E h => ?_) (fun f cdv A outer s H vs Q E hr h => ?_)
  · obtain ⟨d, b, l, kd, zn, prs, rfl, _⟩ := h; rfl
  · obtain ⟨d, b, l, kd, zn, prs, rfl, dk, gl, nl1, nl2, h60, gk, q⟩ := h
    have hr__law_draw : Room 2 _ := hr.mono (by decide)
    have hr__law_by : Room 3 _ := hr
    have hu1 := hu_of hr
    have hu : (A.deeper (PyProof.Rows.envOfC "_law_changes" (defScope s_law_changes) s.heap.objs.size f cdv)).units < cLine := by have := hr.units; omega
    refine ⟨_, (R.scons (R.set (i := 3) sc_law_changes.nd (R.ix (R.kiL (K := K)) (R.lst (R.cons (R.fn c__law_draw hr__law_draw rfl (R.cons (R.v 0) (R.cons R.int R.nil))) (R.cons (R.fn c__law_draw hr__law_draw rfl (R.cons (R.v 0) (R.cons R.int R.nil))) R.nil))) (R.callTy R.toInt rfl T.b_int bb_int (R.cons (R.cmp R.eq (R.fn c__law_draw hr__law_draw rfl (R.cons (R.v 0) (R.cons R.int R.nil))) R.int) R.nil))))
      (R.scons (R.set (i := 4) sc_law_changes.nd (R.callTy (R.ktoList (K := K)) rfl T.b_list bb_list (R.cons (R.v 1) R.nil)))
      (R.scons (R.set (i := 5) sc_law_changes.nd (R.lst R.nil))
      (R.scons (R.while_ PassesOwn.never (R.tw (R.wand (R.tcmp (R.keqNil (K := K) hu) (R.sl (R.ksL (K := K)) (R.v 5) (R.ps (R.v 3)) R.pn) (R.lst R.nil)) (R.wand1 (R.tcmp (R.kneNil (K := K) hu) (R.v 4) (R.lst R.nil)))))
      (R.scons (R.set (i := 6) sc_law_changes.nd (R.kbm (K := K) PySem.F.plainAttrs_list PySem.F.slot_list_pop PySem.F.type_list_pop R.popAt (R.v 4) (R.cons (R.fn c__law_draw hr__law_draw rfl (R.cons (R.v 0) (R.cons (R.callB (R.klenL (K := K)) rfl T.b_len bb_len (R.cons (R.v 4) R.nil)) R.nil))) R.nil)))
      (R.sone (R.expr (R.kbm (K := K) PySem.F.plainAttrs_list PySem.F.slot_list_append PySem.F.type_list_append R.append (R.v 5) (R.cons (R.wtup (R.cons (R.v 6) (R.cons (R.fn c__law_by hr__law_by rfl (R.cons (R.v 0) (R.cons (R.dget2 hu1 (R.v 2) (R.v 6) R.int) R.nil))) R.nil))) R.nil))))))
      (R.sone (R.ret (R.sl (R.ksL (K := K)) (R.v 5) R.pn (R.ps (R.v 3))))))))), ?_⟩
    refine cutS (t := tAsg _ _) (fun σ' H' => ∃ m : Nat, σ' = [some (.ref d), some (.ref l), some (.ref kd), some (.int m), none, none, none] ∧ m ≤ 20 ∧ Dk H' d b ∧ Kp d b H H') (fun nx hnx => ?_) ?_
    · refine ⟨d, b, 7, rfl, dk, by decide, by decide, fun r1 H2 a0 a1 D2 k2 => ⟨d, b, 21, rfl, D2, by decide, by decide, fun r2 H3 b0 b1 D3 k3 => ⟨szl rfl, fun lm hlm => ⟨d, b, 8, rfl, D3.new hlm, by decide, by decide, fun r3 H4 c0 c1 D4 k4 => ?_⟩⟩⟩⟩
      have glm := k4 _ _ (upd_same (H := H3) (o := .lst [.int r1, .int r2])) (D3.ne hlm).1 (D3.ne hlm).2
      have kk : Kp d b H H4 := ((k2.trans k3).trans (.new hlm)).trans k4
      obtain ⟨m1, e1⟩ := Int.eq_ofNat_of_zero_le a0
      obtain ⟨m2, e2⟩ := Int.eq_ofNat_of_zero_le b0
      refine ⟨_, SqL.of glm, ?_⟩
      rw [e1, e2]
      by_cases h7 : r3 = 7
      · subst h7
        exact ⟨_, rfl, hnx _ _ ⟨m2, rfl, by omega, D4, kk⟩⟩
      · rw [if_neg (by simpa using h7)]
        exact ⟨_, rfl, hnx _ _ ⟨m1, rfl, by omega, D4, kk⟩⟩
    rintro σ' H1 ⟨m, rfl, m20, D1, k1⟩
    have nl : l ≠ d ∧ l ≠ b := ⟨nl1, nl2⟩
    have nk := dk_ne11 dk gk
    have gl1 := k1 _ _ gl nl.1 nl.2
    have gk1 := k1 _ _ gk nk.1 nk.2
    refine ⟨_, .inl (SqL.of gl1), fun ll hll => ?_⟩
    dsimp only [gName]
    have D2 := D1.new (o := .lst (zn.map V.str)) hll
    have s2 := same_upd (o := .lst (zn.map V.str)) hll
    have g2 : (upd H1 ll (.lst (zn.map V.str))) ll = some (.lst (zn.map V.str)) := upd_same
    have nll := D1.ne hll
    generalize upd H1 ll (.lst (zn.map V.str)) = H2 at D2 s2 g2 ⊢
    refine ⟨szl rfl, fun lf hlf => ?_⟩
    dsimp only [gName]
    have D3 := D2.new (o := .lst []) hlf
    have s3 := same_upd (o := .lst []) hlf
    have g3 : (upd H2 lf (.lst [])) lf = some (.lst []) := upd_same
    have nlf := D2.ne hlf
    have nlf2 : ll ≠ lf := ne_of_none g2 hlf
    generalize upd H2 lf (.lst []) = H3 at D3 s3 g3 ⊢
    have fll : H ll = none := none_of_kp k1 hll nll
    have flf : H lf = none := none_of_kp k1 (none_of_same s2 hlf) nlf
    show tSeq (tWhile _ _) _ _ _ _
    refine ⟨fun k σ H' => ∃ (ls : List Str) (zs : List Z) (o6 : Option V), σ = [some (.ref d), some (.ref l), some (.ref kd), some (.int m), some (.ref ll), some (.ref lf), o6] ∧ H' ll = some (.lst (ls.map V.str)) ∧ ls.length = k ∧ (∀ x ∈ ls, x ∈ zn) ∧ H' lf = some (.lst (zref zs)) ∧ ZAt H' zs ∧ (∀ q ∈ zs.map (·.2), q.1 ∈ zn) ∧ zs.length + ls.length ≤ 60 ∧ Dk H' d b ∧ (∀ c o, H3 c = some o → c ≠ d → c ≠ b → c ≠ ll → c ≠ lf → H' c = some o), ⟨zn.length, zn, [], none, rfl, s3 _ _ g2, rfl, (fun x h => h), g3, (fun _ h => nomatch h), (fun _ h => nomatch h), by simpa using h60, D3, fun c o e _ _ _ _ => e⟩, ?_⟩
    rintro k σ H' ⟨ls, zs, o6, rfl, hls, hlk, hlz, hlf', hza, hzz, hsum, D', kk⟩
    have hzr : (zref zs).length = zs.length := by unfold zref; rw [List.length_map]
    have last : ∀ H4, Same H' H4 → ∃ xs, SqL K H4 lf xs ∧ ∀ lc, H4 lc = none → Q (.ref lc) (upd H4 lc (.lst (cut xs none (some (m : Int))))) := fun H4 s4 => by
      refine ⟨_, SqL.of (s4 _ _ hlf'), fun lc hlc => ?_⟩
      have ec : cut (zref zs) none (some (m : Int)) = zref (zs.take m) := (cut_to (zref zs) m).trans List.map_take.symm
      rw [ec]
      have s5 := s4.trans (same_upd (o := .lst (zref (zs.take m))) hlc)
      have D5 := (D'.same s4).new (o := .lst (zref (zs.take m))) hlc
      have nlc := (D'.same s4).ne hlc
      have kp : Kp d b H (upd H4 lc (.lst (zref (zs.take m)))) := fun c o e c1 c2 => s5 _ _ (kk _ _ (s3 _ _ (s2 _ _ (k1 _ _ e c1 c2))) c1 c2 (ne_of_none e fll) (ne_of_none e flf))
      refine q lc (zs.take m) _ ?_ upd_same (fun z hz => s5 _ _ (hza z (List.mem_of_mem_take hz))) (fun p hp => ?_) (by rw [List.length_take]; omega) D5 kp
      · refine none_of_kp (d := d) (b := b) (H' := H4) (fun c o e c1 c2 => s4 _ _ (kk _ _ (s3 _ _ (s2 _ _ (k1 _ _ e c1 c2))) c1 c2 (ne_of_none e fll) (ne_of_none e flf))) hlc nlc
      · obtain ⟨z, hz, rfl⟩ := List.mem_map.mp hp
        exact hzz _ (List.mem_map.mpr ⟨z, List.mem_of_mem_take hz, rfl⟩)
    refine ⟨_, SqL.of hlf', fun l5 hl5 => ⟨szl rfl, fun l6 hl6 => ⟨l5, l6, _, rfl, rfl, SqL.of (same_upd hl6 _ _ upd_same), SqL.of upd_same, ?_⟩⟩⟩
    have s6 := (same_upd (o := .lst (cut (zref zs) (some (m : Int)) none)) hl5).trans (same_upd (o := .lst []) hl6)
    generalize upd (upd H' l5 (.lst (cut (zref zs) (some (m : Int)) none))) l6 (.lst []) = H6 at s6 ⊢
    refine if_b (fun hb => ?_) (fun hb => ?_)
    · refine ⟨szl rfl, fun l7 hl7 => ⟨ll, l7, _, rfl, rfl, SqL.of (same_upd hl7 _ _ (s6 _ _ hls)), SqL.of upd_same, ?_⟩⟩
      have s7 := s6.trans (same_upd (o := .lst []) hl7)
      generalize upd H6 l7 (.lst []) = H7 at s7 ⊢
      refine if_b (fun hb2 => ?_) (fun hb2 => ?_)
      · have hk0 : 0 < ls.length := by
          cases ls with
          | nil => cases hb2
          | cons _ _ => exact Nat.succ_pos _
        refine ⟨_, fun σ' H' h => h, ?_⟩
        have D7 := D'.same s7
        refine ⟨.inl ⟨rfl, _, SqL.of (s7 _ _ hls)⟩, _, .inl (SqL.of (s7 _ _ hls)), d, b, _, rfl, D7, by rw [List.length_map]; omega, by rw [List.length_map]; omega, fun r H8 r0 r1 D8 k8 => ?_⟩
        rw [List.length_map] at r1
        obtain ⟨k', rfl⟩ := Int.eq_ofNat_of_zero_le r0
        have hk : k' < ls.length := by omega
        have g8 := k8 _ _ (s7 _ _ hls) nll.1 nll.2
        refine ⟨ll, _, _, k', .str ls[k'], rfl, rfl, g8, by omega, by omega, ?_, ?_, ?_⟩
        · rw [seqIndex_of (by omega) (by rw [List.length_map]; exact_mod_cast hk)]; rfl
        · rw [List.getElem?_map, List.getElem?_eq_getElem hk]; rfl
        rw [erase_strs]
        have g9 : (upd H8 ll (.lst ((ls.eraseIdx k').map V.str))) ll = some (.lst ((ls.eraseIdx k').map V.str)) := upd_same
        have k9 : ∀ c o, H8 c = some o → c ≠ ll → (upd H8 ll (.lst ((ls.eraseIdx k').map V.str))) c = some o := fun c o e hc => by rw [upd_ne hc]; exact e
        have D9 : Dk (upd H8 ll (.lst ((ls.eraseIdx k').map V.str))) d b := by
          obtain ⟨ns, s0, kk', f1, f2, f3⟩ := D8.ex
          exact ⟨ns, s0, kk', by rw [upd_ne nll.1.symm]; exact f1, by rw [upd_ne nll.2.symm]; exact f2, f3⟩
        dsimp only [gName]
        generalize upd H8 ll (.lst ((ls.eraseIdx k').map V.str)) = H9 at g9 k9 D9 ⊢
        have k39 : ∀ c o, H3 c = some o → c ≠ d → c ≠ b → c ≠ ll → c ≠ lf → H9 c = some o := fun c o e c1 c2 c3 c4 => k9 _ _ (k8 _ _ (s7 _ _ (kk _ _ e c1 c2 c3 c4)) c1 c2) c3
        have glf9 := k9 _ _ (k8 _ _ (s7 _ _ hlf') nlf.1 nlf.2) nlf2.symm
        have gk9 : H9 kd = some (.dK (dkv prs)) := k39 _ _ (s3 _ _ (s2 _ _ gk1)) nk.1 nk.2 (ne_of_none gk1 hll) (ne_of_none (s2 _ _ gk1) hlf)
        have za9 : ZAt H9 zs := fun z hz => by
          have h7 := s7 _ _ (hza z hz)
          have ne := (D'.same s7).tup_ne h7
          exact k9 _ _ (k8 _ _ h7 ne.1 ne.2) (ne_of h7 (s7 _ _ hls) (fun z => nomatch z))
        refine ⟨.inl ⟨rfl, _, SqL.of glf9⟩, kd, rfl, .inl ⟨_, .inl gk9⟩, _, DGet.k (k := Sum.inr ls[k']) gk9, ?_⟩
        rw [dkv_amt]
        refine ⟨d, b, _, rfl, D9, fun n H10 D10 k10 => ⟨by simp, fun t H11 s11 g11 => ?_⟩⟩
        have glf11 := s11 _ _ (k10 _ _ glf9 nlf.1 nlf.2)
        have za11 : ZAt H11 zs := fun z hz => by
          have ne := D9.tup_ne (za9 z hz)
          exact s11 _ _ (k10 _ _ (za9 z hz) ne.1 ne.2)
        refine ⟨lf, _, _, rfl, rfl, glf11, ?_, ls.length - 1, by omega, ls.eraseIdx k', zs ++ [(t, ls[k'], n)], _, rfl, ?_, ?_, ?_, ?_, ?_, ?_, ?_, ?_, ?_⟩
        · rw [hzr]; exact Nat.lt_of_le_of_lt (show zs.length ≤ 60 by omega) (by decide)
        · rw [upd_ne nlf2]; exact s11 _ _ (k10 _ _ g9 nll.1 nll.2)
        · rw [List.length_eraseIdx_of_lt hk]
        · exact fun x hx => hlz x (List.mem_of_mem_eraseIdx hx)
        · rw [upd_same]; unfold zref; rw [List.map_append]; rfl
        · intro z hz
          have e : H11 z.1 = some (.tup [.str z.2.1, .int z.2.2]) := by
            rcases List.mem_append.mp hz with h | h
            · exact za11 z h
            · cases List.mem_singleton.mp h; exact g11
          rw [upd_ne (ne_of e glf11 (fun z => nomatch z))]
          exact e
        · intro p hp
          rw [List.map_append] at hp
          rcases List.mem_append.mp hp with h | h
          · exact hzz p h
          · cases List.mem_singleton.mp h
            exact hlz _ (List.getElem_mem hk)
        · rw [List.length_append, List.length_eraseIdx_of_lt hk, List.length_singleton]; omega
        · obtain ⟨ns, s0, kk', f1, f2, f3⟩ := (D10.same s11).ex
          exact ⟨ns, s0, kk', by rw [upd_ne nlf.1.symm]; exact f1, by rw [upd_ne nlf.2.symm]; exact f2, f3⟩
        · intro c o e c1 c2 c3 c4
          rw [upd_ne c4]
          exact s11 _ _ (k10 _ _ (k39 _ _ e c1 c2 c3 c4) c1 c2)
      · exact last H7 s7
    · exact last H6 s6
end
end KL
namespace KL
open PySem L2
section
variable {P : Program} {w : World} {K : W.Frag} {mg : Str → Option Value} {base : Heap}
theorem dget_amt {prs : List (Str × Int)} {H : Hp} {k : Addr} {m : Str} (h : H k = some (.dK (dkv prs))) (hm : m ∈ prs.map (·.1)) : DGet H k (.str m) (some (.int (amt prs m))) := by
  obtain ⟨a, ha⟩ := has_lookup hm
  have := DGet.k (k := Sum.inr m) h
  rw [dkv_val, ha] at this
  have e : amt prs m = a := by unfold amt; rw [ha]; rfl
  rw [e]
  exact this
def spStands11 (C : Addr) : Sp := fun vs H Q _ => ∃ (p dx dd l kd : Addr) (prs : List (Str × Int)) (zn : List Str), vs = [.ref p, .ref l, .ref kd] ∧ H p = some (.ins C dx [("amounts", .ref dd)]) ∧ H dd = some (.dK (dkv prs)) ∧ H kd = some (.dK (dkv prs)) ∧ (prs.map (·.1)).Nodup ∧ prs.length < 64 ∧ H l = some (.lst (zn.map V.str)) ∧ ∀ H', Same H H' → Q (.bl true) H'
theorem ok_stands {C : Addr} (T : Txt K mg) (B : BkT K C) (c_Book_amount : Mth P w K mg base 1 C "amount" ["self", "name"] (spAmountOf C)) (c_Book_rows : Mth P w K mg base 1 C "rows" ["self"] (spRowsOf C)) (D : DefAt K mg "_law_stands" s_law_stands ["_law_book", "_law_names_here", "_law_known"]) : Callee P w K mg base 2 "_law_stands" ["_law_book", "_law_names_here", "_law_known"] (spStands11 C) := by
  refine D.go sc_law_stands (fun vs H Q E h => ?_) (fun f cdv A outer s H vs Q E hr h => ?_)
  · obtain ⟨p, dx, dd, l, kd, prs, zn, rfl, _⟩ := h; rfl
  · obtain ⟨p, dx, dd, l, kd, prs, zn, rfl, hp, hdd, hkd, nd, hpl, gl, Q0⟩ := h
    have hr_Book_amount : Room 1 _ := hr.mono (by decide)
    have hr_Book_rows : Room 1 _ := hr.mono (by decide)
    have hu1 := hu_of hr
    have hu64 := hr.units
    refine ⟨_, (R.scons (R.for_ PassesOwn.never rfl (R.kwL (K := K) (R.v 1)) (R.gn (i := 3) sc_law_stands.nd)
      (R.scons (R.set (i := 4) sc_law_stands.nd (R.meth c_Book_amount hr_Book_amount (R.v 0) (R.cons (R.v 3) R.nil)))
      (R.sone (R.ife (R.tw (R.wor (R.tnot (R.val (R.isi .int (R.v 4) rfl T.b_isinstance rfl T.b_int bb_int))) (R.wor (R.val (R.isi .bl (R.v 4) rfl T.b_isinstance rfl T.b_bool bb_bool)) (R.wor1 (R.tcmp R.ne (R.v 4) (R.dget2 hu1 (R.v 2) (R.v 3) R.int))))))
      (R.sone (R.ret R.bl))
      R.snil))))
      (R.sone (R.ret (R.cmp (R.eqD hu64) (R.meth0 c_Book_rows hr_Book_rows (R.v 0)) (R.comp rfl (js := [none, some 2]) (N := ["_law_name_here", "_law_known"]) (CompScope.by (defScope s_law_stands) ["_law_book", "_law_names_here", "_law_known", "_law_name_here", "_law_found"] rfl rfl (by decide +kernel)) (gown_name rfl) (R.kwL (K := K) (R.callB (R.sortedD rfl) rfl T.b_sorted bb_sorted (R.cons (R.v 2) R.nil))) (fun C s₂ H₂ fp => ⟨(R.gn (i := 0) (show (["_law_name_here", "_law_known"] : List Str).Nodup by decide +kernel)), (R.ts1 (R.tcmp R.gt (R.dix hu1 (R.v 1) (R.v 0)) R.int)), (R.tup (R.cons (R.v 0) (R.cons (R.dix hu1 (R.v 1) (R.v 0)) R.nil)))⟩)))))), ?_⟩
    refine ⟨l, rfl, ⟨_, SqL.of gl⟩, ?_⟩
    refine for_seq (seq_list K l (zn.map V.str)) (fun i σ H' => H' = H ∧ ∃ o3 o4, σ = [some (.ref p), some (.ref l), some (.ref kd), o3, o4]) (fun i σ H' ⟨e, _⟩ => by rw [e]; exact SqL.of gl) ⟨rfl, _, _, rfl⟩ ?_ ?_
    · rintro i x σ H' hx ⟨rfl, o3, o4, rfl⟩
      rw [List.getElem?_map] at hx
      obtain ⟨n, hn, rfl⟩ := Option.map_eq_some_iff.mp hx
      refine ⟨dx, _, hp, fld_no _ (by decide +kernel), p, n, prs, rfl, ⟨⟨dx, dd, hp, hdd⟩, nd⟩, ?_⟩
      dsimp only [gName]
      refine ⟨.int, trivial, .int, trivial, kd, rfl, .inl ⟨_, .inl hkd⟩, _, DGet.k (k := Sum.inr n) hkd, ?_⟩
      rw [dkv_amt]
      show if (!decide (amt prs n = amt prs n)) = true then _ else _
      rw [decide_eq_true rfl, if_neg (by decide)]
      exact ⟨rfl, _, _, rfl⟩
    · rintro σ H' ⟨rfl, o3, o4, rfl⟩
      refine ⟨dx, _, hp, fld_no _ (by decide +kernel), p, prs, rfl, ⟨⟨dx, dd, hp, hdd⟩, nd⟩, hpl, fun lt zt HF sF nlt gF hzF eF => ?_⟩
      have hkF := sF _ _ hkd
      refine ⟨prs.map (·.1), _, .inl hkF, dkv_keys prs, by rw [List.length_map]; exact hpl, fun l hl => ⟨l, rfl, ⟨_, SqL.of upd_same⟩, ?_⟩⟩
      have s1 : Same HF (upd HF l (.lst ((srt (prs.map (·.1))).map V.str))) := same_upd hl
      have g1 : (upd HF l (.lst ((srt (prs.map (·.1))).map V.str))) l = some (.lst ((srt (prs.map (·.1))).map V.str)) := upd_same
      generalize upd HF l (.lst ((srt (prs.map (·.1))).map V.str)) = HG at s1 g1 ⊢
      have hlen : (srt (prs.map (·.1))).length < 64 := by rw [srt_len, List.length_map]; exact hpl
      refine comp_seq (seq_list K l ((srt (prs.map (·.1))).map V.str)) (by rw [List.length_map]; omega) (fun i ys H' => ∃ zs : List Z, ys = zref zs ∧ Same HG H' ∧ ZAt H' zs ∧ zs.length ≤ i ∧ zs.map (·.2) = (((srt (prs.map (·.1))).take i).filter fun n => decide (0 < amt prs n)).map fun n => (n, amt prs n))
        (fun i ys H' ⟨zs, e, s', _, hl', _⟩ => ⟨SqL.of (s' _ _ g1), by rw [e]; unfold zref; rw [List.length_map]; exact hl'⟩) ⟨[], rfl, Same.refl _, (fun _ h => nomatch h), Nat.le_refl _, rfl⟩ (fun i x ys H' hx ⟨zs, e, s', hza, hzl, hzm⟩ => ?_) (fun ys H' ⟨zs, e, s', hza, hzl, hzm⟩ => ?_)
      · rw [List.getElem?_map] at hx
        cases hn : (srt (prs.map (·.1)))[i]? with
        | none => rw [hn] at hx; cases hx
        | some n =>
          rw [hn] at hx
          cases hx
          have hmem : n ∈ prs.map (·.1) := (srt_perm _).mem_iff.mp (List.mem_of_getElem? hn)
          have gd := dget_amt (s' _ _ (s1 _ _ hkF)) hmem
          refine ⟨kd, _, rfl, gd, ?_⟩
          refine if_b (fun hb => ?_) (fun hb => ?_)
          · refine ⟨kd, _, rfl, gd, szl rfl, fun t ht => ⟨zs ++ [(t, n, amt prs n)], by rw [e]; unfold zref; rw [List.map_append]; rfl, s'.trans (same_upd ht), ?_, by rw [List.length_append]; simpa using hzl, ?_⟩⟩
            · intro z hz'
              rcases List.mem_append.mp hz' with m | m
              · exact (hza.same (same_upd ht)) z m
              · rw [List.mem_singleton.mp m]; exact upd_same
            · rw [List.map_append, hzm, take_snoc hn, List.filter_append, List.map_append]
              congr 1
              rw [List.filter_cons, if_pos (by exact hb)]
              rfl
          · refine ⟨zs, e, s', hza, by omega, ?_⟩
            rw [hzm, take_snoc hn, List.filter_append, List.filter_cons, if_neg (by rw [hb]; decide)]
            simp
      · intro l2 hl2
        subst e
        have sZ := (s1.trans s').trans (same_upd (o := .lst (zref zs)) hl2)
        refine ⟨2, rowsT (rowsOf prs), by decide, ?_, ?_, Q0 _ ?_⟩
        · rw [← eF]; exact rep_rows (sZ _ _ gF) (hzF.same sZ)
        · have e3 : zs.map (·.2) = rowsOf prs := by
            rw [hzm, List.length_map, List.take_length]
            rfl
          rw [← e3]; exact rep_rows upd_same (hza.same (same_upd hl2))
        · exact sF.trans sZ
end
end KL
namespace KL
open PySem L2
section
variable {P : Program} {w : World} {K : W.Frag} {mg : Str → Option Value} {base : Heap}
theorem ins_ne11 {H : Hp} {d b c C dx : Addr} {fs : List (Str × V)} (D : Dk H d b) (e : H c = some (.ins C dx fs)) : c ≠ d ∧ c ≠ b := by
  obtain ⟨ns, s0, kk, f1, f2, _⟩ := D.ex
  exact ⟨ne_of e f1 (fun z => nomatch z), ne_of e f2 (fun z => nomatch z)⟩
theorem ne_self {v : V} {H : Hp} {Q : VK} (h : v = .non ∨ ∃ n, v = .str n) (q : Q (.bl false) H) : mNe v v H Q := by
  rcases h with rfl | ⟨n, rfl⟩
  · exact q
  · show Q (.bl (!decide (n = n))) H
    rw [decide_eq_true rfl]
    exact q
theorem dueV_is (prs cs : List (Str × Int)) : dueV prs cs = .non ∨ ∃ n, dueV prs cs = .str n := by
  cases h : badP prs cs with
  | none => exact .inl (dueV_none h)
  | some n => exact .inr ⟨n, dueV_some h⟩
def spLaw (K : W.Frag) : Sp := fun vs H Q _ => ∃ (a : Addr) (ns : List Int), vs = [.ref a] ∧ SqL K H a (ns.map V.int) ∧ ns.length ≤ 63 ∧ ∀ H', Q (.bl true) H'
theorem ok_law {C : Addr} (T : Txt K mg) (B : BkT K C) (c__law_deck : Callee P w K mg base 1 "_law_deck" ["_law_script"] (spDeck K)) (c__law_draw : Callee P w K mg base 2 "_law_draw" ["_law_deck_here", "_law_most"] spDraw) (c__law_names : Callee P w K mg base 4 "_law_names" ["_law_deck_here", "_law_many"] spNames) (c__law_amount : Callee P w K mg base 3 "_law_amount" ["_law_deck_here", "_law_least"] spAmount)
    (c__law_changes : Callee P w K mg base 4 "_law_changes" ["_law_deck_here", "_law_names_here", "_law_known"] spChanges11) (c__law_due : Callee P w K mg base 1 "_law_due" ["_law_changes_here", "_law_known"] spDue11) (c__law_told : Callee P w K mg base 4 "_law_told" ["_law_book", "_law_changes_here"] (spTold11 C)) (c__law_stands : Callee P w K mg base 2 "_law_stands" ["_law_book", "_law_names_here", "_law_known"] (spStands11 C))
    (c_Book : Mkr P w K mg base 1 "Book" C ["self", "rows"] [] (spInitF C))
    {f : Addr} {fd : FuncData} (F : Fun K "law" "law" s_law f fd) : FnOk P w K mg base CX0 6 f fd ["_law_script"] (spLaw K) := by
  refine F.go sc_law (fun vs H Q E h => ?_) (fun cdv A outer s H vs Q E hr h => ?_)
  · obtain ⟨a, ns, rfl, _⟩ := h; rfl
  · obtain ⟨a, ns, rfl, hS, hlen, q⟩ := h
    have hr__law_deck : Room 1 _ := hr.mono (by decide)
    have hr__law_draw : Room 2 _ := hr.mono (by decide)
    have hr__law_names : Room 4 _ := hr.mono (by decide)
    have hr__law_amount : Room 3 _ := hr.mono (by decide)
    have hr__law_changes : Room 4 _ := hr.mono (by decide)
    have hr__law_due : Room 1 _ := hr.mono (by decide)
    have hr__law_told : Room 4 _ := hr.mono (by decide)
    have hr__law_stands : Room 2 _ := hr.mono (by decide)
    have hr_Book : Room 2 _ := hr.mono (by decide)
    have hu1 := hu_of hr
    have hu64 := hr.units
    refine ⟨_, (R.scons (R.set (i := 1) sc_law.nd (R.fn c__law_deck hr__law_deck rfl (R.cons (R.v 0) R.nil)))
      (R.scons (R.set (i := 2) sc_law.nd (R.ix (R.kiL (K := K)) (R.lst (R.cons (R.fn c__law_draw hr__law_draw rfl (R.cons (R.v 1) (R.cons R.int R.nil))) (R.cons (R.fn c__law_draw hr__law_draw rfl (R.cons (R.v 1) (R.cons R.int R.nil))) R.nil))) (R.callTy R.toInt rfl T.b_int bb_int (R.cons (R.cmp R.eq (R.fn c__law_draw hr__law_draw rfl (R.cons (R.v 1) (R.cons R.int R.nil))) R.int) R.nil))))
      (R.scons (R.set (i := 3) sc_law.nd (R.fn c__law_names hr__law_names rfl (R.cons (R.v 1) (R.cons (R.op R.add (R.v 2) R.int) R.nil))))
      (R.scons (R.set (i := 4) sc_law.nd (R.callTy (R.kdictOf (K := K) rfl) rfl T.b_dict bb_dict (R.cons (R.comp rfl (js := [none, some 1]) (N := ["_law_name_here", "_law_deck_here"]) (CompScope.by (defScope s_law) ["_law_script", "_law_deck_here", "_law_many", "_law_names_here", "_law_known", "_law_book", "_law_k", "_law_changes_here", "_law_handed", "_law_due_here", "_law_name_here", "_law_by_here"] rfl rfl (by decide +kernel)) (gown_name rfl) (R.kwL (K := K) (R.sl (R.ksL (K := K)) (R.v 3) R.pn (R.ps (R.v 2)))) (fun C s₂ H₂ fp => ⟨(R.gn (i := 0) (show (["_law_name_here", "_law_deck_here"] : List Str).Nodup by decide +kernel)), R.ts0, (R.tup (R.cons (R.v 0) (R.cons (R.fn c__law_amount hr__law_amount rfl (R.cons (R.v 1) (R.cons R.int R.nil))) R.nil)))⟩)) R.nil)))
      (R.scons (R.set (i := 5) sc_law.nd (R.make c_Book hr_Book rfl (R.cons (R.thaw (R.comp rfl (js := [none, some 4]) (N := ["_law_name_here", "_law_known"]) (CompScope.by (defScope s_law) ["_law_script", "_law_deck_here", "_law_many", "_law_names_here", "_law_known", "_law_book", "_law_k", "_law_changes_here", "_law_handed", "_law_due_here", "_law_name_here", "_law_by_here"] rfl rfl (by decide +kernel)) (gown_name rfl) (R.wD (R.v 4)) (fun C s₂ H₂ fp => ⟨(R.gn (i := 0) (show (["_law_name_here", "_law_known"] : List Str).Nodup by decide +kernel)), R.ts0, (R.tup (R.cons (R.v 0) (R.cons (R.dix hu1 (R.v 1) (R.v 0)) R.nil)))⟩))) R.nil)))
      (R.scons (R.for_ PassesOwn.never rfl (R.range1 rfl T.b_range (R.cons R.int R.nil)) (R.gn (i := 6) sc_law.nd)
      (R.scons (R.set (i := 7) sc_law.nd (R.fn c__law_changes hr__law_changes rfl (R.cons (R.v 1) (R.cons (R.v 3) (R.cons (R.v 4) R.nil)))))
      (R.scons (R.set (i := 8) sc_law.nd (R.ix (R.kiL (K := K)) (R.lst (R.cons (R.callTy (R.ktoList (K := K)) rfl T.b_list bb_list (R.cons (R.v 7) R.nil)) (R.cons (R.callTy (R.ktoTup (K := K)) rfl T.b_tuple bb_tuple (R.cons (R.v 7) R.nil)) R.nil))) (R.fn c__law_draw hr__law_draw rfl (R.cons (R.v 1) (R.cons R.int R.nil)))))
      (R.scons (R.set (i := 9) sc_law.nd (R.fn c__law_due hr__law_due rfl (R.cons (R.v 7) (R.cons (R.v 4) R.nil))))
      (R.scons (R.ife (R.tw (R.wor (R.tcmp R.ne (R.fn c__law_told hr__law_told rfl (R.cons (R.v 5) (R.cons (R.v 8) R.nil))) (R.v 9)) (R.wor1 (R.tcmp (R.neD hu64) (R.callTy (R.ktoList (K := K)) rfl T.b_list bb_list (R.cons (R.v 8) R.nil)) (R.v 7)))))
      (R.sone (R.ret R.bl))
      R.snil)
      (R.scons (R.ife (R.val (R.isi .lst (R.v 8) rfl T.b_isinstance rfl T.b_list bb_list))
      (R.sone (R.expr (R.kbm0 (K := K) PySem.F.plainAttrs_list PySem.F.slot_list_clear PySem.F.type_list_clear R.clear (R.v 8))))
      R.snil)
      (R.scons (R.ife (R.tcmp R.isN (R.v 9) R.non)
      (R.sone (R.for_ PassesOwn.never rfl (R.kwL (K := K) (R.v 7)) (R.kgt (K := K) (n := 2) rfl (R.gsc (R.gn (i := 10) sc_law.nd) (R.gsc (R.gn (i := 11) sc_law.nd) R.gsn)))
      (R.sone (R.asg (R.op R.add (R.dget2 hu1 (R.v 4) (R.v 10) R.int) (R.v 11)) (R.gsub (R.v 4) (R.v 10) (R.setD hu1))))))
      R.snil)
      (R.sone (R.ife (R.tnot (R.val (R.fn c__law_stands hr__law_stands rfl (R.cons (R.v 5) (R.cons (R.v 3) (R.cons (R.v 4) R.nil))))))
      (R.sone (R.ret R.bl))
      R.snil)))))))))
      (R.sone (R.ret R.bl)))))))), ?_⟩
    refine ⟨a, ns, rfl, hS, fun d b H1 nd nb D1 s1 => ?_⟩
    dsimp only [gName]
    refine cutS (t := tAsg _ _) (fun σ' H' => ∃ m : Nat, σ' = [some (.ref a), some (.ref d), some (.int m), none, none, none, none, none, none, none, none, none] ∧ m ≤ 30 ∧ Dk H' d b) (fun nx hnx => ?_) ?_
    · refine ⟨d, b, 7, rfl, D1, by decide, by decide, fun r1 H2 a0 a1 D2 k2 => ⟨d, b, 31, rfl, D2, by decide, by decide, fun r2 H3 b0 b1 D3 k3 => ⟨szl rfl, fun lm hlm => ⟨d, b, 6, rfl, D3.new hlm, by decide, by decide, fun r3 H4 c0 c1 D4 k4 => ?_⟩⟩⟩⟩
      have glm := k4 _ _ (upd_same (H := H3) (o := .lst [.int r1, .int r2])) (D3.ne hlm).1 (D3.ne hlm).2
      obtain ⟨m1, e1⟩ := Int.eq_ofNat_of_zero_le a0
      obtain ⟨m2, e2⟩ := Int.eq_ofNat_of_zero_le b0
      refine ⟨_, SqL.of glm, ?_⟩
      rw [e1, e2]
      by_cases h7 : r3 = 5
      · subst h7
        exact ⟨_, rfl, hnx _ _ ⟨m2, rfl, by omega, D4⟩⟩
      · rw [if_neg (by simpa using h7)]
        exact ⟨_, rfl, hnx _ _ ⟨m1, rfl, by omega, D4⟩⟩
    rintro σ' H2 ⟨m, rfl, m30, D2⟩
    dsimp only [gName]
    refine ⟨d, b, m + 3, by simp, D2, by omega, fun ln zn H3 hzl hnm hnd nln gln D3 k3 => ?_⟩
    dsimp only [gName]
    have nl := D2.ne nln
    refine ⟨_, SqL.of gln, fun lc hlc => ⟨lc, rfl, ⟨_, SqL.of upd_same⟩, ?_⟩⟩
    have ec : cut (zn.map V.str) none (some (m : Int)) = (zn.take m).map V.str := (cut_to (zn.map V.str) m).trans List.map_take.symm
    rw [ec]
    have glc : (upd H3 lc (.lst ((zn.take m).map V.str))) lc = some (.lst ((zn.take m).map V.str)) := upd_same
    have s3c := same_upd (o := .lst ((zn.take m).map V.str)) hlc
    have D3c := D3.new (o := .lst ((zn.take m).map V.str)) hlc
    have nlc := D3.ne hlc
    generalize upd H3 lc (.lst ((zn.take m).map V.str)) = H3c at glc s3c D3c ⊢
    obtain ⟨zm, hzm⟩ : ∃ zm, zm = zn.take m := ⟨_, rfl⟩
    rw [← hzm] at glc
    have zml : zm.length ≤ 30 := by rw [hzm, List.length_take]; omega
    have zmd : zm.Nodup := by rw [hzm]; exact List.Nodup.sublist (List.take_sublist _ _) hnd
    have zms : ∀ x ∈ zm, x ∈ zn := fun x hx => by rw [hzm] at hx; exact List.mem_of_mem_take hx
    refine comp_seq (seq_list K lc (zm.map V.str)) (by rw [List.length_map]; omega) (fun i ys H' => ∃ zs : List Z, ys = zref zs ∧ ZAt H' zs ∧ (zs.map (·.2)).map (·.1) = zm.take i ∧ Dk H' d b ∧ Kp d b H3c H' ∧ zs.length ≤ i)
      (fun i ys H' ⟨zs, e, _, _, _, k', hl⟩ => ⟨SqL.of (k' _ _ glc nlc.1 nlc.2), by rw [e]; unfold zref; rw [List.length_map]; exact hl⟩) ⟨[], rfl, (fun _ h => nomatch h), rfl, D3c, (Same.refl _).kp, Nat.le_refl _⟩ (fun i x ys H' hx ⟨zs, e, hza, hkz, D', k', hzl'⟩ => ?_) (fun ys H' ⟨zs, e, hza, hkz, D', k', hzl'⟩ => ?_)
    · rw [List.getElem?_map] at hx
      cases hn : zm[i]? with
      | none => rw [hn] at hx; cases hx
      | some nm =>
        rw [hn] at hx
        cases hx
        refine ⟨d, b, 0, rfl, by decide, by decide, D', fun n H'' n0 n1 D'' k'' => ⟨szl rfl, fun t ht => ⟨zs ++ [(t, nm, n)], by rw [e]; unfold zref; rw [List.map_append]; rfl, ?_, ?_, D''.new ht, (k'.trans k'').trans (.new ht), by rw [List.length_append]; simpa using hzl'⟩⟩⟩
        · intro z hz
          rcases List.mem_append.mp hz with m | m
          · have := D'.tup_ne (hza z m)
            exact same_upd ht _ _ (k'' _ _ (hza z m) this.1 this.2)
          · rw [List.mem_singleton.mp m]; exact upd_same
        · rw [List.map_append, List.map_append, hkz, take_snoc hn]
          rfl
    rw [List.length_map, List.take_length] at hkz
    intro l1 h1
    subst e
    have hza1 := hza.same (same_upd (o := .lst (zref zs)) h1)
    have D4 := D'.new (o := .lst (zref zs)) h1
    have k4 : Kp d b H3c (upd H' l1 (.lst (zref zs))) := k'.trans (.new h1)
    generalize hprs : zs.map (·.2) = prs at hkz
    have ndp : (prs.map (·.1)).Nodup := by rw [hkz]; exact zmd
    refine ⟨wz zs, by rw [wz_ref]; exact SqL.of upd_same, wz_at hza1, by unfold wz; rw [List.length_map]; rw [List.length_map] at hzl'; omega, fun kd hkd0 => ?_⟩
    rw [wz_dkv, hprs, merge_dkv ndp]
    dsimp only [gName]
    have hkd : (upd (upd H' l1 (.lst (zref zs))) kd (.dK (dkv prs))) kd = some (.dK (dkv prs)) := upd_same
    have D5 := D4.new (o := .dK (dkv prs)) hkd0
    have k5 := k4.trans (.new (o := .dK (dkv prs)) hkd0)
    generalize upd (upd H' l1 (.lst (zref zs))) kd (.dK (dkv prs)) = H5 at hkd D5 k5 ⊢
    have gln5 := k5 _ _ (s3c _ _ gln) nl.1 nl.2
    have hpl : prs.length ≤ 30 := by have := congrArg List.length hkz; rw [List.length_map] at this; omega
    refine ⟨_, hkd, fun ob => ?_⟩
    have gF : (upd H5 kd (.frz ob (.dK (dkv prs)))) kd = some (.frz ob (.dK (dkv prs))) := upd_same
    have kF : ∀ c o, H5 c = some o → c ≠ kd → (upd H5 kd (.frz ob (.dK (dkv prs)))) c = some o := fun c o e hc => by rw [upd_ne hc]; exact e
    have rF : ∀ c, (upd H5 kd (.frz ob (.dK (dkv prs)))) c = none → H5 c = none := fun c h => by
      by_cases z : c = kd
      · rw [z, upd_same] at h; cases h
      · rwa [upd_ne z] at h
    generalize upd H5 kd (.frz ob (.dK (dkv prs))) = HF at gF kF rF ⊢
    refine comp_seq (seq_dct kd ob (dkv prs)) (by unfold dkv; rw [List.length_map, List.length_map]; omega) (fun i ys H' => ∃ zs : List Z, ys = zref zs ∧ ZAt H' zs ∧ zs.map (·.2) = prs.take i ∧ Same HF H' ∧ zs.length ≤ i)
      (fun i ys H' ⟨zs, e, _, _, k', hl⟩ => ⟨k' _ _ gF, by rw [e]; unfold zref; rw [List.length_map]; exact hl⟩) ⟨[], rfl, (fun _ h => nomatch h), rfl, Same.refl _, Nat.le_refl _⟩ (fun i x ys H' hx ⟨zs, e, hza, hkz', s', hzl'⟩ => ?_) (fun ys H' ⟨zs, e, hza, hkz', s', hzl'⟩ => ?_)
    · unfold dkv at hx
      rw [List.map_map, List.getElem?_map] at hx
      cases hn : prs[i]? with
      | none => rw [hn] at hx; cases hx
      | some p =>
        rw [hn] at hx
        cases hx
        have hv : valV (dkv prs) (Sum.inr p.1) = some (.int p.2) := by rw [dkv_val, lookup_mem ndp (show (p.1, p.2) ∈ prs from List.mem_of_getElem? hn)]; rfl
        refine ⟨kd, _, rfl, .inl ⟨dkv prs, Sum.inr p.1, .inr ⟨ob, s' _ _ gF⟩, rfl, hv.symm⟩, szl rfl, fun t ht => ⟨zs ++ [(t, p.1, p.2)], by rw [e]; unfold zref; rw [List.map_append]; rfl, ?_, ?_, s'.trans (same_upd ht), by rw [List.length_append]; simpa using hzl'⟩⟩
        · intro z hz
          rcases List.mem_append.mp hz with m | m
          · exact same_upd ht _ _ (hza z m)
          · rw [List.mem_singleton.mp m]; exact upd_same
        · rw [List.map_append, hkz', take_snoc hn]
          rfl
    have hdl : (List.map (fun q => kV q.1) (dkv prs)).length = prs.length := by unfold dkv; rw [List.length_map, List.length_map]
    rw [hdl, List.take_length] at hkz'
    intro l2 h2
    subst e
    refine ⟨kd, dkv prs, ob, ⟨_, hkd⟩, same_upd h2 _ _ (s' _ _ gF), ?_⟩
    have nkl : kd ≠ l2 := ne_of_none (s' _ _ gF) h2
    have s6 : Same H5 (upd (upd H' l2 (.lst (zref zs))) kd (.dK (dkv prs))) := fun c o e => by
      by_cases z : c = kd
      · rw [z] at e ⊢; rw [hkd] at e; cases e; exact upd_same
      · rw [upd_ne z]; exact same_upd h2 _ _ (s' _ _ (kF _ _ e z))
    have gl2 : (upd (upd H' l2 (.lst (zref zs))) kd (.dK (dkv prs))) l2 = some (.lst (zref zs)) := by rw [upd_ne nkl.symm]; exact upd_same
    have hza6 : ZAt (upd (upd H' l2 (.lst (zref zs))) kd (.dK (dkv prs))) zs := fun z hz => by
      rw [upd_ne (ne_of (hza z hz) (s' _ _ gF) (fun z => nomatch z))]
      exact same_upd h2 _ _ (hza z hz)
    generalize upd (upd H' l2 (.lst (zref zs))) kd (.dK (dkv prs)) = H6 at s6 gl2 hza6 ⊢
    intro x dx hx0 hdx0 hne
    have sD : Same H6 (upd (upd H6 dx (.own x)) x (.ins C dx [])) := fun c o e => by
      rw [upd_ne (ne_of_none e hx0), upd_ne (ne_of_none e hdx0)]
      exact e
    refine ⟨x, dx, .ref l2, prs, rfl, upd_same, .inr ⟨l2, zs, rfl, sD _ _ gl2, hza6.same sD, hkz'⟩, ndp, by omega, fun HE dd hdd0 gx gdd kE => ⟨rfl, ?_⟩⟩
    dsimp only [gName]
    have sE : Same H6 HE := fun c o e => kE c o (sD c o e) (ne_of_none e hx0)
    have hkdE := sE _ _ (s6 _ _ hkd)
    have hdk : dd ≠ kd := fun z => by
      rw [z, sD _ _ (s6 _ _ hkd)] at hdd0
      cases hdd0
    have DE := (D5.same s6).same sE
    have glnE := sE _ _ (s6 _ _ gln5)
    have hink : ∀ y ∈ prs.map (·.1), y ∈ zn := fun y hy => zms y (by rw [← hkz]; exact hy)
    refine ⟨14, rfl, by decide, by decide, ?_⟩
    refine for_seq (seq_range 0 (14 : Int).toNat) (fun i σ H' => ∃ (prs' : List (Str × Int)) (o6 o7 o8 o9 o10 o11 : Option V), σ = [some (.ref a), some (.ref d), some (.int m), some (.ref ln), some (.ref kd), some (.ref x), o6, o7, o8, o9, o10, o11] ∧ (prs'.map (·.1)).Nodup ∧ (∀ y ∈ prs'.map (·.1), y ∈ zn) ∧ Dk H' d b ∧ H' x = some (.ins C dx [("amounts", .ref dd)]) ∧ H' dd = some (.dK (dkv prs')) ∧ H' kd = some (.dK (dkv prs')) ∧ H' ln = some (.lst (zn.map V.str)))
      (fun _ _ _ _ => trivial) ⟨prs, _, _, _, _, _, _, rfl, ndp, hink, DE, gx, gdd, hkdE, glnE⟩ ?_ ?_
    · rintro i v σ H' hv ⟨prs', o6, o7, o8, o9, o10, o11, rfl, nd', hin', DH, hx, hdd, hkd', hln⟩
      dsimp only [gName]
      have hle := nd_le nd' hin'
      rw [List.length_map] at hle
      refine ⟨d, b, ln, kd, zn, prs', rfl, DH, hln, nl.1, nl.2, by omega, hkd', fun lc zs H1 nlc glc hza hzz hz60 D1 k1 => ?_⟩
      dsimp only [gName]
      have nlc' := DH.ne nlc
      refine ⟨_, .inl (SqL.of glc), fun l1 h1 => ⟨_, SqL.of (same_upd h1 _ _ glc), fun t1 ht1 => ⟨szl rfl, fun lb hlb => ?_⟩⟩⟩
      have sB : Same H1 (upd (upd (upd H1 l1 (.lst (zref zs))) t1 (.tup (zref zs))) lb (.lst [.ref l1, .ref t1])) := ((same_upd h1).trans (same_upd ht1)).trans (same_upd hlb)
      have gB : (upd (upd (upd H1 l1 (.lst (zref zs))) t1 (.tup (zref zs))) lb (.lst [.ref l1, .ref t1])) lb = some (.lst [.ref l1, .ref t1]) := upd_same
      have gB1 : (upd (upd (upd H1 l1 (.lst (zref zs))) t1 (.tup (zref zs))) lb (.lst [.ref l1, .ref t1])) l1 = some (.lst (zref zs)) := (same_upd hlb) _ _ ((same_upd ht1) _ _ upd_same)
      have gB2 : (upd (upd (upd H1 l1 (.lst (zref zs))) t1 (.tup (zref zs))) lb (.lst [.ref l1, .ref t1])) t1 = some (.tup (zref zs)) := (same_upd hlb) _ _ upd_same
      have f1t : H1 t1 = none := none_of_same (same_upd h1) ht1
      have f1b : H1 lb = none := none_of_same ((same_upd h1).trans (same_upd ht1)) hlb
      generalize upd (upd (upd H1 l1 (.lst (zref zs))) t1 (.tup (zref zs))) lb (.lst [.ref l1, .ref t1]) = HB at sB gB gB1 gB2 ⊢
      have DB := D1.same sB
      refine ⟨d, b, 2, rfl, DB, by decide, by decide, fun r H2 r0 r1 D2 k2 => ?_⟩
      have n1 := D1.ne h1
      have n2 := D1.ne f1t
      have n3 := D1.ne f1b
      obtain ⟨th, hat, hth, fth⟩ : ∃ th, atI [V.ref l1, V.ref t1] r = some (.ref th) ∧ (H2 th = some (.lst (zref zs)) ∨ H2 th = some (.tup (zref zs))) ∧ H1 th = none := by
        have : r = 0 ∨ r = 1 := by omega
        rcases this with rfl | rfl
        · exact ⟨l1, rfl, .inl (k2 _ _ gB1 n1.1 n1.2), h1⟩
        · exact ⟨t1, rfl, .inr (k2 _ _ gB2 n2.1 n2.2), f1t⟩
      refine ⟨_, SqL.of (k2 _ _ gB n3.1 n3.2), _, hat, ?_⟩
      dsimp only [gName]
      have k12 : Kp d b H1 H2 := (Same.kp sB).trans k2
      have k02 : Kp d b H' H2 := k1.trans k12
      have nx := ins_ne11 DH hx
      have nkd := dk_ne11 DH hkd'
      have ndd := dk_ne11 DH hdd
      have hx2 := k02 _ _ hx nx.1 nx.2
      have hkd2 := k02 _ _ hkd' nkd.1 nkd.2
      have hdd2 := k02 _ _ hdd ndd.1 ndd.2
      have hln2 := k02 _ _ hln nl.1 nl.2
      have glc2 := k12 _ _ glc nlc'.1 nlc'.2
      have hza2 : ZAt H2 zs := fun z hz => by
        have ne := D1.tup_ne (hza z hz)
        exact k12 _ _ (hza z hz) ne.1 ne.2
      refine ⟨lc, kd, prs', zs, rfl, hkd2, glc2, hza2, ?_⟩
      dsimp only [gName]
      refine ⟨x, dx, dd, th, prs', zs, zn, rfl, hx2, hdd2, nd', hth, hza2, hin', hzz, by omega, fun H3 gdd3 k3 => ?_⟩
      dsimp only [vr, List.set]
      refine ne_self (dueV_is _ _) ?_
      have ntd : th ≠ dd := by
        rcases hth with h | h
        · exact ne_of h hdd2 (fun z => nomatch z)
        · exact ne_of h hdd2 (fun z => nomatch z)
      have hth3 : H3 th = some (.lst (zref zs)) ∨ H3 th = some (.tup (zref zs)) := hth.elim (fun h => .inl (k3 _ _ h ntd)) (fun h => .inr (k3 _ _ h ntd))
      have nlcd : lc ≠ dd := ne_of glc2 hdd2 (fun z => nomatch z)
      have glc3 := k3 _ _ glc2 nlcd
      have hza3 : ZAt H3 zs := fun z hz => k3 _ _ (hza2 z hz) (ne_of (hza2 z hz) hdd2 (fun z => nomatch z))
      have hkd3 := k3 _ _ hkd2 hdk.symm
      have hx3 := k3 _ _ hx2 (ne_of hx2 hdd2 (fun z => nomatch z))
      have hln3 := k3 _ _ hln2 (ne_of hln2 hdd2 (fun z => nomatch z))
      have D3 : Dk H3 d b := by
        obtain ⟨ns, s0, kk', f1, f2, f3⟩ := D2.ex
        exact ⟨ns, s0, kk', k3 _ _ f1 (ne_of f1 hdd2 (fun z => nomatch z)), k3 _ _ f2 (ne_of f2 hdd2 (fun z => nomatch z)), f3⟩
      refine ⟨_, hth3.elim (fun h => .inl (SqL.of h)) (fun h => .inr (SqT.of h)), fun l4 h4 => ?_⟩
      refine ⟨2, rowsT (zs.map (·.2)), by decide, rep_rows upd_same (hza3.same (same_upd h4)), rep_rows (same_upd h4 _ _ glc3) (hza3.same (same_upd h4)), ?_⟩
      have s4 := same_upd (o := .lst (zref zs)) h4
      dsimp only [tNext]
      generalize upd H3 l4 (.lst (zref zs)) = H4 at s4 ⊢
      dsimp only [mB, Bool.not_true]
      rw [if_neg (by decide)]
      dsimp only [tSeq]
      have k14 : ∀ c o, H1 c = some o → c ≠ d → c ≠ b → c ≠ dd → H4 c = some o := fun c o e c1 c2 c3 => s4 _ _ (k3 _ _ (k12 _ _ e c1 c2) c3)
      refine cutS (t := tIfS _ _ _) (fun σ' H5 => σ' = [some (.ref a), some (.ref d), some (.int m), some (.ref ln), some (.ref kd), some (.ref x), some v, some (.ref lc), some (.ref th), some (dueV prs' (zs.map (·.2))), o10, o11] ∧ ∀ c o, H4 c = some o → c ≠ th → H5 c = some o) (fun nx' hnx => ?_) ?_
      · rcases hth3 with h | h
        · refine ⟨.lst, .inl ⟨_, s4 _ _ h⟩, ?_⟩
          exact ⟨.inl ⟨rfl, _, SqL.of (s4 _ _ h)⟩, th, _, rfl, rfl, s4 _ _ h, hnx _ _ ⟨rfl, fun c o e hc => by rw [upd_ne hc]; exact e⟩⟩
        · refine ⟨.tup, ⟨_, s4 _ _ h⟩, ?_⟩
          exact hnx _ _ ⟨rfl, fun c o e _ => e⟩
      rintro σ' H5 ⟨rfl, k5⟩
      have nt : ∀ {c : Addr} {o : HO}, H1 c = some o → c ≠ th := fun e => ne_of_none e fth
      have k15 : ∀ c o, H1 c = some o → c ≠ d → c ≠ b → c ≠ dd → H5 c = some o := fun c o e c1 c2 c3 => k5 _ _ (k14 _ _ e c1 c2 c3) (nt e)
      have hx1 := k1 _ _ hx nx.1 nx.2
      have hkd1 := k1 _ _ hkd' nkd.1 nkd.2
      have hdd1 := k1 _ _ hdd ndd.1 ndd.2
      have hln1 := k1 _ _ hln nl.1 nl.2
      have hx5 := k15 _ _ hx1 nx.1 nx.2 (ne_of hx1 hdd1 (fun z => nomatch z))
      have hkd5 := k15 _ _ hkd1 nkd.1 nkd.2 hdk.symm
      have hln5 := k15 _ _ hln1 nl.1 nl.2 (ne_of hln1 hdd1 (fun z => nomatch z))
      have glc5 := k15 _ _ glc nlc'.1 nlc'.2 (ne_of glc hdd1 (fun z => nomatch z))
      have hza5 : ZAt H5 zs := fun z hz => by
        have ne := D1.tup_ne (hza z hz)
        exact k15 _ _ (hza z hz) ne.1 ne.2 (ne_of (hza z hz) hdd1 (fun z => nomatch z))
      have gdd5 : H5 dd = some (.dK (dkv (dueP prs' (zs.map (·.2))))) := k5 _ _ (s4 _ _ gdd3) (nt hdd1)
      have D5' : Dk H5 d b := by
        obtain ⟨ns, s0, kk', f1, f2, f3⟩ := D3.ex
        obtain ⟨ns1, s01, kk1, f11, f21, _⟩ := D1.ex
        exact ⟨ns, s0, kk', k5 _ _ (s4 _ _ f1) (nt f11), k5 _ _ (s4 _ _ f2) (nt f21), f3⟩
      dsimp only [tSeq]
      refine cutS (t := tIfS _ _ _) (fun σ' H6 => ∃ o10 o11, σ' = [some (.ref a), some (.ref d), some (.int m), some (.ref ln), some (.ref kd), some (.ref x), some v, some (.ref lc), some (.ref th), some (dueV prs' (zs.map (·.2))), o10, o11] ∧ H6 kd = some (.dK (dkv (dueP prs' (zs.map (·.2))))) ∧ ∀ c o, H5 c = some o → c ≠ kd → H6 c = some o) (fun nx' hnx => ?_) ?_
      · cases hb : badP prs' (zs.map (·.2)) with
        | some n =>
          rw [dueV_some hb]
          rw [dueV_some hb, dueP_some hb] at hnx
          exact hnx _ _ ⟨_, _, rfl, hkd5, fun c o e _ => e⟩
        | none =>
          rw [dueV_none hb]
          rw [dueV_none hb, dueP_none hb] at hnx
          refine ⟨lc, rfl, ⟨_, SqL.of glc5⟩, ?_⟩
          refine for_seq (seq_list K lc (zref zs)) (fun i σ H'' => H'' kd = some (.dK (dkv (chgP prs' ((zs.map (·.2)).take i)))) ∧ (∀ b o, H5 b = some o → b ≠ kd → H'' b = some o) ∧ ∃ o10 o11, σ = [some (.ref a), some (.ref d), some (.int m), some (.ref ln), some (.ref kd), some (.ref x), some v, some (.ref lc), some (.ref th), some .non, o10, o11]) (fun i σ H'' ⟨_, k, _⟩ => SqL.of (k _ _ glc5 (ne_of glc5 hkd5 (fun z => nomatch z)))) ⟨hkd5, fun b o e _ => e, _, _, rfl⟩ ?_ ?_
          · rintro i x' σ H'' hx' ⟨g, k, p10, p11, rfl⟩
            obtain ⟨z, hn, rfl, gz⟩ := pair_at (fun z m => k _ _ (hza5 z m) (ne_of (hza5 z m) hkd5 (fun z => nomatch z))) hx'
            have hni : (zs.map (·.2))[i]? = some z.2 := by rw [List.getElem?_map, hn]; rfl
            have nd2 := chgP_nd ((zs.map (·.2)).take i) prs' nd'
            have hin2 := chgP_in ((zs.map (·.2)).take i) prs' hin' (fun q hq => hzz q (List.mem_of_mem_take hq))
            have hle2 := nd_le nd2 hin2
            rw [List.length_map] at hle2
            refine ⟨z.1, _, rfl, SqT.of gz, rfl, _, _, rfl, _, _, rfl, rfl, kd, rfl, .inl ⟨_, .inl g⟩, _, DGet.k (k := Sum.inr z.2.1) g, ?_⟩
            rw [dkv_amt]
            refine ⟨kd, _, rfl, DPut.k (k := Sum.inr z.2.1) g ?_, ?_, fun b o e hb' => ?_, _, _, rfl⟩
            · unfold dkv; rw [List.length_map]; exact Nat.lt_of_le_of_lt (show _ ≤ 60 by omega) (by decide)
            · rw [upd_same, setP_dkv, take_snoc hni, chgP_snoc]
            · rw [upd_ne hb']; exact k b o e hb'
          · rintro σ H'' ⟨g, k, p10, p11, rfl⟩
            have hlz : (zref zs).length = zs.length := by unfold zref; rw [List.length_map]
            rw [hlz, List.take_of_length_le (by rw [List.length_map]; exact Nat.le_refl _)] at g
            exact hnx _ _ ⟨_, _, rfl, g, k⟩
      rintro σ' H6 ⟨p10, p11, rfl, gkd6, k6⟩
      have nd6 : ((dueP prs' (zs.map (·.2))).map (·.1)).Nodup := by
        cases hb : badP prs' (zs.map (·.2)) with
        | none => rw [dueP_none hb]; exact chgP_nd _ _ nd'
        | some n => rw [dueP_some hb]; exact nd'
      have hin6 : ∀ y ∈ (dueP prs' (zs.map (·.2))).map (·.1), y ∈ zn := by
        cases hb : badP prs' (zs.map (·.2)) with
        | none => rw [dueP_none hb]; exact chgP_in _ _ hin' hzz
        | some n => rw [dueP_some hb]; exact hin'
      have hle6 := nd_le nd6 hin6
      rw [List.length_map] at hle6
      have gx6 := k6 _ _ hx5 (ne_of hx5 hkd5 (fun z => nomatch z))
      have gdd6 := k6 _ _ gdd5 hdk
      have gln6 := k6 _ _ hln5 (ne_of hln5 hkd5 (fun z => nomatch z))
      have D6 : Dk H6 d b := by
        obtain ⟨ns, s0, kk', f1, f2, f3⟩ := D5'.ex
        exact ⟨ns, s0, kk', k6 _ _ f1 (ne_of f1 hkd5 (fun z => nomatch z)), k6 _ _ f2 (ne_of f2 hkd5 (fun z => nomatch z)), f3⟩
      refine ⟨x, dx, dd, ln, kd, dueP prs' (zs.map (·.2)), zn, rfl, gx6, gdd6, gkd6, nd6, by omega, gln6, fun H7 s7 => ?_⟩
      exact ⟨_, _, _, _, _, _, _, rfl, nd6, hin6, D6.same s7, s7 _ _ gx6, s7 _ _ gdd6, s7 _ _ gkd6, s7 _ _ gln6⟩
    · rintro σ H' ⟨prs', o6, o7, o8, o9, o10, o11, rfl, nd', hin', DH, hx, hdd, hkd', hln⟩
      exact q H'
end
end KL
namespace KL
open PySem L2
theorem all_mk {l : W.OpenLaw} {w : World} {K : W.Frag} {h : Heap} {mg : Str → Option Value} {fa f_law_mixed f_law_deck f_law_draw f_law_name f_law_names f_law_by f_law_changes f_law_told f_law_due f_law_stands f_law_amount f_law : Addr} (X : K.In h) (G : h.Ns mainGlobals mg) (hfa : mg "law" = some (.ref fa))
    {od_law_mixed an_law_mixed : Option Addr} {sl_law_mixed : Array (Option Value)} {oc_law_mixed kV_law_mixed dc_law_mixed pm_law_mixed cd_law_mixed ct_law_mixed : Value}
    {od_law_deck an_law_deck : Option Addr} {sl_law_deck : Array (Option Value)} {oc_law_deck kV_law_deck dc_law_deck pm_law_deck cd_law_deck ct_law_deck : Value}
    {od_law_draw an_law_draw : Option Addr} {sl_law_draw : Array (Option Value)} {oc_law_draw kV_law_draw dc_law_draw pm_law_draw cd_law_draw ct_law_draw : Value}
    {od_law_name an_law_name : Option Addr} {sl_law_name : Array (Option Value)} {oc_law_name kV_law_name dc_law_name pm_law_name cd_law_name ct_law_name : Value}
    {od_law_names an_law_names : Option Addr} {sl_law_names : Array (Option Value)} {oc_law_names kV_law_names dc_law_names pm_law_names cd_law_names ct_law_names : Value}
    {od_law_by an_law_by : Option Addr} {sl_law_by : Array (Option Value)} {oc_law_by kV_law_by dc_law_by pm_law_by cd_law_by ct_law_by : Value}
    {od_law_changes an_law_changes : Option Addr} {sl_law_changes : Array (Option Value)} {oc_law_changes kV_law_changes dc_law_changes pm_law_changes cd_law_changes ct_law_changes : Value}
    {od_law_told an_law_told : Option Addr} {sl_law_told : Array (Option Value)} {oc_law_told kV_law_told dc_law_told pm_law_told cd_law_told ct_law_told : Value}
    {od_law_due an_law_due : Option Addr} {sl_law_due : Array (Option Value)} {oc_law_due kV_law_due dc_law_due pm_law_due cd_law_due ct_law_due : Value}
    {od_law_stands an_law_stands : Option Addr} {sl_law_stands : Array (Option Value)} {oc_law_stands kV_law_stands dc_law_stands pm_law_stands cd_law_stands ct_law_stands : Value}
    {od_law_amount an_law_amount : Option Addr} {sl_law_amount : Array (Option Value)} {oc_law_amount kV_law_amount dc_law_amount pm_law_amount cd_law_amount ct_law_amount : Value}
    {od_law an_law : Option Addr} {sl_law : Array (Option Value)} {oc_law kV_law dc_law pm_law cd_law ct_law : Value}
    (a_law_mixed : W.nsIn K mainGlobals "_law_mixed" = some (some (.ref f_law_mixed))) (l_law_mixed : K.lookup f_law_mixed = some ⟨oc_law_mixed, od_law_mixed, .func (W.fnOf "_law_mixed" "_law_mixed" (defArgs s_law_mixed) (defBody s_law_mixed) (defScope s_law_mixed) .none kV_law_mixed dc_law_mixed pm_law_mixed an_law_mixed cd_law_mixed ct_law_mixed), sl_law_mixed⟩) (c_law_mixed : W.codeIn K cd_law_mixed "_law_mixed" = true) (k_law_mixed : W.keepIn K (.ref f_law_mixed) = true)
    (a_law_deck : W.nsIn K mainGlobals "_law_deck" = some (some (.ref f_law_deck))) (l_law_deck : K.lookup f_law_deck = some ⟨oc_law_deck, od_law_deck, .func (W.fnOf "_law_deck" "_law_deck" (defArgs s_law_deck) (defBody s_law_deck) (defScope s_law_deck) .none kV_law_deck dc_law_deck pm_law_deck an_law_deck cd_law_deck ct_law_deck), sl_law_deck⟩) (c_law_deck : W.codeIn K cd_law_deck "_law_deck" = true) (k_law_deck : W.keepIn K (.ref f_law_deck) = true)
    (a_law_draw : W.nsIn K mainGlobals "_law_draw" = some (some (.ref f_law_draw))) (l_law_draw : K.lookup f_law_draw = some ⟨oc_law_draw, od_law_draw, .func (W.fnOf "_law_draw" "_law_draw" (defArgs s_law_draw) (defBody s_law_draw) (defScope s_law_draw) .none kV_law_draw dc_law_draw pm_law_draw an_law_draw cd_law_draw ct_law_draw), sl_law_draw⟩) (c_law_draw : W.codeIn K cd_law_draw "_law_draw" = true) (k_law_draw : W.keepIn K (.ref f_law_draw) = true)
    (a_law_name : W.nsIn K mainGlobals "_law_name" = some (some (.ref f_law_name))) (l_law_name : K.lookup f_law_name = some ⟨oc_law_name, od_law_name, .func (W.fnOf "_law_name" "_law_name" (defArgs s_law_name) (defBody s_law_name) (defScope s_law_name) .none kV_law_name dc_law_name pm_law_name an_law_name cd_law_name ct_law_name), sl_law_name⟩) (c_law_name : W.codeIn K cd_law_name "_law_name" = true) (k_law_name : W.keepIn K (.ref f_law_name) = true)
    (a_law_names : W.nsIn K mainGlobals "_law_names" = some (some (.ref f_law_names))) (l_law_names : K.lookup f_law_names = some ⟨oc_law_names, od_law_names, .func (W.fnOf "_law_names" "_law_names" (defArgs s_law_names) (defBody s_law_names) (defScope s_law_names) .none kV_law_names dc_law_names pm_law_names an_law_names cd_law_names ct_law_names), sl_law_names⟩) (c_law_names : W.codeIn K cd_law_names "_law_names" = true) (k_law_names : W.keepIn K (.ref f_law_names) = true)
    (a_law_by : W.nsIn K mainGlobals "_law_by" = some (some (.ref f_law_by))) (l_law_by : K.lookup f_law_by = some ⟨oc_law_by, od_law_by, .func (W.fnOf "_law_by" "_law_by" (defArgs s_law_by) (defBody s_law_by) (defScope s_law_by) .none kV_law_by dc_law_by pm_law_by an_law_by cd_law_by ct_law_by), sl_law_by⟩) (c_law_by : W.codeIn K cd_law_by "_law_by" = true) (k_law_by : W.keepIn K (.ref f_law_by) = true)
    (a_law_changes : W.nsIn K mainGlobals "_law_changes" = some (some (.ref f_law_changes))) (l_law_changes : K.lookup f_law_changes = some ⟨oc_law_changes, od_law_changes, .func (W.fnOf "_law_changes" "_law_changes" (defArgs s_law_changes) (defBody s_law_changes) (defScope s_law_changes) .none kV_law_changes dc_law_changes pm_law_changes an_law_changes cd_law_changes ct_law_changes), sl_law_changes⟩) (c_law_changes : W.codeIn K cd_law_changes "_law_changes" = true) (k_law_changes : W.keepIn K (.ref f_law_changes) = true)
    (a_law_told : W.nsIn K mainGlobals "_law_told" = some (some (.ref f_law_told))) (l_law_told : K.lookup f_law_told = some ⟨oc_law_told, od_law_told, .func (W.fnOf "_law_told" "_law_told" (defArgs s_law_told) (defBody s_law_told) (defScope s_law_told) .none kV_law_told dc_law_told pm_law_told an_law_told cd_law_told ct_law_told), sl_law_told⟩) (c_law_told : W.codeIn K cd_law_told "_law_told" = true) (k_law_told : W.keepIn K (.ref f_law_told) = true)
    (a_law_due : W.nsIn K mainGlobals "_law_due" = some (some (.ref f_law_due))) (l_law_due : K.lookup f_law_due = some ⟨oc_law_due, od_law_due, .func (W.fnOf "_law_due" "_law_due" (defArgs s_law_due) (defBody s_law_due) (defScope s_law_due) .none kV_law_due dc_law_due pm_law_due an_law_due cd_law_due ct_law_due), sl_law_due⟩) (c_law_due : W.codeIn K cd_law_due "_law_due" = true) (k_law_due : W.keepIn K (.ref f_law_due) = true)
    (a_law_stands : W.nsIn K mainGlobals "_law_stands" = some (some (.ref f_law_stands))) (l_law_stands : K.lookup f_law_stands = some ⟨oc_law_stands, od_law_stands, .func (W.fnOf "_law_stands" "_law_stands" (defArgs s_law_stands) (defBody s_law_stands) (defScope s_law_stands) .none kV_law_stands dc_law_stands pm_law_stands an_law_stands cd_law_stands ct_law_stands), sl_law_stands⟩) (c_law_stands : W.codeIn K cd_law_stands "_law_stands" = true) (k_law_stands : W.keepIn K (.ref f_law_stands) = true)
    (a_law_amount : W.nsIn K mainGlobals "_law_amount" = some (some (.ref f_law_amount))) (l_law_amount : K.lookup f_law_amount = some ⟨oc_law_amount, od_law_amount, .func (W.fnOf "_law_amount" "_law_amount" (defArgs s_law_amount) (defBody s_law_amount) (defScope s_law_amount) .none kV_law_amount dc_law_amount pm_law_amount an_law_amount cd_law_amount ct_law_amount), sl_law_amount⟩) (c_law_amount : W.codeIn K cd_law_amount "_law_amount" = true) (k_law_amount : W.keepIn K (.ref f_law_amount) = true)
    (a_law : W.nsIn K mainGlobals "law" = some (some (.ref f_law))) (l_law : K.lookup f_law = some ⟨oc_law, od_law, .func (W.fnOf "law" "law" (defArgs s_law) (defBody s_law) (defScope s_law) .none kV_law dc_law pm_law an_law cd_law ct_law), sl_law⟩) (c_law : W.codeIn K cd_law "law" = true) (k_law : W.keepIn K (.ref f_law) = true)
    {C_Book : Addr} (aC_Book : W.nsIn K mainGlobals "Book" = some (some (.ref C_Book))) (pg_Book : W.plainGet K C_Book Str.empty = true) (hd_Book : W.hasDictIn K C_Book = true) (po_Book : W.plainOver K C_Book = true) (sa_Book : W.findIn K (.ref C_Book) "__setattr__" = some (some (.builtin "object.__setattr__"))) (mk_Book : W.makesIn K C_Book = true) (kc_Book : W.keepIn K (.ref C_Book) = true)
    (n_Book_amounts : W.findIn K (.ref C_Book) "amounts" = some none)
    {f_Book___init__ : Addr} {od_Book___init__ an_Book___init__ : Option Addr} {sl_Book___init__ : Array (Option Value)} {oc_Book___init__ kV_Book___init__ dc_Book___init__ pm_Book___init__ cd_Book___init__ ct_Book___init__ : Value} {T_Book : Addr}
    (a_Book___init__ : W.findIn K (.ref C_Book) "__init__" = some (some (.ref f_Book___init__))) (i_Book___init__ : W.isFn K (.ref f_Book___init__) = true) (l_Book___init__ : K.lookup f_Book___init__ = some ⟨oc_Book___init__, od_Book___init__, .func (W.fnOf "__init__" "Book.__init__" (defArgs s_Book___init__) (defBody s_Book___init__) (defScope s_Book___init__) (.ref T_Book) kV_Book___init__ dc_Book___init__ pm_Book___init__ an_Book___init__ cd_Book___init__ ct_Book___init__), sl_Book___init__⟩) (c_Book___init__ : W.codeIn K cd_Book___init__ "Book.__init__" = true) (k_Book___init__ : W.keepIn K (.ref f_Book___init__) = true)
    {f_Book_amount : Addr} {od_Book_amount an_Book_amount : Option Addr} {sl_Book_amount : Array (Option Value)} {oc_Book_amount kV_Book_amount dc_Book_amount pm_Book_amount cd_Book_amount ct_Book_amount : Value}
    (a_Book_amount : W.findIn K (.ref C_Book) "amount" = some (some (.ref f_Book_amount))) (i_Book_amount : W.isFn K (.ref f_Book_amount) = true) (l_Book_amount : K.lookup f_Book_amount = some ⟨oc_Book_amount, od_Book_amount, .func (W.fnOf "amount" "Book.amount" (defArgs s_Book_amount) (defBody s_Book_amount) (defScope s_Book_amount) .none kV_Book_amount dc_Book_amount pm_Book_amount an_Book_amount cd_Book_amount ct_Book_amount), sl_Book_amount⟩) (c_Book_amount : W.codeIn K cd_Book_amount "Book.amount" = true) (k_Book_amount : W.keepIn K (.ref f_Book_amount) = true)
    {f_Book_rows : Addr} {od_Book_rows an_Book_rows : Option Addr} {sl_Book_rows : Array (Option Value)} {oc_Book_rows kV_Book_rows dc_Book_rows pm_Book_rows cd_Book_rows ct_Book_rows : Value}
    (a_Book_rows : W.findIn K (.ref C_Book) "rows" = some (some (.ref f_Book_rows))) (i_Book_rows : W.isFn K (.ref f_Book_rows) = true) (l_Book_rows : K.lookup f_Book_rows = some ⟨oc_Book_rows, od_Book_rows, .func (W.fnOf "rows" "Book.rows" (defArgs s_Book_rows) (defBody s_Book_rows) (defScope s_Book_rows) .none kV_Book_rows dc_Book_rows pm_Book_rows an_Book_rows cd_Book_rows ct_Book_rows), sl_Book_rows⟩) (c_Book_rows : W.codeIn K cd_Book_rows "Book.rows" = true) (k_Book_rows : W.keepIn K (.ref f_Book_rows) = true)
    {f_Book_change : Addr} {od_Book_change an_Book_change : Option Addr} {sl_Book_change : Array (Option Value)} {oc_Book_change kV_Book_change dc_Book_change pm_Book_change cd_Book_change ct_Book_change : Value}
    (a_Book_change : W.findIn K (.ref C_Book) "change" = some (some (.ref f_Book_change))) (i_Book_change : W.isFn K (.ref f_Book_change) = true) (l_Book_change : K.lookup f_Book_change = some ⟨oc_Book_change, od_Book_change, .func (W.fnOf "change" "Book.change" (defArgs s_Book_change) (defBody s_Book_change) (defScope s_Book_change) .none kV_Book_change dc_Book_change pm_Book_change an_Book_change cd_Book_change ct_Book_change), sl_Book_change⟩) (c_Book_change : W.codeIn K cd_Book_change "Book.change" = true) (k_Book_change : W.keepIn K (.ref f_Book_change) = true)
    {dT_Book : Option Addr} {itsT_Book : List Value} {nT_Book : Nat} {slT_Book : Array (Option Value)} (lT_Book : K.lookup T_Book = some ⟨.type "tuple", dT_Book, .seq (List.toArray itsT_Book) nT_Book, slT_Book⟩) (vT_Book : itsT_Book = [.none])
    {C_DoorError : Addr} (aC_DoorError : W.nsIn K mainGlobals "DoorError" = some (some (.ref C_DoorError)))
    {C_NoDeed : Addr} (aC_NoDeed : W.nsIn K mainGlobals "NoDeed" = some (some (.ref C_NoDeed)))
    {C_NoKey : Addr} (aC_NoKey : W.nsIn K mainGlobals "NoKey" = some (some (.ref C_NoKey)))
    {C_Other : Addr} (aC_Other : W.nsIn K mainGlobals "Other" = some (some (.ref C_Other)))
    {C_NoRow : Addr} (aC_NoRow : W.nsIn K mainGlobals "NoRow" = some (some (.ref C_NoRow)))
    {C_NoAsk : Addr} (aC_NoAsk : W.nsIn K mainGlobals "NoAsk" = some (some (.ref C_NoAsk)))
    {C_NoJournal : Addr} (aC_NoJournal : W.nsIn K mainGlobals "NoJournal" = some (some (.ref C_NoJournal)))
    {C_Busy : Addr} (aC_Busy : W.nsIn K mainGlobals "Busy" = some (some (.ref C_Busy)))
    {C_NoName : Addr} (aC_NoName : W.nsIn K mainGlobals "NoName" = some (some (.ref C_NoName)))
    {C_Late : Addr} (aC_Late : W.nsIn K mainGlobals "Late" = some (some (.ref C_Late)))
    {C_Down : Addr} (aC_Down : W.nsIn K mainGlobals "Down" = some (some (.ref C_Down)))
    {C_Up : Addr} (aC_Up : W.nsIn K mainGlobals "Up" = some (some (.ref C_Up)))
    {C_Unsafe : Addr} (aC_Unsafe : W.nsIn K mainGlobals "Unsafe" = some (some (.ref C_Unsafe)))
    {C_NoNumber : Addr} (aC_NoNumber : W.nsIn K mainGlobals "NoNumber" = some (some (.ref C_NoNumber)))
    {C_NoWay : Addr} (aC_NoWay : W.nsIn K mainGlobals "NoWay" = some (some (.ref C_NoWay)))
    {C_NoLine : Addr} (aC_NoLine : W.nsIn K mainGlobals "NoLine" = some (some (.ref C_NoLine)))
    {C_NoChange : Addr} (aC_NoChange : W.nsIn K mainGlobals "NoChange" = some (some (.ref C_NoChange)))
    {C_NoHouse : Addr} (aC_NoHouse : W.nsIn K mainGlobals "NoHouse" = some (some (.ref C_NoHouse)))
    {C_NoRows : Addr} (aC_NoRows : W.nsIn K mainGlobals "NoRows" = some (some (.ref C_NoRows)))
    {f_NoChange___init__ : Addr} {od_NoChange___init__ an_NoChange___init__ : Option Addr} {sl_NoChange___init__ : Array (Option Value)} {oc_NoChange___init__ kV_NoChange___init__ dc_NoChange___init__ pm_NoChange___init__ cd_NoChange___init__ ct_NoChange___init__ : Value}
    (a_NoChange___init__ : W.findIn K (.ref C_NoChange) "__init__" = some (some (.ref f_NoChange___init__))) (i_NoChange___init__ : W.isFn K (.ref f_NoChange___init__) = true) (l_NoChange___init__ : K.lookup f_NoChange___init__ = some ⟨oc_NoChange___init__, od_NoChange___init__, .func (W.fnOf "__init__" "NoChange.__init__" (defArgs s_NoChange___init__) (defBody s_NoChange___init__) (defScope s_NoChange___init__) .none kV_NoChange___init__ dc_NoChange___init__ pm_NoChange___init__ an_NoChange___init__ cd_NoChange___init__ ct_NoChange___init__), sl_NoChange___init__⟩) (c_NoChange___init__ : W.codeIn K cd_NoChange___init__ "NoChange.__init__" = true) (k_NoChange___init__ : W.keepIn K (.ref f_NoChange___init__) = true)
    (x_ga : W.findIn K (.ref C_NoChange) "__getattribute__" = some (some (.builtin "BaseException.__getattribute__")))
    (x_gx : W.findIn K (.ref C_NoChange) "__getattr__" = some none)
    (x_cl : W.findIn K (.ref C_NoChange) "__class__" = some (some (.builtin "object.__class__")))
    (x_gg : W.specialIn K (.builtin "object.__class__") "__get__" = some (some (.builtin "getset_descriptor.__get__")))
    (x_tk : W.takesIn K (.builtin "object.__class__") = some true)
    (x_mo : W.mroIn K C_NoChange (.type "object") = some true)
    (x_mb : W.mroIn K C_NoChange (.type "BaseException") = some true)
    (x_ci : W.isClsIn K C_NoChange = true)
    (x_xm : W.exmOne K (.ref C_NoChange) (.ref C_DoorError) = some true)
    (x_any1 : W.kitAny K (.ref C_NoChange) [.ref C_Busy, .ref C_Down, .ref C_Late, .ref C_NoAsk, .ref C_NoDeed, .ref C_NoHouse, .ref C_NoJournal, .ref C_NoKey, .ref C_NoLine, .ref C_NoName] = some false)
    (x_any2 : W.kitAny K (.ref C_NoChange) [.ref C_NoNumber, .ref C_NoRow, .ref C_NoRows, .ref C_NoWay, .ref C_Other, .ref C_Unsafe, .ref C_Up] = some false)
    (x_kC : W.kitOne K (.ref C_NoChange) (.ref C_NoChange) = some true)
    (x_kV : W.kitOne K (.ref C_NoChange) (.type "ValueError") = some true)
    (x_exc : excInI K C_NoChange f_NoChange___init__ [.type "ValueError", .type "Exception", .type "BaseException", .type "object"] "ValueError.__new__" = true)
    (x_sa : W.findIn K (.ref C_NoChange) "__setattr__" = some (some (.builtin "object.__setattr__")))
    (x_ov : excOver K C_NoChange = true)
    (x_ta : W.takerIn K C_NoChange "name" = some none)
    (x_num : W.findIn K (.ref C_NoChange) "name" = some none)
    (x_hd : W.hasDictIn K C_NoChange = true)
    (z_ValueError : W.nsIn K mainGlobals "ValueError" = some none)
    (z_bool : W.nsIn K mainGlobals "bool" = some none)
    (z_dict : W.nsIn K mainGlobals "dict" = some none)
    (z_int : W.nsIn K mainGlobals "int" = some none)
    (z_isinstance : W.nsIn K mainGlobals "isinstance" = some none)
    (z_len : W.nsIn K mainGlobals "len" = some none)
    (z_list : W.nsIn K mainGlobals "list" = some none)
    (z_max : W.nsIn K mainGlobals "max" = some none)
    (z_range : W.nsIn K mainGlobals "range" = some none)
    (z_reversed : W.nsIn K mainGlobals "reversed" = some none)
    (z_sorted : W.nsIn K mainGlobals "sorted" = some none)
    (z_sum : W.nsIn K mainGlobals "sum" = some none)
    (z_tuple : W.nsIn K mainGlobals "tuple" = some none)
    {t_MOST : Tok} (y_MOST : W.nsIn K mainGlobals "MOST" = some (some (.int (1000000000000) t_MOST)))
    : ∃ fd : FuncData, (∀ (s : Shared) (v : Value), BindsTo s fd ⟨[v], []⟩ [("_law_script", v)]) ∧ ∀ base : Heap, K.In base → base.Ns mainGlobals mg → FnOk l.prog w K mg base CX0 6 fa fd ["_law_script"] (spLaw K) := by
  have e := hfa.symm.trans (W.mg_of X G a_law)
  cases e
  have T : Txt K mg := ⟨W.mg_none_of X G z_ValueError, W.mg_none_of X G z_bool, W.mg_none_of X G z_dict, W.mg_none_of X G z_int, W.mg_none_of X G z_isinstance, W.mg_none_of X G z_len, W.mg_none_of X G z_list, W.mg_none_of X G z_max, W.mg_none_of X G z_range, W.mg_none_of X G z_reversed, W.mg_none_of X G z_sorted, W.mg_none_of X G z_sum, W.mg_none_of X G z_tuple, ⟨_, W.mg_of X G y_MOST⟩⟩
  have D_law_mixed : DefAt K mg "_law_mixed" s_law_mixed ["_law_number", "_law_k"] := def_at X G a_law_mixed l_law_mixed c_law_mixed k_law_mixed (fun _ _ _ _ _ _ us hl => match us, hl with | [_, _], _ => rfl)
  have D_law_deck : DefAt K mg "_law_deck" s_law_deck ["_law_script"] := def_at X G a_law_deck l_law_deck c_law_deck k_law_deck (fun _ _ _ _ _ _ us hl => match us, hl with | [_], _ => rfl)
  have D_law_draw : DefAt K mg "_law_draw" s_law_draw ["_law_deck_here", "_law_most"] := def_at X G a_law_draw l_law_draw c_law_draw k_law_draw (fun _ _ _ _ _ _ us hl => match us, hl with | [_, _], _ => rfl)
  have D_law_name : DefAt K mg "_law_name" s_law_name ["_law_deck_here"] := def_at X G a_law_name l_law_name c_law_name k_law_name (fun _ _ _ _ _ _ us hl => match us, hl with | [_], _ => rfl)
  have D_law_names : DefAt K mg "_law_names" s_law_names ["_law_deck_here", "_law_many"] := def_at X G a_law_names l_law_names c_law_names k_law_names (fun _ _ _ _ _ _ us hl => match us, hl with | [_, _], _ => rfl)
  have D_law_by : DefAt K mg "_law_by" s_law_by ["_law_deck_here", "_law_amount_here"] := def_at X G a_law_by l_law_by c_law_by k_law_by (fun _ _ _ _ _ _ us hl => match us, hl with | [_, _], _ => rfl)
  have D_law_changes : DefAt K mg "_law_changes" s_law_changes ["_law_deck_here", "_law_names_here", "_law_known"] := def_at X G a_law_changes l_law_changes c_law_changes k_law_changes (fun _ _ _ _ _ _ us hl => match us, hl with | [_, _, _], _ => rfl)
  have D_law_told : DefAt K mg "_law_told" s_law_told ["_law_book", "_law_changes_here"] := def_at X G a_law_told l_law_told c_law_told k_law_told (fun _ _ _ _ _ _ us hl => match us, hl with | [_, _], _ => rfl)
  have D_law_due : DefAt K mg "_law_due" s_law_due ["_law_changes_here", "_law_known"] := def_at X G a_law_due l_law_due c_law_due k_law_due (fun _ _ _ _ _ _ us hl => match us, hl with | [_, _], _ => rfl)
  have D_law_stands : DefAt K mg "_law_stands" s_law_stands ["_law_book", "_law_names_here", "_law_known"] := def_at X G a_law_stands l_law_stands c_law_stands k_law_stands (fun _ _ _ _ _ _ us hl => match us, hl with | [_, _, _], _ => rfl)
  have D_law_amount : DefAt K mg "_law_amount" s_law_amount ["_law_deck_here", "_law_least"] := def_at X G a_law_amount l_law_amount c_law_amount k_law_amount (fun _ _ _ _ _ _ us hl => match us, hl with | [_, _], _ => rfl)
  have cl_Book : Cls K C_Book := ⟨pg_Book, hd_Book, po_Book, sa_Book⟩
  have M_Book_amount : MethAt K C_Book "amount" "Book.amount" s_Book_amount ["self", "name"] := ⟨cl_Book, _, _, fun_mk l_Book_amount c_Book_amount k_Book_amount, ⟨a_Book_amount, i_Book_amount, k_Book_amount⟩, (fun_mk (st := s_Book_amount) l_Book_amount c_Book_amount k_Book_amount).binds (fun _ _ _ _ _ _ us hl => match us, hl with | [_, _], _ => rfl)⟩
  have M_Book_rows : MethAt K C_Book "rows" "Book.rows" s_Book_rows ["self"] := ⟨cl_Book, _, _, fun_mk l_Book_rows c_Book_rows k_Book_rows, ⟨a_Book_rows, i_Book_rows, k_Book_rows⟩, (fun_mk (st := s_Book_rows) l_Book_rows c_Book_rows k_Book_rows).binds (fun _ _ _ _ _ _ us hl => match us, hl with | [_], _ => rfl)⟩
  have M_Book_change : MethAt K C_Book "change" "Book.change" s_Book_change ["self", "changes"] := ⟨cl_Book, _, _, fun_mk l_Book_change c_Book_change k_Book_change, ⟨a_Book_change, i_Book_change, k_Book_change⟩, (fun_mk (st := s_Book_change) l_Book_change c_Book_change k_Book_change).binds (fun _ _ _ _ _ _ us hl => match us, hl with | [_, _], _ => rfl)⟩
  subst vT_Book
  have I_Book : ClsAt K mg "Book" C_Book "Book.__init__" s_Book___init__ ["self", "rows"] [[], [.non]] := ⟨f_Book___init__, _, _, W.mg_of X G aC_Book, ⟨_, _, _, _, _, _, _, _, _, rfl, l_Book___init__, c_Book___init__⟩, ⟨mk_Book, a_Book___init__, i_Book___init__, kc_Book⟩, by
    intro d hd
    rcases List.mem_cons.mp hd with rfl | hd
    · exact ⟨[], fun s us KI hl => match us, (show us.length = 2 by simpa using hl) with | [_, _], _ => BindsTo.of_defaults (T := T_Book) rfl (KI _ _ lT_Book) rfl rfl rfl, .nil⟩
    obtain rfl := List.mem_singleton.mp hd
    · exact ⟨[.none], fun s us KI hl => match us, (show us.length = 1 by simpa using hl) with | [_], _ => BindsTo.of_defaults (T := T_Book) rfl (KI _ _ lT_Book) rfl rfl rfl, (.cons rfl .nil)⟩⟩
  have N_NoChange : InitAt K f_NoChange___init__ "NoChange.__init__" s_NoChange___init__ ["self", "name"] := ⟨⟨_, fun_mk l_NoChange___init__ c_NoChange___init__ k_NoChange___init__, (fun_mk (st := s_NoChange___init__) l_NoChange___init__ c_NoChange___init__ k_NoChange___init__).binds (fun _ _ _ _ _ _ us hl => match us, hl with | [_, _], _ => rfl)⟩, i_NoChange___init__⟩
  refine ⟨W.fnOf "law" "law" (defArgs s_law) (defBody s_law) (defScope s_law) .none kV_law dc_law pm_law an_law cd_law ct_law, fun s v => .of_eq rfl, fun base _ _ => ?_⟩
  have F_law := fun_mk (st := s_law) l_law c_law k_law
  have BT : BkT K C_Book := ⟨cl_Book, n_Book_amounts⟩
  have c1 := ok_mixed (P := l.prog) (w := w) (base := base) D_law_mixed
  have c2 := ok_draw c1 D_law_draw
  have c8 := ok_deck (P := l.prog) (w := w) (base := base) T D_law_deck
  have c9 := ok_name T c2 D_law_name
  have c10 := ok_names T c9 D_law_names
  have c11 := ok_amount T c2 D_law_amount
  have ci := ok_initF (P := l.prog) (w := w) (base := base) T BT I_Book
  have ca := ok_amount_of (P := l.prog) (w := w) (mg := mg) (base := base) BT M_Book_amount
  have cr := ok_rows_of (P := l.prog) (w := w) (base := base) T BT M_Book_rows
  have XQ : XKind K C_NoChange := ⟨x_ga, x_gx, x_cl, x_gg, x_tk, x_mo, x_mb, x_ci⟩
  have XI : XClsI K mg "NoChange" C_NoChange f_NoChange___init__ := ⟨W.mg_of X G aC_NoChange, x_exc⟩
  have iN : XInit l.prog w K mg base 1 C_NoChange f_NoChange___init__ "name" := ok_ninit ⟨x_sa, x_ov, x_ta⟩ N_NoChange
  have cg := ok_changeX T BT XI iN ca M_Book_change
  have TT : Told11 K mg C_NoChange C_DoorError [C_Busy, C_Down, C_Late, C_NoAsk, C_NoDeed, C_NoHouse, C_NoJournal, C_NoKey, C_NoLine, C_NoName] [C_NoNumber, C_NoRow, C_NoRows, C_NoWay, C_Other, C_Unsafe, C_Up] := ⟨W.mg_of X G aC_DoorError, W.mg_of X G aC_NoChange, x_xm, XQ, x_any1, x_any2, x_kC, x_kV, x_hd, x_num⟩
  have cto := ok_told11 T TT (W.mg_of X G aC_Busy) (W.mg_of X G aC_Down) (W.mg_of X G aC_Late) (W.mg_of X G aC_NoAsk) (W.mg_of X G aC_NoDeed) (W.mg_of X G aC_NoHouse) (W.mg_of X G aC_NoJournal) (W.mg_of X G aC_NoKey) (W.mg_of X G aC_NoLine) (W.mg_of X G aC_NoName) (W.mg_of X G aC_NoNumber) (W.mg_of X G aC_NoRow) (W.mg_of X G aC_NoRows) (W.mg_of X G aC_NoWay) (W.mg_of X G aC_Other) (W.mg_of X G aC_Unsafe) (W.mg_of X G aC_Up) cg D_law_told
  have cdu := ok_due11 (P := l.prog) (w := w) (base := base) T D_law_due
  have cby := ok_by T c2 D_law_by
  have cch := ok_changes11 T c2 cby D_law_changes
  have cst := ok_stands T BT ca cr D_law_stands
  exact ok_law T BT c8 c2 c10 c11 cch cdu cto cst (ci _ (by simp)) F_law
theorem walk {l : W.OpenLaw} {q : Program} {loose : List Str} {XP : (Str → Option Value) → Heap → Prop} {YP : World → Heap → Prop} {d : DefRec} {K : Params → W.Frag} (hn : l.most = some 63) (hdf : d.params.defaults = [])
    (hY : ∀ (w : World) (h : Heap), YP w h → (K w.params).In h)
    (F : ∀ (w : World) (mg : Str → Option Value) (fa : Addr) (h : Heap), (K w.params).In h → h.Ns mainGlobals mg → mg d.name = some (.ref fa) →
      ∃ fd : FuncData, (∀ (s : Shared) (u : Value), BindsTo s fd ⟨[u], []⟩ [("_law_script", u)]) ∧ ∀ base : Heap, (K w.params).In base → base.Ns mainGlobals mg → FnOk l.prog w (K w.params) mg base CX0 6 fa fd ["_law_script"] (spLaw (K w.params))) :
    W.WalkO q loose XP YP l.row.toRowW d [] (fun f vs => PySem.call f vs) :=
  L2.walk_of (n := 63) (k := 6) (x := "_law_script") (CX := fun _ => CX0) (sp := fun w => spLaw (K w.params)) hn (by decide) hdf ⟨rfl, by decide, by decide⟩ hY F (fun _ _ a ns hl _ hS => ⟨a, ns, rfl, hS, hl, fun _ => rfl⟩) fun _ _ _ _ _ z => z
end KL
def PySem.W.Fast.tw4512229766247113060 : Nat := 0
def PySem.W.Fast.tw6224040263776066785 : Nat := 0
def PySem.W.Fast.tw10313194808120370943 : Nat := 0
def PySem.W.Fast.tw7986265479980286793 : Nat := 0
def PySem.W.Fast.tw17157950473335225614 : Nat := 0
def PySem.W.Fast.tw17541738874477150446 : Nat := 0
def PySem.W.Fast.tw10245154493263856246 : Nat := 0
def PySem.W.Fast.tw753147112576616840 : Nat := 0
def PySem.W.Fast.tw3969223368009871767 : Nat := 0
def PySem.W.Fast.tw15196216536717235028 : Nat := 0
def PySem.W.Fast.tw13051325052056299597 : Nat := 0
def PySem.W.Fast.tw8935152402667355546 : Nat := 0
def PySem.W.Fast.tw6744018889801880417 : Nat := 0
def PySem.W.Fast.tw6372098725062291516 : Nat := 0
def PySem.W.Fast.tw6877708872654395966 : Nat := 0
def PySem.W.Fast.tw3613474386344831489 : Nat := 0
def PySem.W.Fast.tw9107335244682682226 : Nat := 0
def PySem.W.Fast.tw4882624876036689945 : Nat := 0
def PySem.W.Fast.tw1018442760063341215 : Nat := 0
def PySem.W.Fast.tw15133369590032826698 : Nat := 0
def PySem.W.Fast.tw16550966203730499843 : Nat := 0
def PySem.W.Fast.tw14979810466696228677 : Nat := 0
def PySem.W.Fast.tw7948831234412529050 : Nat := 0
open PySem PySem.W PyProof.Rows
set_option maxRecDepth 100000 in
set_option maxHeartbeats 0 in
theorem PySem.Challenge.cw_oncedoor_k11_changes_of_a_book_holds : PySem.Challenge.rw_oncedoor_k11_changes_of_a_book.Holds := by
  w_on; o_law; k_head; (case hw => w_witness2)
  k_fill
  refine KL.walk (l := PySem.Challenge.rw_oncedoor_k11_changes_of_a_book) rfl rfl (fun w h Y => W.kIn_of Y) ?F
  case F =>
    intro w mg fa h KX G hmg
    refine' KL.all_mk KX G hmg ?a_law_mixed ?l_law_mixed ?c_law_mixed ?k_law_mixed ?a_law_deck ?l_law_deck ?c_law_deck ?k_law_deck ?a_law_draw ?l_law_draw ?c_law_draw ?k_law_draw ?a_law_name ?l_law_name ?c_law_name ?k_law_name ?a_law_names ?l_law_names ?c_law_names ?k_law_names ?a_law_by ?l_law_by ?c_law_by ?k_law_by ?a_law_changes ?l_law_changes ?c_law_changes ?k_law_changes ?a_law_told ?l_law_told ?c_law_told ?k_law_told ?a_law_due ?l_law_due ?c_law_due ?k_law_due ?a_law_stands ?l_law_stands ?c_law_stands ?k_law_stands ?a_law_amount ?l_law_amount ?c_law_amount ?k_law_amount ?a_law ?l_law ?c_law ?k_law ?aC_Book ?pg_Book ?hd_Book ?po_Book ?sa_Book ?mk_Book ?kc_Book ?n_Book_amounts ?a_Book___init__ ?i_Book___init__ ?l_Book___init__ ?c_Book___init__ ?k_Book___init__ ?a_Book_amount ?i_Book_amount ?l_Book_amount ?c_Book_amount ?k_Book_amount ?a_Book_rows ?i_Book_rows ?l_Book_rows ?c_Book_rows ?k_Book_rows ?a_Book_change ?i_Book_change ?l_Book_change ?c_Book_change ?k_Book_change ?lT_Book ?vT_Book ?aC_DoorError ?aC_NoDeed ?aC_NoKey ?aC_Other ?aC_NoRow ?aC_NoAsk ?aC_NoJournal ?aC_Busy ?aC_NoName ?aC_Late ?aC_Down ?aC_Up ?aC_Unsafe ?aC_NoNumber ?aC_NoWay ?aC_NoLine ?aC_NoChange ?aC_NoHouse ?aC_NoRows ?a_NoChange___init__ ?i_NoChange___init__ ?l_NoChange___init__ ?c_NoChange___init__ ?k_NoChange___init__ ?x_ga ?x_gx ?x_cl ?x_gg ?x_tk ?x_mo ?x_mb ?x_ci ?x_xm ?x_any1 ?x_any2 ?x_kC ?x_kV ?x_exc ?x_sa ?x_ov ?x_ta ?x_num ?x_hd ?z_ValueError ?z_bool ?z_dict ?z_int ?z_isinstance ?z_len ?z_list ?z_max ?z_range ?z_reversed ?z_sorted ?z_sum ?z_tuple ?y_MOST
    (case a_law_mixed => k_is)
    (case l_law_mixed => k_is)
    (case c_law_mixed => k_is)
    (case k_law_mixed => k_is)
    (case a_law_deck => k_is)
    (case l_law_deck => k_is)
    (case c_law_deck => k_is)
    (case k_law_deck => k_is)
    (case a_law_draw => k_is)
    (case l_law_draw => k_is)
    (case c_law_draw => k_is)
    (case k_law_draw => k_is)
    (case a_law_name => k_is)
    (case l_law_name => k_is)
    (case c_law_name => k_is)
    (case k_law_name => k_is)
    (case a_law_names => k_is)
    (case l_law_names => k_is)
    (case c_law_names => k_is)
    (case k_law_names => k_is)
    (case a_law_by => k_is)
    (case l_law_by => k_is)
    (case c_law_by => k_is)
    (case k_law_by => k_is)
    (case a_law_changes => k_is)
    (case l_law_changes => k_is)
    (case c_law_changes => k_is)
    (case k_law_changes => k_is)
    (case a_law_told => k_is)
    (case l_law_told => k_is)
    (case c_law_told => k_is)
    (case k_law_told => k_is)
    (case a_law_due => k_is)
    (case l_law_due => k_is)
    (case c_law_due => k_is)
    (case k_law_due => k_is)
    (case a_law_stands => k_is)
    (case l_law_stands => k_is)
    (case c_law_stands => k_is)
    (case k_law_stands => k_is)
    (case a_law_amount => k_is)
    (case l_law_amount => k_is)
    (case c_law_amount => k_is)
    (case k_law_amount => k_is)
    (case a_law => k_is)
    (case l_law => k_is)
    (case c_law => k_is)
    (case k_law => k_is)
    (case aC_Book => k_is)
    (case pg_Book => k_is)
    (case hd_Book => k_is)
    (case po_Book => k_is)
    (case sa_Book => k_is)
    (case mk_Book => k_is)
    (case kc_Book => k_is)
    (case n_Book_amounts => k_is)
    (case a_Book___init__ => k_is)
    (case i_Book___init__ => k_is)
    (case l_Book___init__ => k_is)
    (case c_Book___init__ => k_is)
    (case k_Book___init__ => k_is)
    (case a_Book_amount => k_is)
    (case i_Book_amount => k_is)
    (case l_Book_amount => k_is)
    (case c_Book_amount => k_is)
    (case k_Book_amount => k_is)
    (case a_Book_rows => k_is)
    (case i_Book_rows => k_is)
    (case l_Book_rows => k_is)
    (case c_Book_rows => k_is)
    (case k_Book_rows => k_is)
    (case a_Book_change => k_is)
    (case i_Book_change => k_is)
    (case l_Book_change => k_is)
    (case c_Book_change => k_is)
    (case k_Book_change => k_is)
    (case lT_Book => k_is)
    (case vT_Book => exact rfl)
    (case aC_DoorError => k_is)
    (case aC_NoDeed => k_is)
    (case aC_NoKey => k_is)
    (case aC_Other => k_is)
    (case aC_NoRow => k_is)
    (case aC_NoAsk => k_is)
    (case aC_NoJournal => k_is)
    (case aC_Busy => k_is)
    (case aC_NoName => k_is)
    (case aC_Late => k_is)
    (case aC_Down => k_is)
    (case aC_Up => k_is)
    (case aC_Unsafe => k_is)
    (case aC_NoNumber => k_is)
    (case aC_NoWay => k_is)
    (case aC_NoLine => k_is)
    (case aC_NoChange => k_is)
    (case aC_NoHouse => k_is)
    (case aC_NoRows => k_is)
    (case a_NoChange___init__ => k_is)
    (case i_NoChange___init__ => k_is)
    (case l_NoChange___init__ => k_is)
    (case c_NoChange___init__ => k_is)
    (case k_NoChange___init__ => k_is)
    (case x_ga => k_is)
    (case x_gx => k_is)
    (case x_cl => k_is)
    (case x_gg => k_is)
    (case x_tk => k_is)
    (case x_mo => k_is)
    (case x_mb => k_is)
    (case x_ci => k_is)
    (case x_xm => kts_exm)
    (case x_any1 => kit_is)
    (case x_any2 => kit_is)
    (case x_kC => kit_is)
    (case x_kV => kit_is)
    (case x_exc => kernel_rfl)
    (case x_sa => k_is)
    (case x_ov => kernel_rfl)
    (case x_ta => kernel_rfl)
    (case x_num => k_is)
    (case x_hd => k_is)
    (case z_ValueError => k_is)
    (case z_bool => k_is)
    (case z_dict => k_is)
    (case z_int => k_is)
    (case z_isinstance => k_is)
    (case z_len => k_is)
    (case z_list => k_is)
    (case z_max => k_is)
    (case z_range => k_is)
    (case z_reversed => k_is)
    (case z_sorted => k_is)
    (case z_sum => k_is)
    (case z_tuple => k_is)
    (case y_MOST => k_is)
