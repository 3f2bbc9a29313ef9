import PyProof.Rows.All
import Wide.All
import OpenK.AllK
import Wide.FinOn
import Lean
import PyProof.EqAt
import PyProof.EqKinds
import PyProof.TupleCall
import KE.KSortTup
import KE.KDictSum
import KE.KDictOf
import PyProof.AttrMissHeap
import OpenK.KRaise
import KE.KIsAll
import KE.KTryMore
import KE.RegKIsAll
import KE.RegKTryMore
import PyProof.NsDelKeeps
import PyProof.ExcArgs
import PyProof.FitsReplace
import PyProof.Rows.StrJoin2
import PySem.Challenge.RW_oncedoor_k44_whole_keys_by_their_log
set_option Elab.async false
set_option linter.all false
set_option maxRecDepth 100000
set_option maxHeartbeats 4000000
namespace L2
open PySem PySem.Spec PyProof.Rows
abbrev Key := Sum Int Str
def keyIs : Key → Value → Bool
  | .inl k, v => Value.isInt k v
  | .inr x, v => Value.isStrOf x v
def keyH (w : World) : Key → Int
  | .inl k => hashInt k
  | .inr x => hashStr w x
theorem keyIs_shape : ∀ {k : Key} {v : Value}, keyIs k v = true → (∃ i t, k = Sum.inl i ∧ v = Value.int i t) ∨ (∃ x t, k = Sum.inr x ∧ v = Value.str x t)
  | .inl i, v, h => by
    obtain ⟨t, e⟩ := Value.isInt_shape (k := i) (v := v) h
    exact .inl ⟨i, t, rfl, e⟩
  | .inr x, v, h => by
    obtain ⟨t, e⟩ := Value.isStrOf_shape (x := x) (v := v) h
    exact .inr ⟨x, t, rfl, e⟩
theorem keyIs_int (i : Int) (t : Tok) : keyIs (.inl i) (.int i t) = true := by simp [keyIs, Value.isInt]
theorem keyIs_str (x : Str) (t : Tok) : keyIs (.inr x) (.str x t) = true := by simp [keyIs, Value.isStrOf]
theorem key_ll (a b : Int) : decide ((Sum.inl a : Key) = Sum.inl b) = (a == b) := by
  by_cases e : a = b
  · subst e; simp
  · have h : ¬ (Sum.inl a : Key) = Sum.inl b := fun q => e (Sum.inl.inj q)
    rw [decide_eq_false h]
    exact (beq_eq_false_iff_ne.mpr e).symm
theorem key_rr (a b : Str) : decide ((Sum.inr a : Key) = Sum.inr b) = decide (a = b) := by
  by_cases e : a = b
  · subst e; simp
  · have h : ¬ (Sum.inr a : Key) = Sum.inr b := fun q => e (Sum.inr.inj q)
    rw [decide_eq_false h, decide_eq_false e]
theorem key_lr (a : Int) (b : Str) : decide ((Sum.inl a : Key) = Sum.inr b) = false := decide_eq_false (fun q => nomatch q)
theorem key_rl (a : Str) (b : Int) : decide ((Sum.inr a : Key) = Sum.inl b) = false := decide_eq_false (fun q => nomatch q)
def mixKind (prog : Program) (w : World) : PySem.KeyKind prog w Key where
  is := keyIs
  hash := keyH w
  inj := fun v a b ha hb => by
    rcases keyIs_shape ha with ⟨i, t, rfl, rfl⟩ | ⟨x, t, rfl, rfl⟩
    · rcases keyIs_shape hb with ⟨j, u, rfl, e⟩ | ⟨y, u, rfl, e⟩
      · injection e with e1 _; rw [e1]
      · exact nomatch e
    · rcases keyIs_shape hb with ⟨j, u, rfl, e⟩ | ⟨y, u, rfl, e⟩
      · exact nomatch e
      · injection e with e1 _; rw [e1]
  byValue := fun k v h => by
    rcases keyIs_shape h with ⟨i, t, rfl, rfl⟩ | ⟨x, t, rfl, rfl⟩ <;> rfl
  pyHash := fun hv h => by
    rcases keyIs_shape hv with ⟨i, t, rfl, rfl⟩ | ⟨x, t, rfl, rfl⟩
    · exact wpAny_pyHash_int h
    · exact wpAny_pyHash_str h
  eqBool := fun hu hv h => by
    rcases keyIs_shape hu with ⟨i, t, rfl, rfl⟩ | ⟨x, t, rfl, rfl⟩
    · rcases keyIs_shape hv with ⟨j, u, rfl, rfl⟩ | ⟨y, u, rfl, rfl⟩
      · rw [key_ll] at h; exact wpAny_eqBool_int h
      · rw [key_lr] at h; exact SeqAt.EqAt.int_str i t y u _ _ _ _ h
    · rcases keyIs_shape hv with ⟨j, u, rfl, rfl⟩ | ⟨y, u, rfl, rfl⟩
      · rw [key_rl] at h; exact SeqAt.EqAt.str_int x t j u _ _ _ _ h
      · rw [key_rr] at h; exact wpAny_eqBool_str h
  «strs» := fun k x t v h => by
    rcases keyIs_shape h with ⟨i, u, rfl, e⟩ | ⟨y, u, rfl, e⟩
    · exact nomatch e
    · injection e with e1 _
      subst e1
      cases v <;> rfl
theorem mixKind_int (prog : Program) (w : World) (i : Int) (t : Tok) : (mixKind prog w).is (.inl i) (.int i t) = true := keyIs_int i t
theorem mixKind_str (prog : Program) (w : World) (x : Str) (t : Tok) : (mixKind prog w).is (.inr x) (.str x t) = true := keyIs_str x t
end L2
namespace L2
open PySem PySem.Spec PyProof.Rows
inductive V where
  | non | bl (b : Bool) | int (i : Int) | str (x : Str) | byt (b : Array UInt8) | flt (b : UInt64) | ref (a : Addr) | ty (n : String)
  deriving DecidableEq
def RelV : V → Value → Prop
  | .non, u => u = Value.none
  | .bl b, u => u = Value.bool b
  | .int i, u => ∃ t, u = Value.int i t
  | .str x, u => ∃ t, u = Value.str x t
  | .byt b, u => ∃ t, u = Value.bytes b t
  | .flt b, u => ∃ t, u = Value.float b t
  | .ref a, u => u = Value.ref a
  | .ty n, u => u = Value.type n
abbrev Vals : List V → List Value → Prop := Paired RelV
theorem Vals.length {xs : List V} {us : List Value} (r : Vals xs us) : xs.length = us.length := Paired.length r
theorem Vals.get : ∀ {xs : List V} {us : List Value} {i : Nat} {x : V}, Vals xs us → xs[i]? = some x → ∃ u, us[i]? = some u ∧ RelV x u
  | _, _, _, _, .nil, e => by simp at e
  | _, _, 0, _, .cons r _, e => by simp at e; subst e; exact ⟨_, rfl, r⟩
  | _, _, i + 1, x, .cons _ t, e => by
    obtain ⟨u, h1, h2⟩ := Vals.get (i := i) (x := x) t (by simpa using e)
    exact ⟨u, by simpa using h1, h2⟩
theorem Vals.set {x : V} {u : Value} (r : RelV x u) : ∀ {xs : List V} {us : List Value} (i : Nat), Vals xs us → Vals (xs.set i x) (us.set i u)
  | _, _, _, .nil => .nil
  | _, _, 0, .cons _ t => .cons r t
  | _, _, i + 1, .cons q t => .cons q (Vals.set r i t)
theorem Vals.append : ∀ {xs ys : List V} {us ws : List Value}, Vals xs us → Vals ys ws → Vals (xs ++ ys) (us ++ ws)
  | _, _, _, _, .nil, s => s
  | _, _, _, _, .cons r t, s => .cons r (Vals.append t s)
theorem Vals.take : ∀ {xs : List V} {us : List Value} (n : Nat), Vals xs us → Vals (xs.take n) (us.take n)
  | _, _, 0, _ => .nil
  | _, _, _ + 1, .nil => .nil
  | _, _, n + 1, .cons r t => .cons r (Vals.take n t)
theorem Vals.drop : ∀ {xs : List V} {us : List Value} (n : Nat), Vals xs us → Vals (xs.drop n) (us.drop n)
  | _, _, 0, r => r
  | _, _, _ + 1, .nil => .nil
  | _, _, n + 1, .cons _ t => Vals.drop n t
def RelO : Option V → Option Value → Prop
  | some v, some u => RelV v u
  | none, none => True
  | _, _ => False
def KV {κ : Type} : List (κ × V) → List (κ × Value) → Prop := Paired fun (p : κ × V) (q : κ × Value) => p.1 = q.1 ∧ RelV p.2 q.2
def kV : Key → V
  | .inl i => .int i
  | .inr x => .str x
inductive HO where
  /-- a list -/
  | lst (xs : List V)
  /-- a tuple (never changes) -/
  | tup (xs : List V)
  /-- a dict whose keys are ints and texts; one whose keys are tuples of ints and texts (the empty one is both) -/
  | dK (kvs : List (Key × V)) | dT (kvs : List (List Key × V))
  /-- a set of ints: its members, its size -/
  | set (S : Int → Bool) (n : Nat)
  /-- an instance of the class at C, its dict at dx, its attributes -/
  | ins (C dx : Addr) (fs : List (Str × V))
  /-- the dict of the instance at x -/
  | own (x : Addr)
  /-- the dict of an exception -/
  | xd (fs : List (Str × V))
  /-- a bound method, f of x -/
  | met (f x : Addr)
  /-- a range object lo, lo + 1, .. below hi -/
  | rng (lo hi : Int)
  /-- a thing that is known to the object (the script; a dict while a loop walks it): read, never written while it is so -/
  | frz (o : Obj) (u : HO)
  /-- a code object's table -/
  | tbl (ps : Array Value)
  /-- any other thing, by what is true of its one object (a def of one's own: SetO a S n := HO.ext fun h => ..) -/
  | ext (φ : Heap → Prop)
abbrev Hp := Addr → Option HO
def upd (H : Hp) (a : Addr) (o : HO) : Hp := fun b => if b = a then some o else H b
theorem upd_same {H : Hp} {a : Addr} {o : HO} : upd H a o a = some o := by unfold upd; rw [if_pos rfl]
theorem upd_ne {H : Hp} {a b : Addr} {o : HO} (h : b ≠ a) : upd H a o b = H b := by unfold upd; rw [if_neg h]
theorem ne_of {H : Hp} {a b : Addr} {o u : HO} (h : H a = some o) (h' : H b = some u) (d : o ≠ u) : a ≠ b := by
  intro e; subst e; rw [h] at h'; exact d (Option.some.inj h')
theorem ne_of_none {H : Hp} {a b : Addr} {o : HO} (h : H a = some o) (h' : H b = none) : a ≠ b := by
  intro e; subst e; rw [h] at h'; cases h'
section
variable (P : Program) (w : World)
def ObjOk (H : Hp) (h : Heap) (a : Addr) : HO → Prop
  | .lst xs => xs.length ≤ sizeLine ∧ ∃ (its : List Value) (n : Nat), Vals xs its ∧ h.get? a = some { cls := .type "list", data := .seq its.toArray n }
  | .tup xs => xs.length ≤ sizeLine ∧ ∃ its : List Value, Vals xs its ∧ IsTup h a its.toArray
  | .dK kvs => kvs.length ≤ sizeLine ∧ (a == sysModules) = false ∧ ∃ vs, KV kvs vs ∧ h.DictOf (mixKind P w) a vs
  | .dT kvs => kvs.length ≤ sizeLine ∧ (a == sysModules) = false ∧ ∃ xs : List (List Key × Addr × Value),
      Paired (fun (p : List Key × V) (q : List Key × Addr × Value) => p.1 = q.1 ∧ H q.2.1 = some (.tup (p.1.map kV)) ∧ RelV p.2 q.2.2) kvs xs ∧
      ∃ o es ep, h.get? a = some o ∧ o.ExactDict ∧ o.data = .dict es ep ∧ es.toList = xs.map (entryOfKey (tupleKind (mixKind P w))) ∧ (xs.map (·.1)).Nodup
  | .set S n => h.SetOf (intKind P w) a S n
  | .ins C dx fs => H dx = some (.own a) ∧ fs.length ≤ 1000 ∧ dx ≠ a ∧ h.get? a = some (W.instObj C dx) ∧
      ∃ mA, h.Ns1 dx mA ∧ (∀ f, RelO (fs.lookup f) (mA f)) ∧ PySem.Within mA (fs.map (·.1))
  | .own _ => ∃ o, h.get? a = some o
  | .xd fs => ∃ mA, h.Ns1 a mA ∧ ∀ f, RelO (fs.lookup f) (mA f)
  | .rng lo hi => ∃ t u v, h.get? a = some { cls := .type "range", data := .fields #[.int lo t, .int hi u, .int 1 v] }
  | .frz o u => h.get? a = some o ∧ ObjOk H h a u
  | .tbl ps => h.get? a = some { cls := .none, data := .fields ps }
  | .met f x => h.get? a = some (W.methodObj (.ref f) (.ref x))
  | .ext φ => φ h ∧ (∃ o, h.get? a = some o) ∧ ∀ h1 h2 : Heap, φ h1 → (∀ o, h1.get? a = some o → h2.get? a = some o) → φ h2
def HOk (H : Hp) (h : Heap) : Prop := ∀ a o, H a = some o → ObjOk P w H h a o
end
section
variable {P : Program} {w : World} {H H' : Hp} {h h' : Heap} {a : Addr} {o : HO}
theorem ObjOk.lt (x : ObjOk P w H h a o) : a < h.objs.size := by
  cases o with
  | lst xs => obtain ⟨_, _, _, _, e⟩ := x; exact Heap.lt_size e
  | tup xs => obtain ⟨_, _, _, p⟩ := x; exact p.lt
  | dK kvs => obtain ⟨_, _, _, _, o, _, _, e, _⟩ := x; exact Heap.lt_size e
  | dT kvs => obtain ⟨_, _, _, _, o, _, _, e, _⟩ := x; exact Heap.lt_size e
  | set S n => obtain ⟨o, _, _, _, e, _⟩ := x; exact Heap.lt_size e
  | ins C dx fs => obtain ⟨_, _, _, e, _⟩ := x; exact Heap.lt_size e
  | own y => obtain ⟨_, e⟩ := x; exact Heap.lt_size e
  | xd fs => obtain ⟨_, ⟨_, _, _, e, _⟩, _⟩ := x; exact Heap.lt_size e
  | rng lo hi => obtain ⟨_, _, _, e⟩ := x; exact Heap.lt_size e
  | frz ob u => obtain ⟨e, _⟩ := x; exact Heap.lt_size e
  | tbl ps => exact Heap.lt_size (show h.get? a = some _ from x)
  | met f y => exact Heap.lt_size (show h.get? a = some _ from x)
  | ext φ => obtain ⟨_, ⟨_, e⟩, _⟩ := x; exact Heap.lt_size e
theorem Paired.mapP {α β : Type} {F G : α → β → Prop} : ∀ {l₁ : List α} {l₂ : List β}, Paired F l₁ l₂ → (∀ a b, F a b → G a b) → Paired G l₁ l₂
  | _, _, .nil, _ => .nil
  | _, _, .cons r t, f => .cons (f _ _ r) (Paired.mapP t f)
theorem ObjOk.stay (x : ObjOk P w H h a o) (k : ∀ b u, (b = a ∨ H b = some (.own a)) → h.get? b = some u → h'.get? b = some u)
    (ho : ∀ b, H b = some (.own a) → H' b = some (.own a)) (ht : ∀ b xs, H b = some (.tup xs) → H' b = some (.tup xs)) : ObjOk P w H' h' a o := by
  induction o with
  | lst xs => obtain ⟨z, its, n, r, e⟩ := x; exact ⟨z, its, n, r, k _ _ (.inl rfl) e⟩
  | tup xs => obtain ⟨z, its, r, ob, e, c⟩ := x; exact ⟨z, its, r, ob, k _ _ (.inl rfl) e, c⟩
  | dK kvs => obtain ⟨z, y, vs, r, ob, es, ep, e, c⟩ := x; exact ⟨z, y, vs, r, ob, es, ep, k _ _ (.inl rfl) e, c⟩
  | dT kvs =>
    obtain ⟨z, y, xs, r, ob, es, ep, e, c⟩ := x
    exact ⟨z, y, xs, Paired.mapP r fun p q z => ⟨z.1, ht _ _ z.2.1, z.2.2⟩, ob, es, ep, k _ _ (.inl rfl) e, c⟩
  | set S n => obtain ⟨ob, es, ep, t, e, c⟩ := x; exact ⟨ob, es, ep, t, k _ _ (.inl rfl) e, c⟩
  | ins C dx fs =>
    obtain ⟨d, z, ne, e, mA, ⟨od, es, ep, e2, c⟩, r⟩ := x
    exact ⟨ho _ d, z, ne, k _ _ (.inl rfl) e, mA, ⟨od, es, ep, k _ _ (.inr d) e2, c⟩, r⟩
  | own y => obtain ⟨ob, e⟩ := x; exact ⟨ob, k _ _ (.inl rfl) e⟩
  | xd fs => obtain ⟨mA, ⟨od, es, ep, e, c⟩, r⟩ := x; exact ⟨mA, ⟨od, es, ep, k _ _ (.inl rfl) e, c⟩, r⟩
  | rng lo hi => obtain ⟨t, u, v, e⟩ := x; exact ⟨t, u, v, k _ _ (.inl rfl) e⟩
  | frz ob u ih => obtain ⟨e, q⟩ := x; exact ⟨k _ _ (.inl rfl) e, ih q⟩
  | tbl ps =>
    have e : h.get? a = some { cls := .none, data := .fields ps } := x
    show h'.get? a = some { cls := .none, data := .fields ps }
    exact k a _ (.inl rfl) e
  | met f y =>
    have e : h.get? a = some (W.methodObj (.ref f) (.ref y)) := x
    show h'.get? a = some (W.methodObj (.ref f) (.ref y))
    exact k a _ (.inl rfl) e
  | ext φ => obtain ⟨p, ⟨o, e⟩, st⟩ := x; exact ⟨st _ _ p fun o q => k _ _ (.inl rfl) q, ⟨o, k _ _ (.inl rfl) e⟩, st⟩
theorem HOk.lt (x : HOk P w H h) (e : H a = some o) : a < h.objs.size := (x a o e).lt
theorem HOk.fresh (x : HOk P w H h) (e : h.objs.size ≤ a) : H a = none := by
  cases q : H a with
  | none => rfl
  | some u => exact absurd (Nat.lt_of_lt_of_le (x.lt q) e) (Nat.lt_irrefl _)
theorem HOk.kept (x : HOk P w H h) (k : ∀ b u, h.get? b = some u → h'.get? b = some u) : HOk P w H h' := fun a o e =>
  (x a o e).stay (fun b u _ q => k b u q) (fun _ q => q) fun _ _ q => q
theorem HOk.laid (x : HOk P w H h) (k : ∀ b u, h.get? b = some u → h'.get? b = some u) (hp : h.objs.size ≤ a) (new : ObjOk P w (upd H a o) h' a o) : HOk P w (upd H a o) h' := fun b u e => by
  have hn := x.fresh hp
  by_cases hb : b = a
  · subst hb; rw [upd_same] at e; cases e; exact new
  · rw [upd_ne hb] at e
    exact (x b u e).stay (fun c v _ q => k c v q) (fun c q => by rw [upd_ne (ne_of_none q hn)]; exact q) fun c xs q => by rw [upd_ne (ne_of_none q hn)]; exact q
end
def Rd (H : Hp) (a : Addr) (u : HO) : Prop := H a = some u ∨ ∃ o, H a = some (.frz o u)
theorem Rd.ok {P : Program} {w : World} {H : Hp} {h : Heap} {a : Addr} {u : HO} (r : Rd H a u) (x : HOk P w H h) : ObjOk P w H h a u := by
  rcases r with r | ⟨o, r⟩
  · exact x a u r
  · obtain ⟨_, q⟩ := x a _ r
    exact q
def Mut : Option HO → Prop
  | some (.lst _) => True
  | some (.dK _) => True
  | some (.dT _) => True
  | some (.set _ _) => True
  | some (.ins _ _ _) => True
  | some (.ext _) => True
  | _ => False
section
variable {P : Program} {w : World} {H : Hp} {h h' : Heap} {x e : Addr} {o' : HO}
theorem HOk.write (ok : HOk P w H h) (mu : Mut (H x)) (he : e = x ∨ H e = some (.own x)) (k : ∀ b u, b ≠ e → h.get? b = some u → h'.get? b = some u) (heo : ∃ u, h'.get? e = some u)
    (new : ObjOk P w (upd H x o') h' x o') : HOk P w (upd H x o') h' := fun b u q => by
  have nown : ∀ c y, H c = some (.own y) → c ≠ x := fun c y r z => by subst z; rw [r] at mu; exact mu
  have ntup : ∀ c xs, H c = some (.tup xs) → c ≠ x := fun c xs r z => by subst z; rw [r] at mu; exact mu
  by_cases hb : b = x
  · subst hb; rw [upd_same] at q; cases q; exact new
  · rw [upd_ne hb] at q
    by_cases hbe : b = e
    · have q' : H b = some (.own x) := by
        rcases he with z | z
        · exact absurd (hbe.trans z) hb
        · rw [hbe]; exact z
      rw [q] at q'; cases q'
      obtain ⟨v, hv⟩ := heo
      exact ⟨v, by rw [hbe]; exact hv⟩
    · refine (ok b u q).stay (fun c v hc r => k c v ?_ r) (fun c r => by rw [upd_ne (nown c b r)]; exact r) fun c xs r => by rw [upd_ne (ntup c xs r)]; exact r
      rcases hc with rfl | hc
      · exact hbe
      · rintro rfl
        rcases he with z | z
        · exact nown c b hc z
        · rw [hc] at z; cases z; exact hb rfl
end
structure Un (fs ex : List Addr) (H H' : Hp) (h h' : Heap) : Prop where
  keep : ∀ b o, h.get? b = some o → H b = none → b ∉ fs → b ∉ ex → h'.get? b = some o
  slot : ∀ b o, h.get? b = some o → H b = none → b ∈ fs → b ∉ ex → ∃ sl, h'.get? b = some { o with slots := sl }
  free : ∀ b o, h.get? b = some o → H b = none → b ∉ ex → H' b = none
  there : ∀ b o, h.get? b = some o → b ∉ ex → ∃ o', h'.get? b = some o'
  tups : ∀ b xs, H b = some (.tup xs) → H' b = some (.tup xs)
  frzs : ∀ b o u, H b = some (.frz o u) → H' b = some (.frz o u)
  tbls : ∀ b ps, H b = some (.tbl ps) → ∃ more, H' b = some (.tbl (ps ++ more))
section
variable {fs fs' ex ex' : List Addr} {H H1 H2 : Hp} {h h1 h2 h' : Heap} {a x e : Addr} {o : HO}
theorem Un.any (u : Un fs ex H H1 h h1) {b : Addr} {ob : Obj} (q : h.get? b = some ob) (n : H b = none) (hx : b ∉ ex) : ∃ sl, h1.get? b = some { ob with slots := sl } := by
  by_cases hb : b ∈ fs
  · exact u.slot b ob q n hb hx
  · exact ⟨ob.slots, u.keep b ob q n hb hx⟩
theorem Un.kept (k : ∀ b u, h.get? b = some u → h'.get? b = some u) : Un fs ex H H h h' :=
  ⟨fun b ob q _ _ _ => k b ob q, fun b ob q _ _ _ => ⟨ob.slots, k b ob q⟩, fun _ _ _ n _ => n, fun b ob q _ => ⟨ob, k b ob q⟩, fun _ _ q => q, fun _ _ _ q => q, fun _ ps q => ⟨#[], by rw [q]; simp⟩⟩
theorem Un.refl : Un fs ex H H h h := Un.kept fun _ _ q => q
theorem Un.laid (k : ∀ b u, h.get? b = some u → h'.get? b = some u) (hp : h.objs.size ≤ a) (hn : H a = none) : Un fs ex H (upd H a o) h h' where
  keep := fun b u q _ _ _ => k b u q
  slot := fun b u q _ _ _ => ⟨u.slots, k b u q⟩
  free := fun b u q n _ => by rw [upd_ne (Nat.ne_of_lt (Nat.lt_of_lt_of_le (Heap.lt_size q) hp))]; exact n
  there := fun b u q _ => ⟨u, k b u q⟩
  tups := fun b xs q => by rw [upd_ne (ne_of_none q hn)]; exact q
  frzs := fun b u xs q => by rw [upd_ne (ne_of_none q hn)]; exact q
  tbls := fun b ps q => ⟨#[], by rw [upd_ne (ne_of_none q hn), q]; simp⟩
theorem Un.write (mu : Mut (H x)) (he : e = x ∨ H e = some (.own x)) (k : ∀ b u, b ≠ e → h.get? b = some u → h'.get? b = some u) (heo : ∃ u, h'.get? e = some u) : Un fs ex H (upd H x o) h h' := by
  have hx : ∀ b, H b = none → b ≠ x := fun b n z => by subst z; rw [n] at mu; exact mu
  have hb : ∀ b, H b = none → b ≠ e := fun b n z => by
    subst z
    rcases he with r | r
    · exact hx b n r
    · rw [n] at r; cases r
  have hm : ∀ b u, H b = some u → ¬ Mut (some u) → b ≠ x := fun b u q nm z => by subst z; rw [q] at mu; exact nm mu
  refine ⟨fun b u q n _ _ => k b u (hb b n) q, fun b u q n _ _ => ⟨u.slots, k b u (hb b n) q⟩, fun b u q n _ => by rw [upd_ne (hx b n)]; exact n, fun b u q _ => ?_,
    fun b xs q => by rw [upd_ne (hm b _ q fun z => z)]; exact q, fun b u xs q => by rw [upd_ne (hm b _ q fun z => z)]; exact q, fun b ps q => ⟨#[], by rw [upd_ne (hm b _ q fun z => z), q]; simp⟩⟩
  by_cases hbe : b = e
  · subst hbe; exact heo
  · exact ⟨u, k b u hbe q⟩
end
def trk (h : Heap) (H : Hp) : List Addr := (List.range h.objs.size).filter fun a => (H a).isSome
def hidT (h : Heap) (H : Hp) : Heap := W.hideAll h (trk h H)
theorem hidT_size (h : Heap) (H : Hp) : (hidT h H).objs.size = h.objs.size := W.hideAll_size _ _
theorem hidT_get {h : Heap} {H : Hp} {b : Addr} {o : Obj} (e : h.get? b = some o) (n : H b = none) : (hidT h H).get? b = some o :=
  W.hideAll_get _ e fun hm => by
    have q : (H b).isSome = true := (List.mem_filter.mp hm).2
    rw [n] at q; simp at q
theorem of_hidT {h : Heap} {H : Hp} {b : Addr} {o : Obj} (e : (hidT h H).get? b = some o) : h.get? b = some o ∧ H b = none := by
  have e' : h.get? b = some o := W.of_hideAll (trk h H) e
  refine ⟨e', ?_⟩
  cases q : H b with
  | none => rfl
  | some x =>
    have hm : b ∈ trk h H := List.mem_filter.mpr ⟨List.mem_range.mpr (Heap.lt_size e'), by simp [q]⟩
    have z : (hidT h H).get? b = none := W.hideAll_none (trk h H) hm
    rw [z] at e; cases e
end L2
namespace L2
open PySem PySem.Spec PyProof.Rows
structure Mod (K : W.Frag) (mg : Str → Option Value) (base : Heap) : Prop where
  kin : K.In base
  glob : base.Ns mainGlobals mg
  blt : ∃ mb, base.Ns builtinsNs mb ∧ ∀ x : Str, x ≠ "__name__" → mb x = bootBuiltins x
  nolimit : base.NoLimit
structure Cx where
  prog : Program
  w : World
  K : W.Frag
  mg : Str → Option Value
  base : Heap
  A : Around
  N : List Str
  s₀ : Shared
  H₀ : Hp
  env : Env
  outer : List Env
  stack : List Env
  ex : List Addr
  fn : Str → Bool
  calm : Bool
  pn : List (Addr × Obj)
  xe : Value → Shared → Prop
def frs (l : List Env) : List Addr := l.filterMap (·.frame)
abbrev Cx.fs (X : Cx) : List Addr := frs X.outer
def Vis (sc : Scope) (x : Str) : Prop := sc.names.lookup x = some .local ∨ sc.names.lookup x = some .cell ∨ sc.names.lookup x = some .free
def Loc (sc : Scope) (x : Str) : Prop := sc.names.lookup x = some .local ∨ sc.names.lookup x = some .cell
def Look (env : Env) (h : Heap) (m : Str → Option Value) (x : Str) (u : Value) : Prop :=
  (env.kindOf x = some .local ∧ m x = some u) ∨ ((env.kindOf x = some .cell ∨ env.kindOf x = some .free) ∧ ∃ c, env.cells.lookup x = some c ∧ h.IsCell c (some u))
structure Cx.Ok (X : Cx) : Prop where
  mod : Mod X.K X.mg X.base
  kind : X.env.scope.kind = .function
  glob : X.env.globals = mainGlobals
  blt : X.env.builtins = builtinsNs
  above : X.s₀.heap.objs.size ≤ X.env.locals
  inj : ∀ x y c, X.env.cells.lookup x = some c → X.env.cells.lookup y = some c → x = y
  has : ∀ x, (X.env.kindOf x = some .cell ∨ X.env.kindOf x = some .free) → ∃ c, X.env.cells.lookup x = some c
  cab : ∀ x c, X.fn x = true → X.env.cells.lookup x = some c → X.s₀.heap.objs.size ≤ c
  hd : X.calm = true → X.A.handled = none
  frames : X.A.frames = some X.stack
  stk : X.stack = X.outer ∨ (X.stack = X.env :: X.outer ∧ X.env.frame = some X.env.locals)
  exf : ∀ b ∈ X.ex, b ≠ X.env.locals ∧ ∀ x c, X.env.cells.lookup x = some c → c ≠ b
  bs : ∀ b o, X.base.get? b = some o → X.s₀.heap.get? b = some o ∧ X.H₀ b = none
  bsz : X.base.objs.size ≤ X.s₀.heap.objs.size
  noex : ∀ b o, X.base.get? b = some o → b ∉ X.ex
  exfs : ∀ b ∈ X.ex, b ∉ X.fs
  funs : X.s₀.heap.FunFrames X.base X.outer
  frf : ∀ b ∈ X.fs, X.H₀ b = none
structure Inv (X : Cx) (pins : List (Addr × Obj)) (σ : List (Option V)) (H : Hp) (s : Shared) : Prop where
  ok : X.Ok
  os : s.os = X.s₀.os
  bare : AllBare s.gens
  base : Un X.fs X.ex X.H₀ H X.s₀.heap s.heap
  loc : ∃ m, s.heap.Ns X.env.locals m ∧ ∀ (i : Nat) (x : Str) (v : V), X.N[i]? = some x → σ[i]? = some (some v) → Vis X.env.scope x → ∃ u, RelV v u ∧ Look X.env s.heap m x u
  cell : ∀ x c, X.env.cells.lookup x = some c → ∃ v, s.heap.IsCell c v
  free : H X.env.locals = none
  freeC : ∀ x c, X.env.cells.lookup x = some c → H c = none
  pin : ∀ p ∈ X.pn ++ pins, s.heap.get? p.1 = some p.2 ∧ H p.1 = none ∧ p.1 ≠ X.env.locals ∧ p.1 ∉ X.fs ∧ ∀ v, p.2.data ≠ .cell v
  hok : HOk X.prog X.w H s.heap
  len : σ.length = X.N.length
section
variable {X : Cx} {pins : List (Addr × Obj)} {σ : List (Option V)} {H H' : Hp} {s : Shared} {h' : Heap}
theorem Cx.Ok.nofr (ok : X.Ok) {b : Addr} {o : Obj} (e : X.base.get? b = some o) : b ∉ X.fs := fun hb => by
  have := (ok.funs.mem hb).1
  rw [e] at this; cases this
theorem Inv.bs (I : Inv X pins σ H s) : ∀ b o, X.base.get? b = some o → s.heap.get? b = some o ∧ H b = none := fun b o e =>
  ⟨I.base.keep b o (I.ok.bs b o e).1 (I.ok.bs b o e).2 (I.ok.nofr e) (I.ok.noex b o e), I.base.free b o (I.ok.bs b o e).1 (I.ok.bs b o e).2 (I.ok.noex b o e)⟩
theorem Inv.bk (I : Inv X pins σ H s) : ∀ b o, X.base.get? b = some o → s.heap.get? b = some o := fun b o e => (I.bs b o e).1
theorem Inv.mod (I : Inv X pins σ H s) : Mod X.K X.mg X.base := I.ok.mod
theorem Inv.kIn (I : Inv X pins σ H s) : X.K.In s.heap := I.ok.mod.kin.keeps I.bk
theorem Inv.fr (I : Inv X pins σ H s) : ∃ m, Fr X.base X.env.locals s.heap m :=
  let ⟨m, hn, _⟩ := I.loc
  ⟨m, hn, I.bk, Nat.le_trans I.ok.bsz I.ok.above⟩
theorem Inv.lt (I : Inv X pins σ H s) : X.env.locals < s.heap.objs.size := let ⟨_, hn, _⟩ := I.loc; hn.lt
theorem Inv.sz (I : Inv X pins σ H s) : X.s₀.heap.objs.size ≤ s.heap.objs.size := Nat.le_trans I.ok.above (Nat.le_of_lt I.lt)
theorem Inv.nofs (I : Inv X pins σ H s) {a : Addr} (h : s.heap.objs.size ≤ a) : a ∉ X.fs := fun hb => by
  obtain ⟨_, o, ho, _⟩ := I.ok.funs.mem hb
  exact absurd (Nat.lt_of_lt_of_le (Heap.lt_size ho) (Nat.le_trans I.sz h)) (Nat.lt_irrefl _)
theorem Inv.cne (I : Inv X pins σ H s) : ∀ x c, X.env.cells.lookup x = some c → c ≠ X.env.locals := fun x c e z => by
  obtain ⟨v, o, ho, hd⟩ := I.cell x c e
  obtain ⟨m, ⟨o', es, ep, ho', hd', _⟩, _⟩ := I.loc
  rw [z, ho'] at ho; cases ho; rw [hd'] at hd; cases hd
theorem Inv.funs (I : Inv X pins σ H s) : s.heap.FunFrames X.base X.outer := by
  have all : ∀ (l : List Env), (∀ b ∈ frs l, b ∈ X.fs) → X.s₀.heap.FunFrames X.base l → s.heap.FunFrames X.base l := by
    intro l
    induction l with
    | nil => intro _ _; trivial
    | cons env r ih =>
      intro hs hl
      obtain ⟨hk, ⟨L, o, hf, hn, ho, hd⟩, hr⟩ := hl
      have hL : L ∈ X.fs := hs L (by unfold frs; rw [List.filterMap_cons, hf]; exact List.mem_cons_self)
      obtain ⟨sl, e⟩ := I.base.slot L o ho (I.ok.frf L hL) hL fun z => I.ok.exfs L z hL
      exact ⟨hk, ⟨L, _, hf, hn, e, hd⟩, ih (fun b hb => hs b (by unfold frs; rw [List.filterMap_cons, hf]; exact List.mem_cons_of_mem _ hb)) hr⟩
  exact all X.outer (fun _ hb => hb) I.ok.funs
theorem Inv.stack (I : Inv X pins σ H s) : s.heap.FunFrames X.base X.stack := by
  rcases I.ok.stk with e | ⟨e, hf⟩
  · rw [e]; exact I.funs
  · rw [e]
    obtain ⟨m, hn, _⟩ := I.loc
    refine .cons (by rw [I.ok.kind]; decide) hf hn ?_ I.funs
    exact Heap.get?_none_of_le (Nat.le_trans I.ok.bsz I.ok.above)
theorem Inv.stkSub (I : Inv X pins σ H s) : ∀ b ∈ frs X.stack, b ∈ X.env.locals :: X.fs := fun b hb => by
  rcases I.ok.stk with e | ⟨e, hf⟩
  · rw [e] at hb; exact List.mem_cons_of_mem _ hb
  · rw [e] at hb
    unfold frs at hb
    rw [List.filterMap_cons, hf] at hb
    exact hb
theorem Inv.stkFree (I : Inv X pins σ H s) : ∀ b ∈ frs X.stack, H b = none := fun b hb => by
  rcases List.mem_cons.mp (I.stkSub b hb) with e | hb
  · rw [e]; exact I.free
  · obtain ⟨_, o, ho, _⟩ := I.ok.funs.mem hb
    exact I.base.free b o ho (I.ok.frf b hb) fun z => I.ok.exfs b z hb
theorem Inv.step {g' : Array GenState} {t' : Nat} {d' : Drawn} {ch : List Addr} (I : Inv X pins σ H s)
    (hch : ∀ b ∈ ch, (b ∈ X.ex ∨ X.s₀.heap.objs.size ≤ b) ∧ b ≠ X.env.locals ∧ (∀ x c, X.env.cells.lookup x = some c → c ≠ b) ∧ ∀ p ∈ X.pn ++ pins, p.1 ≠ b)
    (keep : ∀ b o, b ≠ X.env.locals → b ∉ X.fs → b ∉ ch → s.heap.get? b = some o → H b = none → h'.get? b = some o)
    (slot : ∀ b o, b ≠ X.env.locals → b ∈ X.fs → b ∉ ch → s.heap.get? b = some o → H b = none → ∃ sl, h'.get? b = some { o with slots := sl }) (free : ∀ b o, b ∉ ch → s.heap.get? b = some o → H b = none → H' b = none)
    (there : ∀ b o, b ∉ ch → s.heap.get? b = some o → ∃ o', h'.get? b = some o')
    (tups : ∀ b xs, H b = some (.tup xs) → H' b = some (.tup xs)) (frzs : ∀ b o u, H b = some (.frz o u) → H' b = some (.frz o u)) (tbls : ∀ b ps, H b = some (.tbl ps) → ∃ more, H' b = some (.tbl (ps ++ more)))
    (ns : ∀ m, s.heap.Ns X.env.locals m → h'.Ns X.env.locals m) (hok : HOk X.prog X.w H' h') (hg : AllBare g') :
    Inv X pins σ H' { s with heap := h', gens := g', drawn := d', toks := t' } := by
  have neL : ∀ b o, X.s₀.heap.get? b = some o → b ≠ X.env.locals := fun b o e => Nat.ne_of_lt (Nat.lt_of_lt_of_le (Heap.lt_size e) I.ok.above)
  have neC : ∀ b o, X.s₀.heap.get? b = some o → b ∉ X.ex → b ∉ ch := fun b o e hx hb => by
    rcases (hch b hb).1 with z | z
    · exact hx z
    · exact absurd (Nat.lt_of_lt_of_le (Heap.lt_size e) z) (Nat.lt_irrefl _)
  have cellK : ∀ x c, X.env.cells.lookup x = some c → ∀ v, s.heap.IsCell c v → h'.IsCell c v := fun x c e v ⟨o, ho, hd⟩ => by
    have nch : c ∉ ch := fun z => (hch c z).2.2.1 x c e rfl
    by_cases hc : c ∈ X.fs
    · obtain ⟨sl, q⟩ := slot c o (I.cne x c e) hc nch ho (I.freeC x c e)
      exact ⟨_, q, hd⟩
    · exact ⟨o, keep c o (I.cne x c e) hc nch ho (I.freeC x c e), hd⟩
  refine ⟨I.ok, I.os, hg, ⟨fun b o e n hb hx => ?_, fun b o e n hb hx => ?_, fun b o e n hx => ?_, fun b o e hx => ?_, fun b xs e => tups b xs (I.base.tups b xs e), fun b o xs e => frzs b o xs (I.base.frzs b o xs e), fun b ps e => ?_⟩, ?_, fun x c e => ?_, ?_, fun x c e => ?_, fun p hp => ?_, hok, I.len⟩
  · exact keep b o (neL b o e) hb (neC b o e hx) (I.base.keep b o e n hb hx) (I.base.free b o e n hx)
  · obtain ⟨sl, e1⟩ := I.base.slot b o e n hb hx
    obtain ⟨sl', e2⟩ := slot b _ (neL b o e) hb (neC b o e hx) e1 (I.base.free b o e n hx)
    exact ⟨sl', e2⟩
  · obtain ⟨o', e1⟩ := I.base.there b o e hx
    exact free b o' (neC b o e hx) e1 (I.base.free b o e n hx)
  · obtain ⟨o', e1⟩ := I.base.there b o e hx
    exact there b o' (neC b o e hx) e1
  · obtain ⟨m1, e1⟩ := I.base.tbls b ps e
    obtain ⟨m2, e2⟩ := tbls b _ e1
    exact ⟨m1 ++ m2, by rw [e2, Array.append_assoc]⟩
  · obtain ⟨m, hn, hl⟩ := I.loc
    refine ⟨m, ns m hn, fun i x v e1 e2 e3 => ?_⟩
    obtain ⟨u, r, l⟩ := hl i x v e1 e2 e3
    refine ⟨u, r, ?_⟩
    rcases l with l | ⟨k, c, e, z⟩
    · exact .inl l
    · exact .inr ⟨k, c, e, cellK x c e _ z⟩
  · obtain ⟨v, z⟩ := I.cell x c e
    exact ⟨v, cellK x c e v z⟩
  · obtain ⟨m, ⟨o, _, _, ho, _⟩, _⟩ := I.loc
    exact free _ o (fun z => (hch _ z).2.1 rfl) ho I.free
  · obtain ⟨v, o, ho, hd⟩ := I.cell x c e
    exact free c o (fun z => (hch c z).2.2.1 x c e rfl) ho (I.freeC x c e)
  · obtain ⟨e, n, ne, nf, d⟩ := I.pin p hp
    have nch : p.1 ∉ ch := fun z => (hch p.1 z).2.2.2 p hp rfl
    exact ⟨keep p.1 p.2 ne nf nch e n, free p.1 p.2 nch e n, ne, nf, d⟩
theorem Inv.un {t' : Nat} (I : Inv X pins σ H s) (u : Un X.fs [] H H' s.heap h') (hok : HOk X.prog X.w H' h') : Inv X pins σ H' { s with heap := h', toks := t' } := by
  obtain ⟨m, ⟨o, es, ep, ho, r⟩, _⟩ := id I.loc
  obtain ⟨sl, hL⟩ := u.any ho I.free (by simp)
  exact I.step (g' := s.gens) (d' := s.drawn) (ch := []) (fun _ z => nomatch z) (fun b o _ hb _ e n => u.keep b o e n hb (by simp)) (fun b o _ hb _ e n => u.slot b o e n hb (by simp)) (fun b o _ e n => u.free b o e n (by simp)) (fun b o _ e => u.there b o e (by simp)) u.tups u.frzs u.tbls (fun m' hm => by
    obtain ⟨o', es', ep', ho', r'⟩ := hm
    rw [ho] at ho'; cases ho'
    exact ⟨_, es', ep', hL, r'⟩) hok I.bare
theorem Inv.call {g' : Array GenState} {t' : Nat} {d' : Drawn} {ch : List Addr} (I : Inv X pins σ H s) (u : Un (frs X.stack) ch H H' s.heap h') (hok : HOk X.prog X.w H' h') (hg : AllBare g')
    (hch : ∀ b ∈ ch, (b ∈ X.ex ∨ X.s₀.heap.objs.size ≤ b) ∧ b ≠ X.env.locals ∧ (∀ x c, X.env.cells.lookup x = some c → c ≠ b) ∧ ∀ p ∈ X.pn ++ pins, p.1 ≠ b) :
    Inv X pins σ H' { s with heap := h', gens := g', drawn := d', toks := t' } := by
  obtain ⟨m, ⟨o, es, ep, ho, r⟩, _⟩ := id I.loc
  obtain ⟨sl, hL⟩ := u.any ho I.free fun z => (hch _ z).2.1 rfl
  exact I.step (ch := ch) hch (fun b o hL hb hc e n => u.keep b o e n (fun z => (List.mem_cons.mp (I.stkSub b z)).elim hL hb) hc) (fun b o _ _ hc e n => u.any e n hc) (fun b o hc e n => u.free b o e n hc) (fun b o hc e => u.there b o e hc) u.tups u.frzs u.tbls (fun m' hm => by
    obtain ⟨o', es', ep', ho', r'⟩ := hm
    rw [ho] at ho'; cases ho'
    exact ⟨_, es', ep', hL, r'⟩) hok hg
theorem Inv.turned {t' : Nat} {it : Addr} (I : Inv X pins σ H s) (k : ∀ b o, b ≠ it → s.heap.get? b = some o → h'.get? b = some o) (hn : H it = none) (hL : it ≠ X.env.locals)
    (h1 : it ∈ X.ex ∨ X.s₀.heap.objs.size ≤ it) (h2 : ∀ x c, X.env.cells.lookup x = some c → c ≠ it) (h3 : ∀ p ∈ X.pn ++ pins, p.1 ≠ it) : Inv X pins σ H { s with heap := h', toks := t' } := by
  have nit : ∀ b u, H b = some u → b ≠ it := fun b u e z => by rw [z, hn] at e; cases e
  refine I.step (g' := s.gens) (d' := s.drawn) (ch := [it]) (fun b hb => ?_) (fun b o _ _ hc e _ => k b o (fun z => hc (by simp [z])) e) (fun b o _ _ hc e _ => ⟨o.slots, k b o (fun z => hc (by simp [z])) e⟩) (fun _ _ _ _ n => n)
    (fun b o hc e => ⟨o, k b o (fun z => hc (by simp [z])) e⟩) (fun _ _ e => e) (fun _ _ _ e => e) (fun b ps e => ⟨#[], by rw [e]; simp⟩) (fun m hm => ?_) (fun b u e => ?_) I.bare
  · have e : b = it := by simpa using hb
    subst e
    exact ⟨h1, hL, h2, h3⟩
  · obtain ⟨o, es, ep, ho, r⟩ := hm
    exact ⟨o, es, ep, k _ o (Ne.symm hL) ho, r⟩
  · refine (I.hok b u e).stay (fun c v hc q => k c v ?_ q) (fun _ q => q) fun _ _ q => q
    rcases hc with z | z
    · rw [z]; exact nit b u e
    · exact nit c _ z
theorem Inv.tok (I : Inv X pins σ H s) (t : Nat) : Inv X pins σ H { s with toks := t } := I.un (h' := s.heap) (t' := t) Un.refl I.hok
theorem Inv.kept {t' : Nat} (I : Inv X pins σ H s) (k : ∀ b u, s.heap.get? b = some u → h'.get? b = some u) : Inv X pins σ H { s with heap := h', toks := t' } := I.un (Un.kept k) (I.hok.kept k)
theorem Inv.laid {a : Addr} {o : HO} {t' : Nat} (I : Inv X pins σ H s) (k : ∀ b u, s.heap.get? b = some u → h'.get? b = some u) (hp : s.heap.objs.size ≤ a) (new : ObjOk X.prog X.w (upd H a o) h' a o) :
    Inv X pins σ (upd H a o) { s with heap := h', toks := t' } := I.un (Un.laid k hp (I.hok.fresh hp)) (I.hok.laid k hp new)
theorem Inv.write {x e : Addr} {o : HO} {t' : Nat} (I : Inv X pins σ H s) (mu : Mut (H x)) (he : e = x ∨ H e = some (.own x)) (k : ∀ b u, b ≠ e → s.heap.get? b = some u → h'.get? b = some u) (heo : ∃ u, h'.get? e = some u)
    (new : ObjOk X.prog X.w (upd H x o) h' x o) : Inv X pins σ (upd H x o) { s with heap := h', toks := t' } := I.un (Un.write mu he k heo) (I.hok.write mu he k heo new)
theorem Inv.weak {σ' : List (Option V)} (I : Inv X pins σ H s) (hl : σ'.length = σ.length) (w : ∀ (i : Nat) v, σ'[i]? = some (some v) → σ[i]? = some (some v)) : Inv X pins σ' H s :=
  ⟨I.ok, I.os, I.bare, I.base, let ⟨m, hn, hl'⟩ := I.loc; ⟨m, hn, fun i x v e1 e2 e3 => hl' i x v e1 (w i v e2) e3⟩, I.cell, I.free, I.freeC, I.pin, I.hok, hl.trans I.len⟩
theorem Inv.pins_of {pins' : List (Addr × Obj)} (I : Inv X pins σ H s) (h : ∀ p ∈ pins', s.heap.get? p.1 = some p.2 ∧ H p.1 = none ∧ p.1 ≠ X.env.locals ∧ p.1 ∉ X.fs ∧ ∀ v, p.2.data ≠ .cell v) : Inv X pins' σ H s :=
  ⟨I.ok, I.os, I.bare, I.base, I.loc, I.cell, I.free, I.freeC, fun p hp => (List.mem_append.mp hp).elim (fun z => I.pin p (List.mem_append_left _ z)) (h p), I.hok, I.len⟩
theorem nodup_ix {N : List Str} (hN : N.Nodup) {i j : Nat} {x : Str} (a : N[i]? = some x) (b : N[j]? = some x) : i = j := by
  obtain ⟨h1, e1⟩ := List.getElem?_eq_some_iff.mp a
  obtain ⟨h2, e2⟩ := List.getElem?_eq_some_iff.mp b
  exact (List.getElem_inj hN).mp (e1.trans e2.symm)
theorem store_ok2 {M : Model} {A : Around} {E : Value → Shared → Prop} {i : Nat} {x : Str} {v : V} {u : Value} {Q : Unit → Shared → Prop} (I : Inv X pins σ H s) (hN : X.N.Nodup) (hi : X.N[i]? = some x) (hx : Loc X.env.scope x) (r : RelV v u)
    (h : ∀ s', Inv X pins (σ.set i (some v)) H s' → (∃ a, Heap.SameBut a s.heap s'.heap ∧ (a = X.env.locals ∨ X.env.cells.lookup x = some a)) → Q () s') (hf : X.fn x = true ∨ X.env.scope.names.lookup x = some .local := by first | exact .inl rfl | exact .inr rfl | assumption) : wpAny M A (storeName X.env x u) Q E s := by
  obtain ⟨m, hn, hl⟩ := id I.loc
  have hcls : (X.env.scope.kind == .class || (X.env.scope.kind == .module && X.env.locals != X.env.globals)) = false := by rw [I.ok.kind]; rfl
  have hiσ : i < σ.length := by rw [I.len]; exact (List.getElem?_eq_some_iff.mp hi).1
  have cne := I.cne
  have tracked : ∀ {a : Addr} {h' : Heap}, (∃ o, s.heap.get? a = some o ∧ H a = none) → Heap.SameBut a s.heap h' → HOk X.prog X.w H h' := fun {a h'} ha hs b ob e => by
    obtain ⟨_, _, hfree⟩ := ha
    refine (I.hok b ob e).stay (fun c w' hc q => (hs.2 c ?_).trans q) (fun _ q => q) fun _ _ q => q
    rintro rfl
    rcases hc with rfl | hc
    · rw [hfree] at e; cases e
    · rw [hfree] at hc; cases hc
  rcases hx with hk | hk
  · refine wpAny_storeName_local hk hn (fun h' hn' hs => ?_) hcls
    obtain ⟨oL, _, _, hoL, _⟩ := id hn
    refine h _ ⟨I.ok, I.os, I.bare, ⟨fun b o e n hb hx => ?_, fun b o e n hb hx => ?_, I.base.free, fun b o e hx => ?_, I.base.tups, I.base.frzs, I.base.tbls⟩, ⟨_, hn', fun j y v' e1 e2 e3 => ?_⟩, fun y c e => ?_, I.free, I.freeC, fun p hp => ?_, tracked ⟨oL, hoL, I.free⟩ hs, by simpa using I.len⟩ ⟨_, hs, .inl rfl⟩
    · exact (hs.2 b (Nat.ne_of_lt (Nat.lt_of_lt_of_le (Heap.lt_size e) I.ok.above))).trans (I.base.keep b o e n hb hx)
    · obtain ⟨sl, e1⟩ := I.base.slot b o e n hb hx
      exact ⟨sl, (hs.2 b (Nat.ne_of_lt (Nat.lt_of_lt_of_le (Heap.lt_size e) I.ok.above))).trans e1⟩
    · obtain ⟨o', e1⟩ := I.base.there b o e hx
      exact ⟨o', (hs.2 b (Nat.ne_of_lt (Nat.lt_of_lt_of_le (Heap.lt_size e) I.ok.above))).trans e1⟩
    · by_cases hj : j = i
      · subst hj
        rw [hi] at e1; cases e1
        rw [List.getElem?_set_self hiσ] at e2
        cases e2
        exact ⟨u, r, .inl ⟨hk, by simp⟩⟩
      · rw [List.getElem?_set_ne (Ne.symm hj)] at e2
        obtain ⟨u', r', q⟩ := hl j y v' e1 e2 e3
        refine ⟨u', r', ?_⟩
        rcases q with ⟨k, e⟩ | ⟨k, c, e, z⟩
        · refine .inl ⟨k, ?_⟩
          have : y ≠ x := fun e => hj (nodup_ix hN e1 (e ▸ hi))
          simp [this, e]
        · exact .inr ⟨k, c, e, z.sameBut hs (cne y c e)⟩
    · obtain ⟨w', z⟩ := I.cell y c e
      exact ⟨w', z.sameBut hs (cne y c e)⟩
    · obtain ⟨e, n, ne, nf, d⟩ := I.pin p hp
      exact ⟨(hs.2 p.1 ne).trans e, n, ne, nf, d⟩
  · have hfn : X.fn x = true := by
      rcases hf with z | z
      · exact z
      · rw [z] at hk; cases hk
    obtain ⟨c, hc⟩ := I.ok.has x (.inl hk)
    obtain ⟨w', z⟩ := I.cell x c hc
    refine wpAny_storeName_cell I.ok.kind hk hc z (fun h' hc' hs => ?_)
    obtain ⟨oc, hoc, hocd⟩ := id z
    refine h { s with heap := h' } ⟨I.ok, I.os, I.bare, ⟨fun b o e n hb hx => ?_, fun b o e n hb hx => ?_, I.base.free, fun b o e hx => ?_, I.base.tups, I.base.frzs, I.base.tbls⟩, ⟨m, hn.sameBut hs (Ne.symm (cne x c hc)), fun j y v' e1 e2 e3 => ?_⟩, fun y c' e => ?_, I.free, I.freeC, fun p hp => ?_, tracked ⟨oc, hoc, I.freeC x c hc⟩ hs, by simpa using I.len⟩ ⟨c, hs, .inr hc⟩
    · exact (hs.2 b (Nat.ne_of_lt (Nat.lt_of_lt_of_le (Heap.lt_size e) (I.ok.cab x c hfn hc)))).trans (I.base.keep b o e n hb hx)
    · obtain ⟨sl, e1⟩ := I.base.slot b o e n hb hx
      exact ⟨sl, (hs.2 b (Nat.ne_of_lt (Nat.lt_of_lt_of_le (Heap.lt_size e) (I.ok.cab x c hfn hc)))).trans e1⟩
    · obtain ⟨o', e1⟩ := I.base.there b o e hx
      exact ⟨o', (hs.2 b (Nat.ne_of_lt (Nat.lt_of_lt_of_le (Heap.lt_size e) (I.ok.cab x c hfn hc)))).trans e1⟩
    · by_cases hj : j = i
      · subst hj
        rw [hi] at e1; cases e1
        rw [List.getElem?_set_self hiσ] at e2
        cases e2
        exact ⟨u, r, .inr ⟨.inl hk, c, hc, hc'⟩⟩
      · rw [List.getElem?_set_ne (Ne.symm hj)] at e2
        obtain ⟨u', r', q⟩ := hl j y v' e1 e2 e3
        refine ⟨u', r', ?_⟩
        rcases q with q | ⟨k, c', e, z'⟩
        · exact .inl q
        · refine .inr ⟨k, c', e, z'.sameBut hs ?_⟩
          rintro rfl
          exact hj (nodup_ix hN e1 (I.ok.inj _ _ _ e hc ▸ hi))
    · by_cases hcc : c' = c
      · subst hcc; exact ⟨_, hc'⟩
      · obtain ⟨w2, z2⟩ := I.cell y c' e
        exact ⟨w2, z2.sameBut hs hcc⟩
    · obtain ⟨e, n, ne, nf, d⟩ := I.pin p hp
      refine ⟨(hs.2 p.1 ?_).trans e, n, ne, nf, d⟩
      intro q
      rw [q, hoc] at e
      have q' : oc = p.2 := Option.some.inj e
      exact d w' (by rw [← q']; exact hocd)
theorem store_ok {M : Model} {A : Around} {E : Value → Shared → Prop} {i : Nat} {x : Str} {v : V} {u : Value} {Q : Unit → Shared → Prop} (I : Inv X pins σ H s) (hN : X.N.Nodup) (hi : X.N[i]? = some x) (hx : Loc X.env.scope x) (r : RelV v u)
    (h : ∀ s', Inv X pins (σ.set i (some v)) H s' → Q () s') (hf : X.fn x = true ∨ X.env.scope.names.lookup x = some .local := by first | exact .inl rfl | exact .inr rfl | assumption) : wpAny M A (storeName X.env x u) Q E s :=
  store_ok2 I hN hi hx r (fun s' I' _ => h s' I') hf
theorem Inv.call' {s' : Shared} {ch : List Addr} (I : Inv X pins σ H s) (ho : s'.os = s.os) (u : Un (frs X.stack) ch H H' s.heap s'.heap) (hok : HOk X.prog X.w H' s'.heap) (hg : AllBare s'.gens)
    (hch : ∀ b ∈ ch, (b ∈ X.ex ∨ X.s₀.heap.objs.size ≤ b) ∧ b ≠ X.env.locals ∧ (∀ x c, X.env.cells.lookup x = some c → c ≠ b) ∧ ∀ p ∈ X.pn ++ pins, p.1 ≠ b) : Inv X pins σ H' s' := by
  obtain ⟨h', g', d', t', o'⟩ := s'
  have e : o' = s.os := ho
  subst e
  exact I.call (g' := g') (t' := t') (d' := d') u hok hg hch
end
abbrev XK := Value → Option Addr → Hp → Prop
abbrev St := List (Option V)
abbrev VK := V → Hp → Prop
abbrev TE := St → Hp → VK → Prop
abbrev TT := St → Hp → (Bool → Hp → Prop) → Prop
abbrev TA := St → Hp → (List V → Hp → Prop) → Prop
structure Ends where
  nx : St → Hp → Prop
  rt : VK
  bk : St → Hp → Prop := fun _ _ => False
  ct : St → Hp → Prop := fun _ _ => False
abbrev TS := Ends → St → Hp → Prop
def EP (X : Cx) (pins : List (Addr × Obj)) (σ : St) (Q : VK) (u : Value) (s' : Shared) : Prop := ∃ v H', Inv X pins σ H' s' ∧ RelV v u ∧ Q v H'
def TP (X : Cx) (pins : List (Addr × Obj)) (σ : St) (Q : Bool → Hp → Prop) (b : Bool) (s' : Shared) : Prop := ∃ H', Inv X pins σ H' s' ∧ Q b H'
def AP (X : Cx) (pins : List (Addr × Obj)) (σ : St) (Q : List V → Hp → Prop) (us : List Value) (s' : Shared) : Prop := ∃ vs H', Inv X pins σ H' s' ∧ Vals vs us ∧ Q vs H'
def SP (X : Cx) (pins : List (Addr × Obj)) (D : Ends) (f : Flow) (s' : Shared) : Prop :=
  match f with
  | .next => ∃ σ' H', Inv X pins σ' H' s' ∧ D.nx σ' H'
  | .brk => ∃ σ' H', Inv X pins σ' H' s' ∧ D.bk σ' H'
  | .cont => ∃ σ' H', Inv X pins σ' H' s' ∧ D.ct σ' H'
  | .ret u => ∃ v σ' H', Inv X pins σ' H' s' ∧ RelV v u ∧ D.rt v H'
def PE (X : Cx) (e : Expr) (t : TE) : Prop :=
  ∀ (pins : List (Addr × Obj)) (s : Shared) (σ : St) (H : Hp) (Q : VK), Inv X pins σ H s → t σ H Q → wpAny (model X.prog X.w) X.A (eval e X.env) (EP X pins σ Q) X.xe s
def PT (X : Cx) (e : Expr) (t : TT) : Prop :=
  ∀ (pins : List (Addr × Obj)) (s : Shared) (σ : St) (H : Hp) (Q : Bool → Hp → Prop), Inv X pins σ H s → t σ H Q → wpAny (model X.prog X.w) X.A (isTrue e X.env (eval e X.env)) (TP X pins σ Q) X.xe s
def PW (X : Cx) (e : Expr) (t : TT) : Prop :=
  ∀ (whole : Sem Value) (pins : List (Addr × Obj)) (s : Shared) (σ : St) (H : Hp) (Q : Bool → Hp → Prop), Inv X pins σ H s → t σ H Q → wpAny (model X.prog X.w) X.A (isTrue e X.env whole) (TP X pins σ Q) X.xe s
theorem PW.pt {X : Cx} {e : Expr} {t : TT} (h : PW X e t) : PT X e t := h _
def PA (X : Cx) (es : List Expr) (t : TA) : Prop :=
  ∀ (pos : Pos) (pins : List (Addr × Obj)) (s : Shared) (σ : St) (H : Hp) (Q : List V → Hp → Prop), Inv X pins σ H s → t σ H Q → wpAny (model X.prog X.w) X.A (spliced (backTo pos (starEach es X.env))) (AP X pins σ Q) X.xe s
def PS (X : Cx) (st : Stmt) (t : TS) : Prop :=
  ∀ (pins : List (Addr × Obj)) (s : Shared) (σ : St) (H : Hp) (D : Ends), Inv X pins σ H s → t D σ H → wpAny (model X.prog X.w) X.A (exec st X.env) (SP X pins D) X.xe s
def PSs (X : Cx) (st : List Stmt) (t : TS) : Prop :=
  ∀ (pins : List (Addr × Obj)) (s : Shared) (σ : St) (H : Hp) (D : Ends), Inv X pins σ H s → t D σ H → wpAny (model X.prog X.w) X.A (execs st X.env) (SP X pins D) X.xe s
theorem thn {α : Type} {t : Sem α} {Q Q' : α → Shared → Prop} {M : Model} {A : Around} {E : Value → Shared → Prop} {s : Shared} (h : wpAny M A t Q E s) (hQ : ∀ a s, Q a s → Q' a s) : wpAny M A t Q' E s := wpAny_mono h hQ fun _ _ x => x
end L2
namespace L2
open PySem PySem.Spec PyProof.Rows
section
variable {X : Cx}
theorem bin {a b : Expr} {ta tb : TE} (ha : PE X a ta) (hb : PE X b tb) {pins : List (Addr × Obj)} {s : Shared} {σ : St} {H : Hp} {R : V → V → Hp → Prop} (I : Inv X pins σ H s) (h : ta σ H fun x H1 => tb σ H1 fun y H2 => R x y H2)
    {α : Type} {Q : α → Shared → Prop} {f : Value → Value → Sem α}
    (hf : ∀ v u s2 x y H2, Inv X pins σ H2 s2 → RelV x v → RelV y u → R x y H2 → wpAny (model X.prog X.w) X.A (f v u) Q X.xe s2) :
    wpAny (model X.prog X.w) X.A (eval a X.env) (fun v s₁ => wpAny (model X.prog X.w) X.A (eval b X.env) (fun u s₂ => wpAny (model X.prog X.w) X.A (f v u) Q X.xe s₂) X.xe s₁) X.xe s := by
  refine thn (ha pins s σ H _ I h) fun v s1 ⟨x, H1, I1, r1, q1⟩ => ?_
  refine thn (hb pins s1 σ H1 _ I1 q1) fun u s2 ⟨y, H2, I2, r2, q2⟩ => ?_
  exact hf v u s2 x y H2 I2 r1 r2 q2
def tVar (i : Nat) : TE := fun σ H Q => ∃ v, σ[i]? = some (some v) ∧ Q v H
def tC (v : V) : TE := fun _ H Q => Q v H
theorem pe_var {i : Nat} {x : Str} {pos : Pos} (hN : X.N[i]? = some x) (hv : Vis X.env.scope x) (hd : (x == ("__debug__" : Str)) = false := by decide) (hcd : (x == ("__classdict__" : Str)) = false := by decide) : PE X (.Name x pos) (tVar i) := by
  intro pins s σ H Q I h
  obtain ⟨v, e, h⟩ := h
  obtain ⟨m, hn, hl⟩ := I.loc
  obtain ⟨u, r, l⟩ := hl i x v hN e hv
  have fin : EP X pins σ Q u s := ⟨v, H, I, r, h⟩
  rcases l with ⟨hk, hm⟩ | ⟨hk, c, hc, hcell⟩
  · exact wpAny_Name (wpAny_loadName_local I.ok.kind hk hn hm fin) hd
  · rcases hk with hk | hk
    · exact wpAny_Name (wpAny_loadName_cell I.ok.kind hk hc hcell fin) hd
    · exact wpAny_Name (wpAny_loadName_free I.ok.kind hk hc hcell fin hcd) hd
theorem pe_int {i j pos} : PE X (.Constant (.int i) j pos) (tC (.int i)) := fun _ _ _ H _ I h => wpAny_Constant_int ⟨.int i, H, I.tok _, ⟨_, rfl⟩, h⟩
theorem pe_bl {b j pos} : PE X (.Constant (.bool b) j pos) (tC (.bl b)) := fun _ _ _ H _ I h => Constant_bool ⟨.bl b, H, I, rfl, h⟩
theorem pe_non {j pos} : PE X (.Constant .none j pos) (tC .non) := fun _ _ _ H _ I h => Constant_none ⟨.non, H, I, rfl, h⟩
theorem pe_str {x j pos} : PE X (.Constant (.str x) j pos) (tC (.str x)) := fun _ _ _ H _ I h => Calls.Constant_str ⟨.str x, H, I.tok _, ⟨_, rfl⟩, h⟩
def Gl (X : Cx) (x : Str) : Prop := X.env.kindOf x = some .globalImplicit
theorem ld_glob {E : Value → Shared → Prop} {pins : List (Addr × Obj)} {s : Shared} {σ : St} {H : Hp} {x : Str} {u : Value} {pos : Pos} {Q : Value → Shared → Prop} (I : Inv X pins σ H s) (hg : Gl X x) (hm : X.mg x = some u) (h : Q u s)
    (hd : (x == ("__debug__" : Str)) = false := by decide) : wpAny (model X.prog X.w) X.A (eval (.Name x pos) X.env) Q E s :=
  Calls.Name_function_global I.ok.kind hg (Calls.loadGlobal_global (by rw [I.ok.glob]; exact I.mod.glob.keeps I.bk) hm h) hd
theorem ld_blt {E : Value → Shared → Prop} {pins : List (Addr × Obj)} {s : Shared} {σ : St} {H : Hp} {x : Str} {u : Value} {pos : Pos} {Q : Value → Shared → Prop} (I : Inv X pins σ H s) (hg : Gl X x) (hm : X.mg x = none) (hv : bootBuiltins x = some u) (h : Q u s)
    (hn : x ≠ "__name__" := by decide) (hd : (x == ("__debug__" : Str)) = false := by decide) : wpAny (model X.prog X.w) X.A (eval (.Name x pos) X.env) Q E s := by
  obtain ⟨mb, h1, h2⟩ := I.mod.blt
  exact Calls.Name_function_global I.ok.kind hg (Calls.loadGlobal_builtin (by rw [I.ok.glob]; exact I.mod.glob.keeps I.bk) hm (by rw [I.ok.blt]; exact h1.keeps I.bk) ((h2 x hn).trans hv) h) hd
theorem pe_bltn {x : Str} {v : V} {u : Value} {pos : Pos} (hg : Gl X x) (hm : X.mg x = none) (hv : bootBuiltins x = some u) (r : RelV v u) (hn : x ≠ "__name__" := by decide) (hd : (x == ("__debug__" : Str)) = false := by decide) : PE X (.Name x pos) (tC v) :=
  fun _ _ _ H _ I h => ld_blt I hg hm hv ⟨v, H, I, r, h⟩ hn hd
variable {a b : Expr} {ta tb : TE} {pos : Pos}
def PC (X : Cx) (op : CmpOp) (a b : Expr) (t : TE) : Prop :=
  ∀ (pins : List (Addr × Obj)) (s : Shared) (σ : St) (H : Hp) (Q : VK), Inv X pins σ H s → t σ H Q →
    wpAny (model X.prog X.w) X.A (eval a X.env) (fun v s₁ => wpAny (model X.prog X.w) X.A (eval b X.env) (fun u s₂ => wpAny (model X.prog X.w) X.A (compareOp op v u) (EP X pins σ Q) X.xe s₂) X.xe s₁) X.xe s
def tB (t : TE) : TT := fun σ H Q => t σ H fun x H1 => ∃ c, x = .bl c ∧ Q c H1
theorem pt_cmp {op : CmpOp} {t : TE} (h : PC X op a b t) (h1 : behindInMarks op b = false := by first | exact nobehind _ (by decide) (by decide) | rfl) : PT X (.Compare a [op] [b] pos) (tB t) := by
  intro pins s σ H Q I hw
  refine wpAny_isTrue_Compare1 (thn (h pins s σ H _ I hw) fun v s1 h1 => thn h1 fun u s2 h2 => thn h2 fun c s3 ⟨x, H1, I1, r1, q1⟩ => ?_) h1
  obtain ⟨d, rfl, q⟩ := q1
  cases r1
  exact wpAny_truthy_bool ⟨H1, I1, q⟩
theorem pt_val {e : Expr} {t : TE} (h : PE X e t) (he : ∀ whole, isTrue e X.env whole = (do let v ← whole; standAt e.pos; holding [v] (truthy v)) := by intro _; rfl) : PT X e (tB t) := by
  intro pins s σ H Q I hw
  refine isTrue_plain (thn (h pins s σ H _ I hw) fun v s1 ⟨x, H1, I1, r1, q1⟩ => ?_) (he _)
  obtain ⟨d, rfl, q⟩ := q1
  cases r1
  exact wpAny_truthy_bool ⟨H1, I1, q⟩
variable {tA tB' : TT} {rest : List Expr}
def tAnd (t u : TT) : TT := fun σ H Q => t σ H fun c H1 => if c = true then u σ H1 Q else Q false H1
def tOr (t u : TT) : TT := fun σ H Q => t σ H fun c H1 => if c = true then Q true H1 else u σ H1 Q
def tNot (t : TT) : TT := fun σ H Q => t σ H fun c H1 => Q (!c) H1
theorem pw_and1 (ha : PT X a tA) : PW X (.BoolOp .And [a] pos) tA := by
  intro wh pins s σ H Q I h
  refine isTrue_and (thn (ha pins s σ H Q I h) fun c s1 e => ?_)
  cases c with
  | true => exact isTrue_and_nil e
  | false => exact e
theorem pw_or1 (ha : PT X a tA) : PW X (.BoolOp .Or [a] pos) tA := by
  intro wh pins s σ H Q I h
  refine isTrue_or (thn (ha pins s σ H Q I h) fun c s1 e => ?_)
  cases c with
  | false => exact isTrue_or_nil e
  | true => exact e
theorem pw_and (ha : PT X a tA) (hb : PW X (.BoolOp .And (b :: rest) pos) tB') : PW X (.BoolOp .And (a :: b :: rest) pos) (tAnd tA tB') := by
  intro wh pins s σ H Q I h
  refine isTrue_and (thn (ha pins s σ H _ I h) fun c s1 ⟨H1, I1, q1⟩ => ?_)
  cases c with
  | true => exact hb wh pins s1 σ H1 Q I1 q1
  | false => exact ⟨H1, I1, q1⟩
theorem pw_or (ha : PT X a tA) (hb : PW X (.BoolOp .Or (b :: rest) pos) tB') : PW X (.BoolOp .Or (a :: b :: rest) pos) (tOr tA tB') := by
  intro wh pins s σ H Q I h
  refine isTrue_or (thn (ha pins s σ H _ I h) fun c s1 ⟨H1, I1, q1⟩ => ?_)
  cases c with
  | true => exact ⟨H1, I1, q1⟩
  | false => exact hb wh pins s1 σ H1 Q I1 q1
theorem pt_not (ha : PT X a tA) : PT X (.UnaryOp .Not a pos) (tNot tA) := by
  intro pins s σ H Q I h
  exact isTrue_not (ha pins s σ H (fun c H1 => Q (!c) H1) I h)
def tAndV (ta tb : TE) : TE := fun σ H Q => ta σ H fun x H1 => ∃ c, x = .bl c ∧ if c = true then tb σ H1 Q else Q (.bl false) H1
def tNotV (ta : TE) : TE := fun σ H Q => ta σ H fun x H1 => ∃ c, x = .bl c ∧ Q (.bl (!c)) H1
theorem pe_one {op} {t : TE} (h : PE X a t) : PE X (.BoolOp op [a] pos) t := fun pins s σ H Q I hw => BoolOp_one (h pins s σ H Q I hw)
theorem pe_and (ha : PE X a ta) (hb : PE X (.BoolOp .And (b :: rest) pos) tb) : PE X (.BoolOp .And (a :: b :: rest) pos) (tAndV ta tb) := by
  intro pins s σ H Q I h
  refine BoolOp_and (thn (ha pins s σ H _ I h) fun v s1 ⟨x, H1, I1, r1, q1⟩ => ?_)
  obtain ⟨c, rfl, q1⟩ := q1
  cases r1
  refine wpAny_truthy_bool ?_
  cases c with
  | true => exact hb pins s1 σ H1 Q I1 q1
  | false => exact ⟨.bl false, H1, I1, rfl, q1⟩
theorem pe_not (ha : PE X a ta) : PE X (.UnaryOp .Not a pos) (tNotV ta) := by
  intro pins s σ H Q I h
  refine UnaryOp_ (thn (ha pins s σ H _ I h) fun v s1 ⟨x, H1, I1, r1, q1⟩ => ?_)
  obtain ⟨c, rfl, q1⟩ := q1
  cases r1
  exact not_of (wpAny_truthy_bool ⟨.bl (!c), H1, I1, rfl, q1⟩)
end
end L2
namespace L2
open PySem PySem.Spec PyProof.Rows
def SqL (K : W.Frag) (H : Hp) (a : Addr) (xs : List V) : Prop :=
  Rd H a (.lst xs) ∨
    ∃ (o : Obj) (its : Array Value) (n : Nat), K.lookup a = some o ∧ o.cls = .type "list" ∧ o.dict = none ∧ o.data = .seq its n ∧ its.size ≤ sizeLine ∧ Vals xs its.toList
def SqT (K : W.Frag) (H : Hp) (a : Addr) (xs : List V) : Prop :=
  Rd H a (.tup xs) ∨
    ∃ (o : Obj) (its : Array Value) (n : Nat), K.lookup a = some o ∧ o.cls = .type "tuple" ∧ o.data = .seq its n ∧ its.size ≤ sizeLine ∧ Vals xs its.toList
def absV : Value → Option V
  | .none => some .non
  | .bool b => some (.bl b)
  | .int i _ => some (.int i)
  | .str x _ => some (.str x)
  | .bytes b _ => some (.byt b)
  | .float b _ => some (.flt b)
  | .ref a => some (.ref a)
  | .type n => some (.ty n)
  | _ => none
theorem RelV.abs {x : V} {u : Value} (r : RelV x u) : absV u = some x := by
  cases x with
  | non => cases r; rfl
  | bl _ => cases r; rfl
  | int _ => obtain ⟨t, rfl⟩ := r; rfl
  | str _ => obtain ⟨t, rfl⟩ := r; rfl
  | byt _ => obtain ⟨t, rfl⟩ := r; rfl
  | flt _ => obtain ⟨t, rfl⟩ := r; rfl
  | ref _ => cases r; rfl
  | ty _ => cases r; rfl
theorem RelV.inj {x y : V} {u : Value} (r : RelV x u) (q : RelV y u) : x = y := Option.some.inj (r.abs.symm.trans q.abs)
theorem Vals.inj : ∀ {xs ys : List V} {us : List Value}, Vals xs us → Vals ys us → xs = ys
  | _, _, _, .nil, .nil => rfl
  | _, _, _, .cons r t, .cons r' t' => by rw [r.inj r', Vals.inj t t']
section
variable {X : Cx} {pins : List (Addr × Obj)} {σ : St} {H : Hp} {s : Shared} {a : Addr} {xs ys : List V}
theorem SqL.of {K : W.Frag} (h : H a = some (.lst xs)) : SqL K H a xs := .inl (.inl h)
theorem SqT.of {K : W.Frag} (h : H a = some (.tup xs)) : SqT K H a xs := .inl (.inl h)
theorem Inv.list (I : Inv X pins σ H s) (h : SqL X.K H a xs) : ∃ its : List Value, Vals xs its ∧ PlainL s.heap a its.toArray ∧ xs.length ≤ sizeLine := by
  rcases h with h | ⟨o, its, n, hk, hc, hd, hs, hz, r⟩
  · obtain ⟨z, its, n, r, e⟩ := h.ok I.hok
    exact ⟨its, r, ⟨_, n, e, rfl, rfl, rfl⟩, z⟩
  · refine ⟨its.toList, r, ⟨o, n, I.kIn a o hk, hc, hd, by simpa using hs⟩, ?_⟩
    have e := r.length
    simp only [Array.length_toList] at e
    omega
theorem Inv.tuple (I : Inv X pins σ H s) (h : SqT X.K H a xs) : ∃ its : List Value, Vals xs its ∧ IsTup s.heap a its.toArray ∧ xs.length ≤ sizeLine := by
  rcases h with h | ⟨o, its, n, hk, hc, hs, hz, r⟩
  · obtain ⟨z, its, r, p⟩ := h.ok I.hok
    exact ⟨its, r, p, z⟩
  · refine ⟨its.toList, r, ⟨o, I.kIn a o hk, hc, n, by simpa using hs⟩, ?_⟩
    have e := r.length
    simp only [Array.length_toList] at e
    omega
theorem Inv.list_inj (I : Inv X pins σ H s) (h : SqL X.K H a xs) (h' : SqL X.K H a ys) : xs = ys := by
  obtain ⟨its, r, ⟨o, n, e, _, _, d⟩, _⟩ := I.list h
  obtain ⟨its', r', ⟨o', n', e', _, _, d'⟩, _⟩ := I.list h'
  rw [e] at e'; cases e'
  rw [d] at d'
  injection d' with d1 _
  have : its = its' := by simpa using congrArg Array.toList d1
  subst this
  exact r.inj r'
theorem Inv.tuple_inj (I : Inv X pins σ H s) (h : SqT X.K H a xs) (h' : SqT X.K H a ys) : xs = ys := by
  obtain ⟨its, r, ⟨o, e, _, n, d⟩, _⟩ := I.tuple h
  obtain ⟨its', r', ⟨o', e', _, n', d'⟩, _⟩ := I.tuple h'
  rw [e] at e'; cases e'
  rw [d] at d'
  injection d' with d1 _
  have : its = its' := by simpa using congrArg Array.toList d1
  subst this
  exact r.inj r'
end
abbrev Cx.wish (X : Cx) (E : Value → Shared → Prop) : Cx := { X with xe := E }
abbrev Cx.nox (X : Cx) : Cx := X.wish fun _ _ => False
theorem Cx.Ok.wish {X : Cx} (ok : X.Ok) (E : Value → Shared → Prop) : (X.wish E).Ok :=
  ⟨ok.mod, ok.kind, ok.glob, ok.blt, ok.above, ok.inj, ok.has, ok.cab, ok.hd, ok.frames, ok.stk, ok.exf, ok.bs, ok.bsz, ok.noex, ok.exfs, ok.funs, ok.frf⟩
theorem Cx.Ok.unwish {X : Cx} {E : Value → Shared → Prop} (ok : (X.wish E).Ok) : X.Ok :=
  ⟨ok.mod, ok.kind, ok.glob, ok.blt, ok.above, ok.inj, ok.has, ok.cab, ok.hd, ok.frames, ok.stk, ok.exf, ok.bs, ok.bsz, ok.noex, ok.exfs, ok.funs, ok.frf⟩
section
variable {X : Cx} {pins : List (Addr × Obj)} {σ : St} {H : Hp} {s : Shared} {E : Value → Shared → Prop}
theorem Inv.wish (I : Inv X pins σ H s) (E : Value → Shared → Prop) : Inv (X.wish E) pins σ H s := ⟨I.ok.wish E, I.os, I.bare, I.base, I.loc, I.cell, I.free, I.freeC, I.pin, I.hok, I.len⟩
theorem Inv.unwish (I : Inv (X.wish E) pins σ H s) : Inv X pins σ H s := ⟨I.ok.unwish, I.os, I.bare, I.base, I.loc, I.cell, I.free, I.freeC, I.pin, I.hok, I.len⟩
theorem SP.unwish {D : Ends} {f : Flow} {s' : Shared} (h : SP (X.wish E) pins D f s') : SP X pins D f s' := by
  cases f with
  | next => obtain ⟨σ', H', I, q⟩ := h; exact ⟨σ', H', I.unwish, q⟩
  | brk => obtain ⟨σ', H', I, q⟩ := h; exact ⟨σ', H', I.unwish, q⟩
  | cont => obtain ⟨σ', H', I, q⟩ := h; exact ⟨σ', H', I.unwish, q⟩
  | ret u => obtain ⟨v, σ', H', I, r, q⟩ := h; exact ⟨v, σ', H', I.unwish, r, q⟩
theorem PSs.nox {st : List Stmt} {t : TS} (h : PSs X.nox st t) : PSs X st t := fun pins s σ H D I hw =>
  wpAny_mono (h pins s σ H D (I.wish _) hw) (fun _ _ q => q.unwish) fun _ _ z => False.elim z
end
section
variable {X : Cx} {st : Stmt} {rest : List Stmt} {t u : TS} {e : Expr} {te : TE} {pos : Pos}
def tNext : TS := fun D σ H => D.nx σ H
def tSeq (t u : TS) : TS := fun D σ H => t { D with nx := u D } σ H
theorem pss_nil : PSs X [] tNext := fun _ _ σ H _ I h => wpAny_execs_nil ⟨σ, H, I, h⟩
theorem pss_cons (h1 : PS X st t) (h2 : PSs X rest u) : PSs X (st :: rest) (tSeq t u) := by
  intro pins s σ H D I h
  refine wpAny_execs_cons (thn (h1 pins s σ H { D with nx := u D } I h) fun f s1 q => ?_)
  cases f with
  | next =>
    obtain ⟨σ', H', I', q⟩ := q
    exact h2 pins s1 σ' H' D I' q
  | ret v => exact q
  | brk => exact q
  | cont => exact q
theorem pss_one (h1 : PS X st t) : PSs X [st] t := by
  intro pins s σ H D I h
  refine wpAny_execs_cons (thn (h1 pins s σ H D I h) fun f s1 q => ?_)
  cases f with
  | next => exact wpAny_execs_nil q
  | ret v => exact q
  | brk => exact q
  | cont => exact q
theorem Inv.quiet {pins : List (Addr × Obj)} {σ : St} {H : Hp} {s : Shared} (I : Inv X pins σ H s) : interactive X.env = false := by simp [interactive, I.ok.kind]
def tDrop (te : TE) : TS := fun D σ H => te σ H fun _ H1 => D.nx σ H1
theorem ps_expr (he : PE X e te) (hs : swapsWith e none pos.line X.env = pure false := by rfl) : PS X (.Expr e pos) (tDrop te) := by
  intro pins s σ H D I h
  exact wpAny_Expr_any (thn (he pins s σ H _ I h) fun v s1 ⟨x, H1, I1, r1, q1⟩ => ⟨σ, H1, I1, q1⟩) I.quiet hs
def tRet (te : TE) : TS := fun D σ H => te σ H D.rt
theorem ps_ret (he : PE X e te) : PS X (.Return (some e) pos) (tRet te) := by
  intro pins s σ H D I h
  exact wpAny_Return_some (thn (he pins s σ H _ I h) fun v s1 ⟨x, H1, I1, r1, q1⟩ => ⟨x, σ, H1, I1, r1, q1⟩)
def tIfS (c : TT) (t u : TS) : TS := fun D σ H => c σ H fun b H1 => if b = true then t D σ H1 else u D σ H1
theorem ps_if {c : Expr} {a b : List Stmt} {tc : TT} (hc : PT X c tc) (ha : PSs X a t) (hb : PSs X b u) : PS X (.If c a b pos) (tIfS tc t u) := by
  intro pins s σ H D I h
  refine wpAny_If (thn (hc pins s σ H _ I h) fun d s1 ⟨H1, I1, q1⟩ => ?_)
  cases d with
  | true => exact ha pins s1 σ H1 D I1 q1
  | false => exact hb pins s1 σ H1 D I1 q1
end
abbrev TG := V → St → Hp → (St → Hp → Prop) → Prop
abbrev TGs := List V → St → Hp → (St → Hp → Prop) → Prop
def PG (X : Cx) (target : Expr) (t : TG) : Prop :=
  ∀ (pins : List (Addr × Obj)) (s : Shared) (σ : St) (H : Hp) (v : V) (u : Value) (Q : St → Hp → Prop), Inv X pins σ H s → RelV v u → t v σ H Q →
    wpAny (model X.prog X.w) X.A (assign target X.env u) (fun _ s' => ∃ σ' H', Inv X pins σ' H' s' ∧ Q σ' H') X.xe s
def PGs (X : Cx) (ts : List Expr) (t : TGs) : Prop :=
  ∀ (pins : List (Addr × Obj)) (s : Shared) (σ : St) (H : Hp) (vs : List V) (us : List Value) (Q : St → Hp → Prop), Inv X pins σ H s → Vals vs us → t vs σ H Q →
    wpAny (model X.prog X.w) X.A (assignInOrder ((assignEach ts X.env).map (·.2)) us) (fun _ s' => ∃ σ' H', Inv X pins σ' H' s' ∧ Q σ' H') X.xe s
abbrev TSet := V → V → V → Hp → (Hp → Prop) → Prop
def PSet (X : Cx) (t : TSet) : Prop :=
  ∀ (pins : List (Addr × Obj)) (s : Shared) (σ : St) (H : Hp) (o i v : V) (ov iv u : Value) (Q : Hp → Prop), Inv X pins σ H s → RelV o ov → RelV i iv → RelV v u → t o i v H Q →
    wpAny (model X.prog X.w) X.A (setItem ov iv u) (fun _ s' => ∃ H', Inv X pins σ H' s' ∧ Q H') X.xe s
section
variable {X : Cx} {pos : Pos}
def gName (i : Nat) : TG := fun v σ H Q => Q (σ.set i (some v)) H
theorem pg_name {i : Nat} {x : Str} (hN : X.N.Nodup) (hi : X.N[i]? = some x) (hx : Loc X.env.scope x) (hf : X.fn x = true ∨ X.env.scope.names.lookup x = some .local := by first | exact .inl rfl | exact .inr rfl | assumption) : PG X (.Name x pos) (gName i) := by
  intro pins s σ H v u Q I r h
  exact wpAny_assign_Name (store_ok I hN hi hx r (fun s' I' => ⟨_, H, I', h⟩) hf)
def gNil : TGs := fun vs σ H Q => vs = [] ∧ Q σ H
def gCons (t : TG) (u : TGs) : TGs := fun vs σ H Q => ∃ v r, vs = v :: r ∧ t v σ H fun σ' H' => u r σ' H' Q
theorem pgs_nil : PGs X [] gNil := by
  intro pins s σ H vs us Q I r h
  obtain ⟨e, h⟩ := h
  subst e
  cases r
  exact assignInOrder_nil ⟨σ, H, I, h⟩
theorem pgs_cons {e : Expr} {es : List Expr} {t : TG} {u : TGs} (h1 : PG X e t) (h2 : PGs X es u)
    (hs : (assignEach (e :: es) X.env).map (·.2) = assign e X.env :: (assignEach es X.env).map (·.2) := by rfl) : PGs X (e :: es) (gCons t u) := by
  intro pins s σ H vs us Q I r h
  obtain ⟨v, vr, e1, h⟩ := h
  subst e1
  cases r with
  | cons r rr =>
    rw [hs]
    refine assignInOrder_cons (thn (h1 pins s σ H _ _ _ I r h) fun _ s1 ⟨σ1, H1, I1, q1⟩ => ?_)
    exact h2 pins s1 σ1 H1 _ _ Q I1 rr q1
def gTup (K : W.Frag) (n : Nat) (t : TGs) : TG := fun v σ H Q => ∃ a xs, v = .ref a ∧ SqT K H a xs ∧ xs.length = n ∧ t xs σ H Q
theorem pg_tup {es : List Expr} {k : Nat} {t : TGs} {n : Nat} (hc : X.calm = true) (h : PGs X es t)
    (hn : (assignEach es X.env).length = n := by rfl) (hst : (assignEach es X.env).findIdx? (·.1) = none := by rfl) : PG X (.Tuple es k pos) (gTup X.K n t) := by
  intro pins s σ H v u Q I r hw
  obtain ⟨a, xs, e1, hq, hl, hw⟩ := hw
  subst e1
  cases r
  obtain ⟨its, rv, ht, hz⟩ := I.tuple hq
  refine assign_Tuple_tuple (I.ok.hd hc) ht (by simp [hn, ← hl, rv.length]) hst fun h' hx => ?_
  have I1 : Inv X pins σ H { s with heap := h' } := I.kept (t' := s.toks) fun b o e => hx b o (Nat.ne_of_lt (Heap.lt_size e)) e
  exact h pins _ σ H xs _ Q I1 (by simpa using rv) hw
def gSub (to ti : TE) (t : TSet) : TG := fun v σ H Q => to σ H fun o H1 => ti σ H1 fun i H2 => t o i v H2 fun H3 => Q σ H3
theorem pg_sub {o i : Expr} {to ti : TE} {t : TSet} (ho : PE X o to) (hi : PE X i ti) (hs : PSet X t)
    (ha : ∀ v, assign (.Subscript o i pos) X.env v = (do
      let ov ← holding [v] (eval o X.env)
      let iv ← holding [v, ov] (eval i X.env)
      standAt pos
      holding [v, ov, iv] (setItem ov iv v)
      release [v, ov, iv] []) := by intro _; rfl) : PG X (.Subscript o i pos) (gSub to ti t) := by
  intro pins s σ H v u Q I r h
  rw [ha]
  refine wpAny_bind (wpAny_holding (thn (ho pins s σ H _ I h) fun ov s1 ⟨x, H1, I1, r1, q1⟩ => ?_))
  refine wpAny_bind (wpAny_holding (thn (hi pins s1 σ H1 _ I1 q1) fun iv s2 ⟨y, H2, I2, r2, q2⟩ => ?_))
  refine wpAny_bind (wpAny_standAt (wpAny_bind (wpAny_holding (thn (hs pins s2 σ H2 x y v ov iv u _ I2 r1 r2 r q2) fun _ s3 ⟨H3, I3, q3⟩ => ?_))))
  exact wpAny_release ⟨σ, H3, I3, q3⟩
def tAsg (te : TE) (g : TG) : TS := fun D σ H => te σ H fun x H1 => g x σ H1 D.nx
theorem ps_asg {tg e : Expr} {te : TE} {g : TG} (he : PE X e te) (hg : PG X tg g) (hs : swapsWithSole [tg] e pos.line X.env = pure false := by rfl) (hw : swappedStores [tg] e X.env = pure none := by rfl)
    (h1 : (assignEach [tg] X.env).map (·.2) = [assign tg X.env] := by rfl) : PS X (.Assign [tg] e pos) (tAsg te g) := by
  intro pins s σ H D I h
  refine wpAny_Assign_stores (thn (he pins s σ H _ I h) fun v s1 ⟨x, H1, I1, r1, q1⟩ => ?_) hs hw
  rw [h1]
  exact thn (hg pins s1 σ H1 x v _ I1 r1 q1) fun _ s2 q => q
theorem ps_set {i : Nat} {x : Str} {e : Expr} {te : TE} {pos' : Pos} (hN : X.N.Nodup) (hi : X.N[i]? = some x) (hx : Loc X.env.scope x) (he : PE X e te) (hs : swapsWith e (some (.Name x pos')) pos.line X.env = pure false := by rfl) (hf : X.fn x = true ∨ X.env.scope.names.lookup x = some .local := by first | exact .inl rfl | exact .inr rfl | assumption) :
    PS X (.Assign [.Name x pos'] e pos) (tAsg te (gName i)) := by
  intro pins s σ H D I h
  refine wpAny_Assign_Name (thn (he pins s σ H _ I h) fun v s1 ⟨y, H1, I1, r1, q1⟩ => ?_) hs
  exact store_ok I1 hN hi hx r1 (fun s2 I2 => ⟨_, H1, I2, q1⟩) hf
end
section
variable {X : Cx} {pos : Pos}
end
structure It where
  go : Nat → Hp → Prop
  yld : Nat → Hp → V → Hp → Prop
  stop : Nat → Hp → Prop
def FpOk (X : Cx) (pins : List (Addr × Obj)) (H : Hp) (b : Addr) : Prop :=
  H b = none ∧ b ≠ X.env.locals ∧ b ∉ X.fs ∧ (b ∈ X.ex ∨ X.s₀.heap.objs.size ≤ b) ∧ (∀ x c, X.env.cells.lookup x = some c → c ≠ b) ∧ ∀ p ∈ X.pn ++ pins, p.1 ≠ b
theorem Inv.fpOk {X : Cx} {pins : List (Addr × Obj)} {σ : St} {H H' : Hp} {s : Shared} {b : Addr} (I : Inv X pins σ H s) (hb : s.heap.objs.size ≤ b) (hn : H' b = none) : FpOk X pins H' b := by
  refine ⟨hn, Nat.ne_of_gt (Nat.lt_of_lt_of_le I.lt hb), I.nofs hb, .inr (Nat.le_trans I.sz hb), fun x c e z => ?_, fun p hp z => ?_⟩
  · obtain ⟨v, q⟩ := I.cell x c e
    exact absurd (Nat.lt_of_lt_of_le q.lt (by rw [z]; exact hb)) (Nat.lt_irrefl _)
  · exact absurd (Nat.lt_of_lt_of_le (Heap.lt_size (I.pin p hp).1) (by rw [z]; exact hb)) (Nat.lt_irrefl _)
structure Turn (P : Program) (w : World) (K : W.Frag) (tg : Expr) (J : It) (fp : List Addr) (it : Addr) (tn : Nat → Heap → Prop) : Prop where
  mem : it ∈ fp
  obj : ∀ i h, tn i h → ∀ b ∈ fp, ∃ o, h.get? b = some o ∧ ∀ v, o.data ≠ .cell v
  keep : ∀ i h h', tn i h → (∀ b ∈ fp, ∀ o, h.get? b = some o → h'.get? b = some o) → tn i h'
  item : ∀ (X : Cx), X.prog = P → X.w = w → X.K = K → X.calm = true → ∀ (i : Nat) (pins : List (Addr × Obj)) (s : Shared) (σ : St) (H : Hp) (E : Value → Shared → Prop), Inv X pins σ H s → (∀ b ∈ fp, FpOk X pins H b) → tn i s.heap → J.go i H →
    wpAny (model P w) X.A (pyNext (.ref it)) (fun r s1 => ∃ u, r = some u ∧
      wpAny (model P w) X.A (letOwnedTupleGo tg (.ref it) u) (fun _ s2 => ∃ x H', Inv X pins σ H' s2 ∧ RelV x u ∧ J.yld i H x H' ∧ tn (i + 1) s2.heap ∧ ∀ b ∈ fp, H' b = none) E s1) E s
  done : ∀ (X : Cx), X.prog = P → X.w = w → X.K = K → X.calm = true → ∀ (i : Nat) (pins : List (Addr × Obj)) (s : Shared) (σ : St) (H : Hp) (E : Value → Shared → Prop), Inv X pins σ H s → (∀ b ∈ fp, FpOk X pins H b) → tn i s.heap → J.stop i H →
    wpAny (model P w) X.A (pyNext (.ref it)) (fun r s1 => r = none ∧ Inv X pins σ H s1) E s
  self : ∀ (A : Around) (i : Nat) (s : Shared) (Q : Value → Shared → Prop) (E : Value → Shared → Prop), tn i s.heap → Q (.ref it) s → wpAny (model P w) A (pyIter (.ref it)) Q E s
abbrev TI := St → Hp → (It → Hp → Prop) → Prop
def PIE (X : Cx) (pins : List (Addr × Obj)) (σ : St) (tg : Expr) (R : It → Hp → Prop) (itv : Value) (s2 : Shared) : Prop :=
  ∃ (it : Addr) (fp : List Addr) (tn : Nat → Heap → Prop) (J : It) (H' : Hp), itv = .ref it ∧ Inv X pins σ H' s2 ∧ Turn X.prog X.w X.K tg J fp it tn ∧ tn 0 s2.heap ∧ (∀ b ∈ fp, FpOk X pins H' b) ∧ R J H'
def PI (X : Cx) (tg iter : Expr) (wi : TI) : Prop :=
  ∀ (pins : List (Addr × Obj)) (s : Shared) (σ : St) (H : Hp) (R : It → Hp → Prop), Inv X pins σ H s → wi σ H R →
    wpAny (model X.prog X.w) X.A (eval iter X.env) (fun v s1 => wpAny (model X.prog X.w) X.A (pyIter v) (PIE X pins σ tg R) X.xe s1) X.xe s
theorem go_of {M : Model} {A : Around} {E : Value → Shared → Prop} {s : Shared} {tg : Expr} {it : Addr} {u : Value} {o : Obj} {n : String} {vs : Array Value} {Q : Unit → Shared → Prop} (ho : s.heap.get? it = some o) (hc : o.cls = .type n) (hd : o.data = .fields vs)
    (hn : ["enumerate", "zip", "dict_itemiterator", "dict_reverseitemiterator", "odict_iterator", "itertools.zip_longest", "itertools.pairwise"].contains n = false) (hQ : Q () s) : wpAny M A (letOwnedTupleGo tg (.ref it) u) Q E s := by
  unfold letOwnedTupleGo
  cases tg <;> first
    | exact wpAny_pure hQ
    | (cases u <;> first
        | exact wpAny_pure hQ
        | (refine wpAny_bind (wpAny_load ho ?_)
           rw [hc, hd]
           show wpAny M A (if (["enumerate", "zip", "dict_itemiterator", "dict_reverseitemiterator", "odict_iterator", "itertools.zip_longest", "itertools.pairwise"].contains n && vs[0]? == some (rawInt _)) = true then _ else _) Q E s
           rw [if_neg (by intro h; rw [hn, Bool.false_and] at h; cases h)]
           exact wpAny_pure hQ))
def Itl (K : W.Frag) (a : Addr) : It :=
  ⟨fun i H => ∃ xs x, SqL K H a xs ∧ xs[i]? = some x, fun i H x H' => H' = H ∧ ∀ xs, SqL K H a xs → xs[i]? = some x, fun i H => ∃ xs, SqL K H a xs ∧ xs.length ≤ i⟩
def Itr (lo : Int) (n : Nat) : It := ⟨fun i _ => i < n, fun i H x H' => H' = H ∧ x = .int (lo + i), fun i _ => n ≤ i⟩
theorem turn_list {P : Program} {w : World} {K : W.Frag} {tg : Expr} (a it : Addr) : Turn P w K tg (Itl K a) [it] it (fun i h => h.IsListIter it a i) where
  mem := by simp
  obj := fun i h st b hb => by
    have e : b = it := by simpa using hb
    subst e
    obtain ⟨o, e, c, d⟩ := st
    exact ⟨o, e, fun v z => by rw [d] at z; cases z⟩
  keep := fun i h h' st k => st.at fun o e => k it (by simp) o e
  item := by
    intro X hP hw hK hc i pins s σ H E I hf st hg
    subst hP hw hK
    obtain ⟨xs, x, hq, hx⟩ := hg
    obtain ⟨its, rv, p, hz⟩ := I.list hq
    obtain ⟨u, hu, ru⟩ := rv.get hx
    obtain ⟨f0, f1, f2, f3, f4, f5⟩ := hf it (by simp)
    refine wpAny_pyNext_list_item st p.isList (x := u) (by simpa using hu) fun h' st' sb => ?_
    have I1 : Inv X pins σ H { s with heap := h' } := I.turned (t' := s.toks) (fun b o hb e => (sb.2 b hb).trans e) f0 f1 f3 f4 f5
    obtain ⟨o, e, c, d⟩ := id st'
    exact ⟨u, rfl, go_of (s := { s with heap := h' }) e c d (by decide) ⟨x, H, I1, ru, ⟨rfl, fun ys hy => by rw [I.list_inj hy hq]; exact hx⟩, st', fun b hb => (hf b hb).1⟩⟩
  done := by
    intro X hP hw hK hc i pins s σ H E I hf st hg
    subst hP hw hK
    obtain ⟨xs, hq, hx⟩ := hg
    obtain ⟨its, rv, p, hz⟩ := I.list hq
    obtain ⟨f0, f1, f2, f3, f4, f5⟩ := hf it (by simp)
    have hl := rv.length
    exact wpAny_pyNext_list_end (I.ok.hd hc) st p.isList (by simp; omega) fun h' eb => ⟨rfl, I.turned (t' := s.toks) (fun b o hb e => eb b o hb e) f0 f1 f3 f4 f5⟩
  self := fun _ _ _ _ _ st h => wpAny_pyIter_listiter st h
theorem turn_range {P : Program} {w : World} {K : W.Frag} {tg : Expr} (it : Addr) (lo : Int) (n : Nat) : Turn P w K tg (Itr lo n) [it] it (fun i h => IsRangeIter h it (lo + (i : Nat) * 1) ((n : Int) - (i : Nat)) 1) where
  mem := by simp
  obj := fun i h st b hb => by
    have e : b = it := by simpa using hb
    subst e
    exact ⟨_, st, fun v z => by
      have z' : Data.fields _ = Data.cell v := z
      cases z'⟩
  keep := fun i h h' st k => k it (by simp) _ st
  item := by
    intro X hP hw hK hc i pins s σ H E I hf st hg
    subst hP hw hK
    obtain ⟨f0, f1, f2, f3, f4, f5⟩ := hf it (by simp)
    have W := Walks.range (prog := X.prog) (w := X.w) (I.ok.hd hc) it lo 1 n
    refine W.item i s _ _ hg st fun v h' tk hv st' kk => ?_
    obtain ⟨t, rfl⟩ := hv
    have I1 : Inv X pins σ H { s with heap := h', toks := tk } := I.turned (fun b o hb e => kk b o (by simpa using hb) e) f0 f1 f3 f4 f5
    refine ⟨_, rfl, go_of (s := { s with heap := h', toks := tk }) (n := "range_iterator") st' rfl rfl (by decide) ⟨.int (lo + i), H, I1, ⟨t, ?_⟩, ⟨rfl, rfl⟩, st', fun b hb => (hf b hb).1⟩⟩
    rw [Int.mul_one]
  done := by
    intro X hP hw hK hc i pins s σ H E I hf st hg
    subst hP hw hK
    obtain ⟨f0, f1, f2, f3, f4, f5⟩ := hf it (by simp)
    exact wpAny_pyNext_range_end (I.ok.hd hc) st (by have : n ≤ i := hg; omega) fun h' eb => ⟨rfl, I.turned (t' := s.toks) (fun b o hb e => eb b o hb e) f0 f1 f3 f4 f5⟩
  self := fun _ _ _ _ _ st h => wpAny_pyIter_rangeiter st h
end L2
namespace L2
open PySem PySem.Spec PyProof.Rows
section
variable {X : Cx} {tg : Expr}
def iList (K : W.Frag) (tl : TE) : TI := fun σ H R => tl σ H fun x H1 => ∃ a, x = .ref a ∧ (∃ xs, SqL K H1 a xs) ∧ R (Itl K a) H1
theorem pi_list {l : Expr} {tl : TE} (hl : PE X l tl) : PI X tg l (iList X.K tl) := by
  intro pins s σ H R I h
  refine thn (hl pins s σ H _ I h) fun v s1 ⟨x, H1, I1, r1, q1⟩ => ?_
  obtain ⟨a, e, ⟨xs, hq⟩, q⟩ := q1
  subst e
  cases r1
  obtain ⟨its, rv, p, hz⟩ := I1.list hq
  refine wpAny_pyIter_list p.isList ?_
  refine ⟨s1.heap.objs.size, [s1.heap.objs.size], _, _, H1, rfl, I1.kept (t' := s1.toks) fun b o e => Heap.get?_push_of_some _ e, turn_list a _, ⟨_, Heap.get?_push_size _ rfl, rfl, rfl⟩, fun b hb => ?_, q⟩
  have e : b = s1.heap.objs.size := by simpa using hb
  subst e
  exact I1.fpOk (Nat.le_refl _) (I1.hok.fresh (Nat.le_refl _))
theorem range_it {pins : List (Addr × Obj)} {σ : St} {H : Hp} {s : Shared} {R : It → Hp → Prop} {E : Value → Shared → Prop} {lo hi : Int} {t u v : Tok} {tk : Nat} (I : Inv X pins σ H s) (h1 : -(2 ^ 62) ≤ lo) (h2 : lo < 2 ^ 62) (h3 : -(2 ^ 62) ≤ hi) (h4 : hi < 2 ^ 62)
    (q : R (Itr lo (hi - lo).toNat) H) : wpAny (model X.prog X.w) X.A (pyIter (.ref s.heap.objs.size)) (PIE X pins σ tg R) E { s with heap := s.heap.push { cls := .type "range", data := .fields #[.int lo t, .int hi u, .int 1 v] }, toks := tk } := by
  refine wpAny_pyIter_range (IsRange.new ..) (small_one h1 h2 h3 h4) ?_
  have I1 : Inv X pins σ H { s with heap := s.heap.push { cls := .type "range", data := .fields #[.int lo t, .int hi u, .int 1 v] }, toks := tk } := I.kept fun b o e => Heap.get?_push_of_some _ e
  refine ⟨(s.heap.push { cls := .type "range", data := .fields #[.int lo t, .int hi u, .int 1 v] }).objs.size, [(s.heap.push { cls := .type "range", data := .fields #[.int lo t, .int hi u, .int 1 v] }).objs.size], _, _, H, rfl,
    I1.kept (t' := tk) fun b o e => Heap.get?_push_of_some _ e, turn_range _ lo (hi - lo).toNat, ?_, fun b hb => ?_, q⟩
  · have e1 : lo + ((0 : Nat) : Int) * 1 = lo := by simp
    have e2 : (((hi - lo).toNat : Nat) : Int) - ((0 : Nat) : Int) = Builtin.Range.rangeSize lo hi 1 := by rw [rangeSize_one]; split <;> omega
    show IsRangeIter _ _ (lo + ((0 : Nat) : Int) * 1) ((((hi - lo).toNat : Nat) : Int) - ((0 : Nat) : Int)) 1
    rw [e1, e2]
    exact Heap.get?_push_size _ rfl
  · have e : b = (s.heap.push { cls := .type "range", data := .fields #[.int lo t, .int hi u, .int 1 v] }).objs.size := by simpa using hb
    subst e
    exact I1.fpOk (Nat.le_refl _) (I1.hok.fresh (Nat.le_refl _))
def iRng1 (ta : TA) : TI := fun σ H R => ta σ H fun vs H1 => ∃ j : Int, vs = [.int j] ∧ -(2 ^ 62) ≤ j ∧ j < 2 ^ 62 ∧ R (Itr 0 j.toNat) H1
theorem pi_range1 {a : Expr} {ta : TA} {p pos : Pos} (hg : Gl X "range") (hm : X.mg "range" = none) (ha : PA X [a] ta) (hs : starEach [a] X.env = [(false, eval a X.env)] := by rfl) : PI X tg (.Call (.Name "range" p) [a] [] pos) (iRng1 ta) := by
  intro pins s σ H R I h
  refine Call_ (ld_blt I hg hm boot_range (PyProof.Rows.callWith_type1 (thn (ha pos pins s σ H _ I h) fun us s1 ⟨vs, H1, I1, r1, q1⟩ => ?_) hs rfl))
  obtain ⟨j, e, q1, q2, q⟩ := q1
  subst e
  cases r1 with
  | cons r rr =>
    cases rr
    obtain ⟨t, rfl⟩ := r
    exact call_range_1 (range_it I1 (by omega) (by omega) q1 q2 (by simpa using q))
def tFor (wi : TI) (g : TG) (tb : TS) : TS := fun D σ H => wi σ H fun J H1 => ∃ W : Nat → Nat → St → Hp → Prop, (∃ m, W 0 m σ H1) ∧ ∀ i m σ H, W i m σ H →
  (J.stop i H ∧ D.nx σ H) ∨ (J.go i H ∧ ∃ N : St → Hp → Prop, (∀ σ' H', N σ' H' → ∃ m', m' < m ∧ W (i + 1) m' σ' H') ∧ ∀ x H', J.yld i H x H' → g x σ H' fun σ2 H2 => tb { D with nx := N, ct := N, bk := D.nx } σ2 H2)
def pinsAt (fp : List Addr) (h : Heap) : List (Addr × Obj) := fp.filterMap fun b => (h.get? b).map fun o => (b, o)
theorem mem_pinsAt {fp : List Addr} {h : Heap} {b : Addr} {o : Obj} (hb : b ∈ fp) (e : h.get? b = some o) : (b, o) ∈ pinsAt fp h := List.mem_filterMap.mpr ⟨b, hb, by rw [e]; rfl⟩
theorem of_pinsAt {fp : List Addr} {h : Heap} {p : Addr × Obj} (hp : p ∈ pinsAt fp h) : p.1 ∈ fp ∧ h.get? p.1 = some p.2 := by
  obtain ⟨b, hb, e⟩ := List.mem_filterMap.mp hp
  cases q : h.get? b with
  | none => rw [q] at e; cases e
  | some o =>
    rw [q] at e
    have e' : (b, o) = p := Option.some.inj e
    subst e'
    exact ⟨hb, q⟩
theorem Inv.pinned {pins : List (Addr × Obj)} {σ : St} {H : Hp} {s : Shared} {fp : List Addr} (I : Inv X pins σ H s) (hf : ∀ b ∈ fp, FpOk X pins H b) (ho : ∀ b ∈ fp, ∃ o, s.heap.get? b = some o ∧ ∀ v, o.data ≠ .cell v) : Inv X (pins ++ pinsAt fp s.heap) σ H s :=
  I.pins_of fun p hp => (List.mem_append.mp hp).elim (fun z => I.pin p (List.mem_append_right _ z)) fun z => by
    obtain ⟨hb, e⟩ := of_pinsAt z
    obtain ⟨f0, f1, f2, _⟩ := hf p.1 hb
    obtain ⟨o, e', d⟩ := ho p.1 hb
    rw [e] at e'; cases e'
    exact ⟨e, f0, f1, f2, d⟩
theorem Inv.unpinned {pins pl : List (Addr × Obj)} {σ : St} {H : Hp} {s : Shared} (I : Inv X (pins ++ pl) σ H s) : Inv X pins σ H s := I.pins_of fun p hp => I.pin p (List.mem_append_right _ (List.mem_append_left _ hp))
theorem ps_for {iter : Expr} {body : List Stmt} {wi : TI} {g : TG} {tb : TS} {pos : Pos} (hp : PassesOwn (model X.prog X.w) X.A X.env X.xe) (hc : X.calm = true) (hi : PI X tg iter wi) (hg : PG X tg g) (hb : PSs X body tb)
    (hs : ∀ x, foldedSetIterable iter X.env x = pure x := by intro _; rfl) : PS X (.For tg iter body [] pos) (tFor wi g tb) := by
  intro pins s σ H D I h
  refine wpAny_For (thn (hi pins s σ H _ I h) fun v s1 h1 => thn h1 fun itv s2 h2 => ?_) hs
  obtain ⟨it, fp, tn, J, H2, e, I2, T, st2, f2, W, ⟨m0, w0⟩, turn⟩ := h2
  subst e
  have stat : ∀ {H' : Hp}, (∀ b ∈ fp, H' b = none) → ∀ b ∈ fp, FpOk X pins H' b := fun hn b hb => ⟨hn b hb, (f2 b hb).2⟩
  refine codeAny_forLoop_any (fun n s' => ∃ i σ' H', Inv X pins σ' H' s' ∧ tn i s'.heap ∧ (∀ b ∈ fp, H' b = none) ∧ W i n σ' H') ?_ m0 ⟨0, σ, H2, I2, st2, fun b hb => (f2 b hb).1, w0⟩
  rintro n s3 ⟨i, σ3, H3, I3, st3, fr3, w3⟩
  rcases turn i n σ3 H3 w3 with ⟨stop, qn⟩ | ⟨go, N, hN, step⟩
  · refine wpAny_passesOwn hp (thn (T.done X rfl rfl rfl hc i pins s3 σ3 H3 X.xe I3 (stat fr3) st3 stop) fun r s4 ⟨hr, I4⟩ => ?_)
    subst hr
    exact wpAny_execs_nil ⟨σ3, H3, I4, qn⟩
  · refine wpAny_passesOwn hp (thn (T.item X rfl rfl rfl hc i pins s3 σ3 H3 X.xe I3 (stat fr3) st3 go) fun r s4 ⟨u, hr, h4⟩ => ?_)
    subst hr
    refine wpAny_passesOwn hp (thn h4 fun _ s5 ⟨x, H5, I5, r5, y5, st5, fr5⟩ => ?_)
    have I5' := I5.pinned (stat fr5) (T.obj _ _ st5)
    refine wpAny_passesOwn hp (thn (hg _ s5 σ3 H5 x u _ I5' r5 (step x H5 y5)) fun _ s6 ⟨σ6, H6, I6, q6⟩ => ?_)
    refine wpAny_passesOwn hp (thn (hb _ s6 σ6 H6 _ I6 q6) fun f s7 q7 => ?_)
    have again : ∀ {σ7 : St} {H7 : Hp}, Inv X (pins ++ pinsAt fp s5.heap) σ7 H7 s7 → N σ7 H7 → ∃ m, m < n ∧ ∃ i σ' H', Inv X pins σ' H' s7 ∧ tn i s7.heap ∧ (∀ b ∈ fp, H' b = none) ∧ W i m σ' H' := fun {σ7 H7} I7 n7 => by
      obtain ⟨m', hm, w7⟩ := hN σ7 H7 n7
      refine ⟨m', hm, i + 1, σ7, H7, I7.unpinned, T.keep _ _ _ st5 fun b hb o e => (I7.pin (b, o) (List.mem_append_right _ (List.mem_append_right _ (mem_pinsAt hb e)))).1, fun b hb => ?_, w7⟩
      obtain ⟨o, e, d⟩ := T.obj _ _ st5 b hb
      exact (I7.pin (b, o) (List.mem_append_right _ (List.mem_append_right _ (mem_pinsAt hb e)))).2.1
    cases f with
    | next => obtain ⟨σ7, H7, I7, n7⟩ := q7; exact again I7 n7
    | cont => obtain ⟨σ7, H7, I7, n7⟩ := q7; exact again I7 n7
    | brk => obtain ⟨σ7, H7, I7, q7⟩ := q7; exact ⟨σ7, H7, I7.unpinned, q7⟩
    | ret v => obtain ⟨x7, σ7, H7, I7, r7, q7⟩ := q7; exact ⟨x7, σ7, H7, I7.unpinned, r7, q7⟩
end
end L2
namespace L2
open PySem PySem.Spec PyProof.Rows
abbrev R2 := V → V → Hp → VK → Prop
def OpR (X : Cx) (f : Value → Value → Sem Value) (r : R2) : Prop :=
  ∀ (pins : List (Addr × Obj)) (s : Shared) (σ : St) (H : Hp) (x y : V) (v u : Value) (Q : VK), Inv X pins σ H s → RelV x v → RelV y u → r x y H Q →
    wpAny (model X.prog X.w) X.A (f v u) (EP X pins σ Q) X.xe s
def UnR (X : Cx) (f : Value → Sem Value) (r : V → Hp → VK → Prop) : Prop :=
  ∀ (pins : List (Addr × Obj)) (s : Shared) (σ : St) (H : Hp) (x : V) (v : Value) (Q : VK), Inv X pins σ H s → RelV x v → r x H Q →
    wpAny (model X.prog X.w) X.A (f v) (EP X pins σ Q) X.xe s
def CallR (X : Cx) (f : Value) (r : List V → Hp → VK → Prop) : Prop :=
  ∀ (pins : List (Addr × Obj)) (s : Shared) (σ : St) (H : Hp) (xs : List V) (us : List Value) (Q : VK), Inv X pins σ H s → Vals xs us → r xs H Q →
    wpAny (model X.prog X.w) X.A (call f us) (EP X pins σ Q) X.xe s
def TruR (X : Cx) (r : V → Hp → (Bool → Hp → Prop) → Prop) : Prop :=
  ∀ (pins : List (Addr × Obj)) (s : Shared) (σ : St) (H : Hp) (x : V) (v : Value) (Q : Bool → Hp → Prop), Inv X pins σ H s → RelV x v → r x H Q →
    wpAny (model X.prog X.w) X.A (truthy v) (TP X pins σ Q) X.xe s
def tOp (r : R2) (ta tb : TE) : TE := fun σ H Q => ta σ H fun x H1 => tb σ H1 fun y H2 => r x y H2 Q
def tUn (r : V → Hp → VK → Prop) (ta : TE) : TE := fun σ H Q => ta σ H fun x H1 => r x H1 Q
def rI (C : Int → Int → Prop) (g : Int → Int → V) : R2 := fun x y H Q => ∃ i j, x = .int i ∧ y = .int j ∧ C i j ∧ Q (g i j) H
def rI0 (g : Int → Int → V) : R2 := fun x y H Q => ∃ i j, x = .int i ∧ y = .int j ∧ Q (g i j) H
def rU (g : Int → V) : V → Hp → VK → Prop := fun x H Q => ∃ i, x = .int i ∧ Q (g i) H
section
variable {X : Cx} {a b c : Expr} {ta tb tc : TE} {pos : Pos}
theorem binT (ha : PE X a ta) (hb : PE X b tb) {pins : List (Addr × Obj)} {s : Shared} {σ : St} {H : Hp} {R : V → V → Hp → Prop} (I : Inv X pins σ H s)
    (h : ta σ H fun x H1 => tb σ H1 fun y H2 => R x y H2) {Q : Value → Shared → Prop} {f : Value → Value → Sem Value}
    (hf : ∀ v u s2 x y H2, Inv X pins σ H2 s2 → RelV x v → RelV y u → R x y H2 → wpAny (model X.prog X.w) X.A (f v u) Q X.xe s2) :
    wpAny (model X.prog X.w) X.A (eval a X.env) (fun v s₁ => wpAny (model X.prog X.w) X.A (eval b X.env) (fun u s₂ => wpAny (model X.prog X.w) X.A (f v u) Q X.xe s₂) X.xe s₁) X.xe s := by
  refine thn (ha pins s σ H _ I h) fun v s1 ⟨x, H1, I1, r1, q1⟩ => ?_
  refine thn (hb pins s1 σ H1 _ I1 q1) fun u s2 ⟨y, H2, I2, r2, q2⟩ => ?_
  exact hf v u s2 x y H2 I2 r1 r2 q2
theorem pe_op {op : Operator} {r : R2} (ho : OpR X (binaryOp op) r) (ha : PE X a ta) (hb : PE X b tb) : PE X (.BinOp a op b pos) (tOp r ta tb) := by
  intro pins s σ H Q I h
  exact wpAny_BinOp (binT ha hb I h fun v u s2 x y H2 I2 rx ry q => ho pins s2 σ H2 x y v u Q I2 rx ry q)
theorem pe_un {op : UnaryOp} {r : V → Hp → VK → Prop} (ho : UnR X (unaryOp op) r) (ha : PE X a ta) : PE X (.UnaryOp op a pos) (tUn r ta) := by
  intro pins s σ H Q I h
  exact UnaryOp_ (thn (ha pins s σ H _ I h) fun v s1 ⟨x, H1, I1, r1, q1⟩ => ho pins s1 σ H1 x v Q I1 r1 q1)
theorem opI {f : Value → Value → Sem Value} {C : Int → Int → Prop} {g : Int → Int → Int}
    (rule : ∀ (i j : Int) (t u : Tok) (s : Shared) (Q : Value → Shared → Prop) (E : Value → Shared → Prop), C i j → Q (.int (g i j) s.toks) { s with toks := s.toks + 1 } → wpAny (model X.prog X.w) X.A (f (.int i t) (.int j u)) Q E s) :
    OpR X f (rI C fun i j => .int (g i j)) := by
  intro pins s σ H x y v u Q I rx ry h
  obtain ⟨i, j, rfl, rfl, hc, q⟩ := h
  obtain ⟨t, rfl⟩ := rx
  obtain ⟨t', rfl⟩ := ry
  exact rule i j t t' s _ _ hc ⟨.int (g i j), H, I.tok _, ⟨_, rfl⟩, q⟩
theorem opI0 {f : Value → Value → Sem Value} {g : Int → Int → Int}
    (rule : ∀ (i j : Int) (t u : Tok) (s : Shared) (Q : Value → Shared → Prop) (E : Value → Shared → Prop), Q (.int (g i j) s.toks) { s with toks := s.toks + 1 } → wpAny (model X.prog X.w) X.A (f (.int i t) (.int j u)) Q E s) :
    OpR X f (rI0 fun i j => .int (g i j)) := by
  intro pins s σ H x y v u Q I rx ry h
  obtain ⟨i, j, rfl, rfl, q⟩ := h
  obtain ⟨t, rfl⟩ := rx
  obtain ⟨t', rfl⟩ := ry
  exact rule i j t t' s _ _ ⟨.int (g i j), H, I.tok _, ⟨_, rfl⟩, q⟩
theorem opB0 {f : Value → Value → Sem Value} {g : Int → Int → Bool}
    (rule : ∀ (i j : Int) (t u : Tok) (s : Shared) (Q : Value → Shared → Prop) (E : Value → Shared → Prop), Q (.bool (g i j)) s → wpAny (model X.prog X.w) X.A (f (.int i t) (.int j u)) Q E s) :
    OpR X f (rI0 fun i j => .bl (g i j)) := by
  intro pins s σ H x y v u Q I rx ry h
  obtain ⟨i, j, rfl, rfl, q⟩ := h
  obtain ⟨t, rfl⟩ := rx
  obtain ⟨t', rfl⟩ := ry
  exact rule i j t t' s _ _ ⟨.bl (g i j), H, I, rfl, q⟩
def CPow (i j : Int) : Prop := 0 ≤ j ∧ j ≤ 1000000 ∧ i.natAbs < 2 ^ 64
def CMul (i j : Int) : Prop := (-(2 ^ 64) < i ∧ i < 2 ^ 64) ∨ (-(2 ^ 64) < j ∧ j < 2 ^ 64)
theorem CMul.ok {i j : Int} (h : CMul i j) : IntMulOk i j := by
  rcases h with ⟨h1, h2⟩ | ⟨h1, h2⟩
  · exact .of_left (intBits_le_64 h1 h2)
  · exact .of_right (intBits_le_64 h1 h2)
theorem op_add : OpR X (binaryOp .Add) (rI0 fun i j => .int (i + j)) := opI0 fun _ _ _ _ _ _ _ q => add_int q
theorem op_sub : OpR X (binaryOp .Sub) (rI0 fun i j => .int (i - j)) := opI0 fun _ _ _ _ _ _ _ q => sub_int q
theorem op_mul : OpR X (binaryOp .Mult) (rI CMul fun i j => .int (i * j)) := opI fun _ _ _ _ _ _ _ hc q => mul_int q hc.ok
theorem op_mod : OpR X (binaryOp .Mod) (rI (fun _ j => 0 < j) fun i j => .int (i % j)) := opI fun i j _ _ _ _ _ hc q => by
  have h1 : (0 : Int) < j := hc
  exact mod_int' (by omega) (by rw [Int.fmod_eq_emod_of_nonneg i (by omega)]; exact q)
theorem op_pow : OpR X (binaryOp .Pow) (rI CPow fun i j => .int (i ^ j.toNat)) := opI fun _ _ _ _ _ _ _ hc q => pow_int_small hc.1 hc.2.1 hc.2.2 q
theorem unI {f : Value → Sem Value} {g : Int → Int}
    (rule : ∀ (i : Int) (t : Tok) (s : Shared) (Q : Value → Shared → Prop) (E : Value → Shared → Prop), Q (.int (g i) s.toks) { s with toks := s.toks + 1 } → wpAny (model X.prog X.w) X.A (f (.int i t)) Q E s) :
    UnR X f (rU fun i => .int (g i)) := by
  intro pins s σ H x v Q I rx h
  obtain ⟨i, rfl, q⟩ := h
  obtain ⟨t, rfl⟩ := rx
  exact rule i t s _ _ ⟨.int (g i), H, I.tok _, ⟨_, rfl⟩, q⟩
theorem un_neg : UnR X (unaryOp .USub) (rU fun i => .int (-i)) := unI fun _ _ _ _ _ q => neg_int q
end
def scal : V → V → Bool
  | .non, .non => true | .non, .int _ => true | .int _, .non => true | .non, .bl _ => true | .bl _, .non => true | .non, .str _ => true | .str _, .non => true
  | .int _, .int _ => true | .bl _, .bl _ => true | .str _, .str _ => true | .byt _, .byt _ => true
  | .int _, .str _ => true | .str _, .int _ => true | .bl _, .str _ => true | .str _, .bl _ => true
  | _, _ => false
def rEq : R2 := fun x y H Q => scal x y = true ∧ Q (.bl (decide (x = y))) H
def rNe : R2 := fun x y H Q => scal x y = true ∧ Q (.bl (!decide (x = y))) H
theorem dec_int {i j : Int} : decide (V.int i = V.int j) = (i == j) := by
  rw [Bool.eq_iff_iff]
  simp
theorem dec_bl {i j : Bool} : decide (V.bl i = V.bl j) = (i == j) := by
  rw [Bool.eq_iff_iff]
  simp
theorem dec_str {i j : Str} : decide (V.str i = V.str j) = (i == j) := by
  rw [Bool.eq_iff_iff]
  simp
theorem dec_byt {i j : Array UInt8} : decide (V.byt i = V.byt j) = (i.toList == j.toList) := by
  rw [Bool.eq_iff_iff]
  cases i
  cases j
  simp
section
variable {X : Cx} {a b c : Expr} {ta tb tc : TE} {pos : Pos}
theorem fin_bl {pins : List (Addr × Obj)} {σ : St} {H : Hp} {s : Shared} {Q : VK} {k k' : Bool} (I : Inv X pins σ H s) (q : Q (.bl k) H) (e : k = k') : EP X pins σ Q (.bool k') s := by
  subst e
  exact ⟨.bl k, H, I, rfl, q⟩
theorem op_eq : OpR X (compareOp .Eq) rEq := by
  intro pins s σ H x y v u Q I rx ry h
  obtain ⟨hs, q⟩ := h
  cases x with
  | non =>
    cases rx
    cases y with
    | non => cases ry; exact PySem.EqNone.eq_none_none (fin_bl I q (by simp))
    | bl j => cases ry; exact PySem.EqNone.eq_none_bool (fin_bl I q (by simp))
    | int j => obtain ⟨t', rfl⟩ := ry; exact PySem.EqNone.eq_none_int (fin_bl I q (by simp))
    | str j => obtain ⟨t', rfl⟩ := ry; exact PySem.EqNone.eq_none_str (fin_bl I q (by simp))
    | _ => exact absurd (show false = true from hs) Bool.false_ne_true
  | bl i =>
    cases rx
    cases y with
    | non => cases ry; exact PySem.EqNone.eq_bool_none (fin_bl I q (by simp))
    | bl j => cases ry; exact eq_bool (fin_bl I q dec_bl)
    | str j => obtain ⟨t', rfl⟩ := ry; exact PySem.EqMixed.eq_bool_str (fin_bl I q (by simp))
    | _ => exact absurd (show false = true from hs) Bool.false_ne_true
  | int i =>
    obtain ⟨t, rfl⟩ := rx
    cases y with
    | non => cases ry; exact PySem.EqNone.eq_int_none (fin_bl I q (by simp))
    | int j => obtain ⟨t', rfl⟩ := ry; exact eq_int (fin_bl I q dec_int)
    | str j => obtain ⟨t', rfl⟩ := ry; exact PySem.EqMixed.eq_int_str (fin_bl I q (by simp))
    | _ => exact absurd (show false = true from hs) Bool.false_ne_true
  | str i =>
    obtain ⟨t, rfl⟩ := rx
    cases y with
    | non => cases ry; exact PySem.EqNone.eq_str_none (fin_bl I q (by simp))
    | bl j => cases ry; exact PySem.EqMixed.eq_str_bool (fin_bl I q (by simp))
    | int j => obtain ⟨t', rfl⟩ := ry; exact PySem.EqMixed.eq_str_int (fin_bl I q (by simp))
    | str j => obtain ⟨t', rfl⟩ := ry; exact eq_str (fin_bl I q dec_str)
    | _ => exact absurd (show false = true from hs) Bool.false_ne_true
  | byt i =>
    obtain ⟨t, rfl⟩ := rx
    cases y with
    | byt j => obtain ⟨t', rfl⟩ := ry; exact W.eq_bytes (fin_bl I q dec_byt)
    | _ => exact absurd (show false = true from hs) Bool.false_ne_true
  | _ => cases y <;> exact absurd (show false = true from hs) Bool.false_ne_true
theorem op_ne : OpR X (compareOp .NotEq) rNe := by
  intro pins s σ H x y v u Q I rx ry h
  obtain ⟨hs, q⟩ := h
  cases x with
  | non =>
    cases rx
    cases y with
    | non => cases ry; exact PySem.EqNone.ne_none_none (fin_bl I q (by simp))
    | bl j => cases ry; exact PySem.EqNone.ne_none_bool (fin_bl I q (by simp))
    | int j => obtain ⟨t', rfl⟩ := ry; exact PySem.EqNone.ne_none_int (fin_bl I q (by simp))
    | str j => obtain ⟨t', rfl⟩ := ry; exact PySem.EqNone.ne_none_str (fin_bl I q (by simp))
    | _ => exact absurd (show false = true from hs) Bool.false_ne_true
  | bl i =>
    cases rx
    cases y with
    | non => cases ry; exact PySem.EqNone.ne_bool_none (fin_bl I q (by simp))
    | bl j => cases ry; exact ne_bool (fin_bl I q (congrArg not dec_bl))
    | str j => obtain ⟨t', rfl⟩ := ry; exact PySem.EqMixed.ne_bool_str (fin_bl I q (by simp))
    | _ => exact absurd (show false = true from hs) Bool.false_ne_true
  | int i =>
    obtain ⟨t, rfl⟩ := rx
    cases y with
    | non => cases ry; exact PySem.EqNone.ne_int_none (fin_bl I q (by simp))
    | int j => obtain ⟨t', rfl⟩ := ry; exact ne_int (fin_bl I q (congrArg not dec_int))
    | str j => obtain ⟨t', rfl⟩ := ry; exact PySem.EqMixed.ne_int_str (fin_bl I q (by simp))
    | _ => exact absurd (show false = true from hs) Bool.false_ne_true
  | str i =>
    obtain ⟨t, rfl⟩ := rx
    cases y with
    | non => cases ry; exact PySem.EqNone.ne_str_none (fin_bl I q (by simp))
    | bl j => cases ry; exact PySem.EqMixed.ne_str_bool (fin_bl I q (by simp))
    | int j => obtain ⟨t', rfl⟩ := ry; exact PySem.EqMixed.ne_str_int (fin_bl I q (by simp))
    | str j => obtain ⟨t', rfl⟩ := ry; exact ne_str (fin_bl I q (congrArg not dec_str))
    | _ => exact absurd (show false = true from hs) Bool.false_ne_true
  | byt i =>
    obtain ⟨t, rfl⟩ := rx
    cases y with
    | byt j => obtain ⟨t', rfl⟩ := ry; exact W.ne_bytes (fin_bl I q (congrArg not dec_byt))
    | _ => exact absurd (show false = true from hs) Bool.false_ne_true
  | _ => cases y <;> exact absurd (show false = true from hs) Bool.false_ne_true
theorem op_lt : OpR X (compareOp .Lt) (rI0 fun i j => .bl (decide (i < j))) := opB0 fun _ _ _ _ _ _ _ q => lt_int q
theorem op_gt : OpR X (compareOp .Gt) (rI0 fun i j => .bl (decide (j < i))) := opB0 fun _ _ _ _ _ _ _ q => gt_int q
theorem op_isN : OpR X (compareOp .Is) (fun x y H Q => y = .non ∧ Q (.bl (decide (x = .non))) H) := by
  intro pins s σ H x y v u Q I rx ry h
  obtain ⟨rfl, q⟩ := h
  cases ry
  refine is_none_gen (fin_bl I q ?_)
  cases x <;> first
    | (cases rx; rfl)
    | (obtain ⟨t, rfl⟩ := rx; rfl)
theorem op_notN : OpR X (compareOp .IsNot) (fun x y H Q => y = .non ∧ Q (.bl (!decide (x = .non))) H) := by
  intro pins s σ H x y v u Q I rx ry h
  obtain ⟨rfl, q⟩ := h
  cases ry
  refine isnot_none_gen (fin_bl I q ?_)
  cases x <;> first
    | (cases rx; rfl)
    | (obtain ⟨t, rfl⟩ := rx; rfl)
theorem nomark (b : Expr) {op : CmpOp} (h : op ≠ .In := by decide) (h2 : op ≠ .NotIn := by decide) : behindInMarks op b = false := by
  have e1 : (op == CmpOp.In) = false := by cases op <;> first | rfl | exact absurd rfl h
  have e2 : (op == CmpOp.NotIn) = false := by cases op <;> first | rfl | exact absurd rfl h2
  cases b <;> simp [behindInMarks, e1, e2]
theorem pe_cmpR {op : CmpOp} {r : R2} (ho : OpR X (compareOp op) r) (ha : PE X a ta) (hb : PE X b tb) (hm : behindInMarks op b = false) : PE X (.Compare a [op] [b] pos) (tOp r ta tb) := by
  intro pins s σ H Q I h
  exact wpAny_Compare1 (binT ha hb I h fun v u s2 x y H2 I2 rx ry q => ho pins s2 σ H2 x y v u Q I2 rx ry q) hm
def tTest (t : TE) : TT := fun σ H Q => t σ H fun x H' => ∃ k, x = .bl k ∧ Q k H'
theorem pt_cmpR {op : CmpOp} {r : R2} (ho : OpR X (compareOp op) r) (ha : PE X a ta) (hb : PE X b tb) (hm : behindInMarks op b = false) : PT X (.Compare a [op] [b] pos) (tTest (tOp r ta tb)) := by
  intro pins s σ H Q I h
  refine wpAny_isTrue_Compare1 (thn (ha pins s σ H _ I h) fun v s1 ⟨x, H1, I1, r1, q1⟩ => thn (hb pins s1 σ H1 _ I1 q1) fun u s2 ⟨y, H2, I2, r2, q2⟩ =>
    thn (ho pins s2 σ H2 x y v u _ I2 r1 r2 q2) fun c s3 ⟨z, H3, I3, r3, k, e, q3⟩ => ?_) hm
  subst e
  cases r3
  exact wpAny_truthy_bool ⟨H3, I3, q3⟩
def TruV (K : W.Frag) (x : V) (H : Hp) (k : Bool) : Prop :=
  match x with
  | .non => k = false
  | .bl b => k = b
  | .int i => k = (i != 0)
  | .str y => y.length ≤ sizeLine ∧ k = ((y.length : Int) != 0)
  | .byt y => y.size ≤ sizeLine ∧ k = ((y.size : Int) != 0)
  | .ref p => (∃ xs, SqL K H p xs ∧ k = !xs.isEmpty) ∨ (∃ xs, SqT K H p xs ∧ k = !xs.isEmpty) ∨ ∃ kvs, H p = some (.dK kvs) ∧ k = !kvs.isEmpty
  | _ => False
theorem isEmpty_kv {κ : Type} {kvs : List (κ × V)} {vs : List (κ × Value)} (r : KV kvs vs) : (!vs.isEmpty) = !kvs.isEmpty := by
  cases r <;> rfl
theorem isEmpty_of {xs : List V} {its : List Value} (r : Vals xs its) : (!its.toArray.isEmpty) = !xs.isEmpty := by
  cases r <;> simp
theorem line63 : (sizeLine : Nat) < 2 ^ 63 := by rw [sizeLine_eq]; decide
theorem tru_ok : TruR X (fun x H Q => ∃ k, TruV X.K x H k ∧ Q k H) := by
  intro pins s σ H x v Q I rx h
  obtain ⟨k, e, q⟩ := h
  have hl := line63
  have hs : sizeLine = 16777216 := sizeLine_eq
  cases x with
  | non =>
    cases rx
    have e' : k = false := e
    subst e'
    exact truthy_none ⟨H, I, q⟩
  | bl b =>
    cases rx
    have e' : k = b := e
    subst e'
    exact wpAny_truthy_bool ⟨H, I, q⟩
  | int i =>
    obtain ⟨t, rfl⟩ := rx
    have e' : k = (i != 0) := e
    subst e'
    exact PySem.P.truthy_int ⟨H, I, q⟩
  | str y =>
    obtain ⟨t, rfl⟩ := rx
    obtain ⟨hy, e'⟩ : y.length ≤ sizeLine ∧ k = ((y.length : Int) != 0) := e
    subst e'
    exact PySem.P.truthy_str (by omega) ⟨H, I.tok _, q⟩
  | byt y =>
    obtain ⟨t, rfl⟩ := rx
    obtain ⟨hy, e'⟩ : y.size ≤ sizeLine ∧ k = ((y.size : Int) != 0) := e
    subst e'
    exact W.truthy_bytes (by omega) ⟨H, I.tok _, q⟩
  | ref p =>
    cases rx
    have e' : (∃ xs, SqL X.K H p xs ∧ k = !xs.isEmpty) ∨ (∃ xs, SqT X.K H p xs ∧ k = !xs.isEmpty) ∨ ∃ kvs, H p = some (.dK kvs) ∧ k = !kvs.isEmpty := e
    rcases e' with ⟨xs, hx, e'⟩ | ⟨xs, hx, e'⟩ | ⟨kvs, hx, e'⟩
    · subst e'
      obtain ⟨its, r, pl, hz⟩ := I.list hx
      have hlen := r.length
      exact wpAny_truthy_list pl.isList (by simp only [List.size_toArray]; omega) ⟨H, I.tok _, by rw [isEmpty_of r]; exact q⟩
    · subst e'
      obtain ⟨its, r, pl, hz⟩ := I.tuple hx
      have hlen := r.length
      exact truthy_tuple pl (by simp only [List.size_toArray]; omega) ⟨H, I.tok _, by rw [isEmpty_of r]; exact q⟩
    · subst e'
      obtain ⟨hz, hS, vs, r, m⟩ : kvs.length ≤ sizeLine ∧ (p == sysModules) = false ∧ ∃ vs, KV kvs vs ∧ s.heap.DictOf (mixKind X.prog X.w) p vs := I.hok p _ hx
      have hlen : kvs.length = vs.length := Paired.length r
      exact wpAny_truthy_dict hS m (by omega) ⟨H, I.tok _, by rw [isEmpty_kv r]; exact q⟩
  | _ => exact (show False from e).elim
theorem vals1 {x : V} {us : List Value} (r : Vals [x] us) : ∃ u, us = [u] ∧ RelV x u := by
  cases r with
  | cons r1 r2 => cases r2; exact ⟨_, rfl, r1⟩
theorem vals2 {x y : V} {us : List Value} (r : Vals [x, y] us) : ∃ u w', us = [u, w'] ∧ RelV x u ∧ RelV y w' := by
  cases r with
  | cons r1 r2 =>
    cases r2 with
    | cons r3 r4 => cases r4; exact ⟨_, _, rfl, r1, r3⟩
theorem call_max2 (hc : X.calm = true) : CallR X (.builtin "max") (fun xs H Q => ∃ i j, xs = [.int i, .int j] ∧ Q (.int (if j > i then j else i)) H) := by
  intro pins s σ H xs us Q I r h
  obtain ⟨i, j, rfl, q⟩ := h
  obtain ⟨u, w', rfl, ⟨t, rfl⟩, ⟨t', rfl⟩⟩ := vals2 r
  refine max_two_ints (I.ok.hd hc) fun h' tk k => ⟨_, H, I.kept k, ?_, q⟩
  by_cases hj : j > i
  · rw [if_pos hj, if_pos hj]; exact ⟨_, rfl⟩
  · rw [if_neg hj, if_neg hj]; exact ⟨_, rfl⟩
theorem call_min2 (hc : X.calm = true) : CallR X (.builtin "min") (fun xs H Q => ∃ i j, xs = [.int i, .int j] ∧ Q (.int (if j < i then j else i)) H) := by
  intro pins s σ H xs us Q I r h
  obtain ⟨i, j, rfl, q⟩ := h
  obtain ⟨u, w', rfl, ⟨t, rfl⟩, ⟨t', rfl⟩⟩ := vals2 r
  refine min_two_ints (I.ok.hd hc) fun h' tk k => ⟨_, H, I.kept k, ?_, q⟩
  by_cases hj : j < i
  · rw [if_pos hj, if_pos hj]; exact ⟨_, rfl⟩
  · rw [if_neg hj, if_neg hj]; exact ⟨_, rfl⟩
theorem call_int1 : CallR X (.type "int") (fun xs H Q => (∃ i, xs = [.int i] ∧ Q (.int i) H) ∨ ∃ k, xs = [.bl k] ∧ Q (.int (if k then 1 else 0)) H) := by
  intro pins s σ H xs us Q I r h
  rcases h with ⟨i, rfl, q⟩ | ⟨k, rfl, q⟩
  · obtain ⟨u, rfl, t, rfl⟩ := vals1 r
    exact call_int_int ⟨.int i, H, I, ⟨_, rfl⟩, q⟩
  · obtain ⟨u, rfl, r1⟩ := vals1 r
    cases r1
    exact call_int_bool ⟨.int (if k then 1 else 0), H, I.tok _, ⟨_, rfl⟩, q⟩
end
end L2
namespace L2
open PySem PySem.Spec PyProof.Rows
structure ObjM (h : Heap) (x dx C : Addr) (mA : Str → Option Value) : Prop where
  obj : h.get? x = some (W.instObj C dx)
  ns : h.Ns1 dx mA
  ne : dx ≠ x
theorem lookIn_ns {h : Heap} {dx : Addr} {mA : Str → Option Value} (n : h.Ns1 dx mA) : ∃ od, h.get? dx = some od ∧ ∀ name, W.lookIn name od = some (mA name) := by
  obtain ⟨o, es, ep, ho, hd, hk, _, hm⟩ := n
  refine ⟨o, ho, fun name => ?_⟩
  have e := hm name
  unfold nsFind findBy at e
  rw [← Array.find?_toList] at e
  unfold W.lookIn
  rw [hd]
  dsimp only
  split
  · rename_i y q
    rw [q] at e
    exact congrArg some e
  · rename_i q
    rw [q] at e
    have a : es.toList.any (·.refKey) = false := by
      rw [List.any_eq_false]
      intro y hy
      obtain ⟨z, t, hkey⟩ := hk y (Array.mem_toList_iff.mp hy)
      simp [DictEntry.refKey, hkey]
    have a' : ¬ es.toList.any (·.refKey) = true := by rw [a]; exact Bool.false_ne_true
    rw [if_neg a']
    exact congrArg some e
theorem ObjM.look {h : Heap} {x dx C : Addr} {mA : Str → Option Value} (I : ObjM h x dx C mA) : ∃ od, W.InstAt h x (W.instObj C dx) C (some od) ∧ ∀ name, W.lookIn name od = some (mA name) :=
  let ⟨od, ho, hl⟩ := lookIn_ns I.ns
  ⟨od, ⟨I.obj, rfl, rfl, ho⟩, hl⟩
section
variable {prog : Program} {w : World} {A : Around} {E : Value → Shared → Prop} {s : Shared} {K : W.Frag} {x dx C f : Addr} {mA : Str → Option Value} {name : Str} {v : Value}
theorem get_map {expr : Bool} {Q : Value → Shared → Prop} (X : K.In s.heap) (I : ObjM s.heap x dx C mA) (hg : W.plainGet K C name = true) (hh : W.hasDictIn K C = true)
    (ha : W.findIn K (.ref C) name = some none) (hv : mA name = some v) (hv' : W.handedIn v = true) (h : Q v { s with toks := s.toks + 1 }) :
    wpAny (model prog w) A (getAttr (.ref x) name expr) Q E s := by
  obtain ⟨od, J, hl⟩ := I.look
  exact W.get_value X J (W.plainGet_of hg).1 (W.findObj_own hh ha rfl (by rw [hl, hv])) hv' h
theorem get_meth {pl : Sem Bool} {Q : Value × List Value → Shared → Prop} (X : K.In s.heap) (I : ObjM s.heap x dx C mA) (hg : W.plainGet K C name = true)
    (hf : W.findIn K (.ref C) name = some (some (.ref f))) (ht : W.isFn K (.ref f) = true) (hv : mA name = none) (h : Q (.ref f, [.ref x]) s) :
    wpAny (model prog w) A (getMethod (.ref x) name pl) Q E s := by
  obtain ⟨od, J, hl⟩ := I.look
  exact W.method_fn X J (W.plainGet_of hg).1 (W.plainGet_of hg).2 hf (beq_iff_eq.mp ht) (by show (W.lookIn name od).map (·.isSome) = some false; rw [hl, hv]; rfl) h
theorem set_map {ns : List Str} {Q : Unit → Shared → Prop} (X : K.In s.heap) (I : ObjM s.heap x dx C mA)
    (hs : W.findIn K (.ref C) "__setattr__" = some (some (.builtin "object.__setattr__"))) (hp : W.plainOver K C = true) (ht : W.takerIn K C name = some none) (hh : W.hasDictIn K C = true)
    (hw : PySem.Within mA ns) (hsz : ns.length ≤ sizeLine)
    (h : ∀ h', ObjM h' x dx C (fun y => if y = name then some v else mA y) → Heap.SameBut dx s.heap h' → Q () { s with heap := h', toks := s.toks + 2 }) :
    wpAny (model prog w) A (setAttr (.ref x) name v) Q E s := by
  obtain ⟨od, J, hl⟩ := I.look
  refine W.set_plain X J hs (W.osa_open (s := { s with toks := s.toks + 1 }) (r := none) X J hp ht fun b => ?_)
  obtain ⟨cd, hc, hd'⟩ := W.any_some hh
  have hx : s.heap.get? x = some ⟨.ref C, some dx, .plain, #[]⟩ := I.obj
  refine wpAny_bind (wpAny_pure (wpAny_bind (wpAny_bind (wpAny_loadPart hx (wpAny_bind (W.Looks.here (s := { s with toks := s.toks + 1 }) (W.looks_clsIn X hc) ?_))))))
  rw [hd']
  refine wpAny_pure (a := some dx) (wpAny_bind (wpAny_pure (wpAny_bind ?_)))
  refine wpAny_nsSet1 (s := { s with toks := s.toks + 1 }) I.ns fun h' hn2 hs2 => ?_
  obtain ⟨oD, esD, epD, hoD, hdD, hcD⟩ := hn2.count (PySem.Within.cons name v hw)
  refine wpAny_bind (wpAny_lookBehind hoD (by rw [hdD]; exact pastItsLine_dict (Nat.le_trans hcD (by rw [List.length_cons]; omega))) ?_)
  exact wpAny_pure (h _ ⟨(hs2.2 _ (Ne.symm I.ne)).trans I.obj, hn2, I.ne⟩ hs2)
theorem make_map {R : Result → Shared → Prop} {vs : List Value} {kw : List (Str × Value)} (X : K.In s.heap) (hm : W.makesIn K C = true)
    (hi : W.findIn K (.ref C) "__init__" = some (some (.ref f))) (hf : W.typeIn K (.ref f) = some (.type "function"))
    (h : codeAny (model prog w) (A.under (.builtin "type.__call__" ⟨.ref C :: vs, kw⟩)) (.call (.ref f) ⟨.ref (s.heap.objs.size + 1) :: vs, kw⟩) (W.InitBack (s.heap.objs.size + 1) R)
      { s with heap := (s.heap.push W.emptyDict).push (W.instObj C s.heap.objs.size) }) :
    codeAny (model prog w) A (.call (.ref C) ⟨vs, kw⟩) R s := by
  obtain ⟨hh, g, d, t, os⟩ := s
  exact W.make_core (W.makes_of X hm) (W.looks_findIn X hi) (fun self => W.bind_fn X self hf) (.inl rfl) h
end
def putF (f : Str) (v : V) : List (Str × V) → List (Str × V)
  | [] => [(f, v)]
  | (g, x) :: r => if g = f then (g, v) :: r else (g, x) :: putF f v r
theorem lookup_putF (f g : Str) (v : V) : ∀ fs : List (Str × V), (putF f v fs).lookup g = if g = f then some v else fs.lookup g
  | [] => by
    show List.lookup g [(f, v)] = _
    by_cases h : g = f
    · have hb : (g == f) = true := beq_iff_eq.mpr h
      simp only [List.lookup, hb, if_pos h]
    · have hb : (g == f) = false := beq_eq_false_iff_ne.mpr h
      simp only [List.lookup, hb, if_neg h]
  | (k, x) :: r => by
    have ih := lookup_putF f g v r
    rw [show putF f v ((k, x) :: r) = (if k = f then (k, v) :: r else (k, x) :: putF f v r) from rfl]
    by_cases hk : k = f
    · rw [if_pos hk]
      by_cases h : g = k
      · have hb : (g == k) = true := beq_iff_eq.mpr h
        simp only [List.lookup, hb, if_pos (h.trans hk)]
      · have hb : (g == k) = false := beq_eq_false_iff_ne.mpr h
        simp only [List.lookup, hb, if_neg (fun e : g = f => h (e.trans hk.symm))]
    · rw [if_neg hk]
      by_cases h : g = k
      · have hb : (g == k) = true := beq_iff_eq.mpr h
        simp only [List.lookup, hb, if_neg (fun e : g = f => hk (h.symm.trans e))]
      · have hb : (g == k) = false := beq_eq_false_iff_ne.mpr h
        simp only [List.lookup, hb]
        exact ih
theorem keys_putF (f : Str) (v : V) : ∀ fs : List (Str × V), f ∈ (putF f v fs).map (·.1) ∧ ∀ g, g ∈ fs.map (·.1) → g ∈ (putF f v fs).map (·.1)
  | [] => ⟨by simp [putF], fun g h => by simp at h⟩
  | (k, x) :: r => by
    obtain ⟨i1, i2⟩ := keys_putF f v r
    rw [show putF f v ((k, x) :: r) = (if k = f then (k, v) :: r else (k, x) :: putF f v r) from rfl]
    by_cases hk : k = f
    · rw [if_pos hk]
      subst hk
      exact ⟨by simp, fun g h => by simpa using h⟩
    · rw [if_neg hk]
      refine ⟨?_, fun g h => ?_⟩
      · rw [List.map_cons]
        exact List.mem_cons_of_mem _ i1
      · rw [List.map_cons] at h ⊢
        rcases List.mem_cons.mp h with e | e
        · exact List.mem_cons.mpr (.inl e)
        · exact List.mem_cons_of_mem _ (i2 g e)
theorem length_putF (f : Str) (v : V) : ∀ fs : List (Str × V), (putF f v fs).length ≤ fs.length + 1
  | [] => by simp [putF]
  | (k, x) :: r => by
    have ih := length_putF f v r
    rw [show putF f v ((k, x) :: r) = (if k = f then (k, v) :: r else (k, x) :: putF f v r) from rfl]
    by_cases hk : k = f
    · rw [if_pos hk, List.length_cons, List.length_cons]; omega
    · rw [if_neg hk, List.length_cons, List.length_cons]; omega
theorem RelO.some_of {v : V} {o : Option Value} (r : RelO (some v) o) : ∃ u, o = some u ∧ RelV v u := by
  cases o with
  | none => exact (show False from r).elim
  | some u => exact ⟨u, rfl, r⟩
theorem RelO.none_of {o : Option Value} (r : RelO none o) : o = none := by
  cases o with
  | none => rfl
  | some u => exact (show False from r).elim
theorem handed_of {v : V} {u : Value} (r : RelV v u) : W.handedIn u = true := by
  cases v with
  | non => cases (show u = Value.none from r); rfl
  | bl b => cases (show u = Value.bool b from r); rfl
  | int i => obtain ⟨t, e⟩ := (show ∃ t, u = Value.int i t from r); cases e; rfl
  | str x => obtain ⟨t, e⟩ := (show ∃ t, u = Value.str x t from r); cases e; rfl
  | byt b => obtain ⟨t, e⟩ := (show ∃ t, u = Value.bytes b t from r); cases e; rfl
  | flt b => obtain ⟨t, e⟩ := (show ∃ t, u = Value.float b t from r); cases e; rfl
  | ref a => cases (show u = Value.ref a from r); rfl
  | ty n => cases (show u = Value.type n from r); rfl
section
variable {P : Program} {w : World} {H H' : Hp} {h h' : Heap} {a C dx : Addr} {fs fs' : List (Str × V)}
theorem ins_get (hok : HOk P w H h) (e : H a = some (.ins C dx fs)) : ∃ mA, ObjM h a dx C mA ∧ (∀ f, RelO (fs.lookup f) (mA f)) ∧ PySem.Within mA (fs.map (·.1)) ∧ fs.length ≤ 1000 ∧ H dx = some (.own a) := by
  obtain ⟨d, z, ne, ob, mA, n, r, q⟩ := (show ObjOk P w H h a (.ins C dx fs) from hok a _ e)
  exact ⟨mA, ⟨ob, n, ne⟩, r, q, z, d⟩
end
structure Cls (K : W.Frag) (C : Addr) : Prop where
  pg : W.plainGet K C Str.empty = true
  hd : W.hasDictIn K C = true
  po : W.plainOver K C = true
  sa : W.findIn K (.ref C) "__setattr__" = some (some (.builtin "object.__setattr__"))
theorem Cls.get {K : W.Frag} {C : Addr} (c : Cls K C) (f : Str) : W.plainGet K C f = true := c.pg
def NoAttr (K : W.Frag) (C : Addr) (f : Str) : Prop := W.findIn K (.ref C) f = some none
theorem NoAttr.taker {K : W.Frag} {C : Addr} {f : Str} (n : NoAttr K C f) : W.takerIn K C f = some none := by
  unfold W.takerIn
  rw [show W.findIn K (.ref C) f = some none from n]
  rfl
structure Meth (K : W.Frag) (C : Addr) (m : Str) (f : Addr) : Prop where
  at_ : W.findIn K (.ref C) m = some (some (.ref f))
  fn : W.isFn K (.ref f) = true
  kp : W.keepIn K (.ref f) = true
section
variable {X : Cx} {pins : List (Addr × Obj)} {σ : St} {H : Hp} {s : Shared} {a C dx : Addr} {fs : List (Str × V)} {f : Str} {v : V} {A : Around} {E : Value → Shared → Prop}
theorem getattr_ok {b : Bool} {Q : Value → Shared → Prop} (I : Inv X pins σ H s) (e : H a = some (.ins C dx fs)) (c : Cls X.K C) (n : NoAttr X.K C f) (l : fs.lookup f = some v)
    (h : ∀ u s', Inv X pins σ H s' → RelV v u → Q u s') : wpAny (model X.prog X.w) A (getAttr (.ref a) f b) Q E s := by
  obtain ⟨mA, O, r, _, _, _⟩ := ins_get I.hok e
  obtain ⟨u, hu, ru⟩ := RelO.some_of (v := v) (o := mA f) (by rw [← l]; exact r f)
  exact get_map I.kIn O (c.get f) c.hd n hu (handed_of ru) (h u _ (I.tok _) ru)
theorem getmeth_ok {m : Str} {g : Addr} {pl : Sem Bool} {Q : Value × List Value → Shared → Prop} (I : Inv X pins σ H s) (e : H a = some (.ins C dx fs)) (c : Cls X.K C) (k : Meth X.K C m g) (l : fs.lookup m = none)
    (h : Q (.ref g, [.ref a]) s) : wpAny (model X.prog X.w) A (getMethod (.ref a) m pl) Q E s := by
  obtain ⟨mA, O, r, _, _, _⟩ := ins_get I.hok e
  have hn : mA m = none := RelO.none_of (by rw [← l]; exact r m)
  exact get_meth I.kIn O (c.get m) k.at_ k.fn hn h
theorem setattr_ok {y : V} {u : Value} {Q : Unit → Shared → Prop} (I : Inv X pins σ H s) (e : H a = some (.ins C dx fs)) (c : Cls X.K C) (n : NoAttr X.K C f) (hl : fs.length < 1000) (ry : RelV y u)
    (h : ∀ s', Inv X pins σ (upd H a (.ins C dx (putF f y fs))) s' → Q () s') : wpAny (model X.prog X.w) A (setAttr (.ref a) f u) Q E s := by
  obtain ⟨mA, O, r, wi, _, ho⟩ := ins_get I.hok e
  have hz : (fs.map (·.1)).length ≤ sizeLine := by rw [List.length_map, sizeLine_eq]; omega
  refine set_map I.kIn O c.sa c.po n.taker c.hd wi hz fun h' O' sb => h _ ?_
  have hd : ∃ o, h'.get? dx = some o := let ⟨o, _, _, e', _⟩ := O'.ns; ⟨o, e'⟩
  refine I.write (x := a) (e := dx) (by rw [e]; exact True.intro) (.inr ho) (fun b q hb z => (sb.2 b hb).trans z) hd ?_
  refine ⟨by rw [upd_ne O.ne]; exact ho, ?_, O.ne, O'.obj, _, O'.ns, fun g => ?_, fun g hg => ?_⟩
  · have := length_putF f y fs; omega
  · show RelO ((putF f y fs).lookup g) (if g = f then some u else mA g)
    rw [lookup_putF]
    by_cases q : g = f
    · rw [if_pos q, if_pos q]; exact ry
    · rw [if_neg q, if_neg q]; exact r g
  · by_cases q : g = f
    · rw [q]; exact (keys_putF f y fs).1
    · refine (keys_putF f y fs).2 g (wi g fun z => hg ?_)
      show (if g = f then some u else mA g) = none
      rw [if_neg q]; exact z
theorem Inv.made (I : Inv X pins σ H s) : Inv X pins σ (upd (upd H s.heap.objs.size (.own (s.heap.objs.size + 1))) (s.heap.objs.size + 1) (.ins C s.heap.objs.size []))
    { s with heap := (s.heap.push W.emptyDict).push (W.instObj C s.heap.objs.size) } := by
  have e1 : (s.heap.push W.emptyDict).get? s.heap.objs.size = some W.emptyDict := Heap.get?_push_size s.heap rfl
  have e2 : ((s.heap.push W.emptyDict).push (W.instObj C s.heap.objs.size)).get? (s.heap.objs.size + 1) = some (W.instObj C s.heap.objs.size) := by
    have := Heap.get?_push_size (s.heap.push W.emptyDict) (o := W.instObj C s.heap.objs.size) rfl
    rwa [Heap.size_push] at this
  have e3 : (s.heap.push W.emptyDict).Ns s.heap.objs.size (fun _ => none) := ⟨W.emptyDict, #[], _, e1, rfl, (fun e he => absurd he (by simp)), fun _ => rfl⟩
  have I1 := I.laid (a := s.heap.objs.size) (o := .own (s.heap.objs.size + 1)) (h' := s.heap.push W.emptyDict) (t' := s.toks) (fun b u q => Heap.get?_push_of_some _ q) (Nat.le_refl _) ⟨_, e1⟩
  refine I1.laid (a := s.heap.objs.size + 1) (o := .ins C s.heap.objs.size []) (t' := s.toks) (fun b u q => Heap.get?_push_of_some _ q) (Nat.le_of_eq (Heap.size_push _ _)) ?_
  have ne : s.heap.objs.size ≠ s.heap.objs.size + 1 := Nat.ne_of_lt (Nat.lt_succ_self _)
  refine ⟨by rw [upd_ne ne, upd_same], Nat.zero_le _, ne, e2, fun _ => none, (Heap.Ns1.of_empty e3).at fun o q => Heap.get?_push_of_some _ q, fun _ => True.intro, fun y hy => absurd rfl hy⟩
theorem attr_of {prog : Program} {w : World} {env : Env} {e : Expr} {f : Str} {pos : Pos} {s : Shared} {Q : Value → Shared → Prop} (hb : attributeBase e f env (eval e env) = eval e env)
    (h : wpAny (model prog w) A (eval e env) (fun o s₁ => wpAny (model prog w) A (getAttr o f true) Q E s₁) E s) : wpAny (model prog w) A (eval (.Attribute e f pos) env) Q E s :=
  Attribute_any_ h (by rw [arm_eval_Attribute, hb])
end
section
variable {X : Cx} {o e value : Expr} {f : Str} {pos pos' tpos : Pos} {ta tv : TE}
end
section
variable {X : Cx} {pins : List (Addr × Obj)} {σ : St} {H : Hp} {s : Shared} {A : Around} {E : Value → Shared → Prop} {Q : Value → Shared → Prop} {c : Value} {b : Bool}
inductive TyOf (K : W.Frag) (H : Hp) : V → Value → Prop where
  | non : TyOf K H .non (.type "NoneType")
  | bl (x : Bool) : TyOf K H (.bl x) (.type "bool")
  | int (i : Int) : TyOf K H (.int i) (.type "int")
  | str (x : Str) : TyOf K H (.str x) (.type "str")
  | flt (x : UInt64) : TyOf K H (.flt x) (.type "float")
  | lst {a : Addr} {xs : List V} (e : H a = some (.lst xs)) : TyOf K H (.ref a) (.type "list")
  | frz {a : Addr} {o : Obj} {xs : List V} (e : H a = some (.frz o (.lst xs))) : TyOf K H (.ref a) (.type "list")
  | tup {a : Addr} {xs : List V} (e : H a = some (.tup xs)) : TyOf K H (.ref a) (.type "tuple")
  | dK {a : Addr} {kvs : List (Key × V)} (e : H a = some (.dK kvs)) : TyOf K H (.ref a) (.type "dict")
  | dT {a : Addr} {kvs : List (List Key × V)} (e : H a = some (.dT kvs)) : TyOf K H (.ref a) (.type "dict")
  | ins {a C dx : Addr} {fs : List (Str × V)} (e : H a = some (.ins C dx fs)) (cl : Cls K C) (ha : W.findIn K (.ref C) "__class__" = some (some (.builtin "object.__class__")))
      (hn : W.specialIn K (.builtin "object.__class__") "__get__" = some (some (.builtin "getset_descriptor.__get__"))) (htk : W.takesIn K (.builtin "object.__class__") = some true)
      (hm : W.mroIn K C (.type "object") = some true) : TyOf K H (.ref a) (.ref C)
theorem isinst_ok {x : V} {u t : Value} (I : Inv X pins σ H s) (rx : RelV x u) (ty : TyOf X.K H x t) (e : W.kitOne X.K t c = some b) (h : ∀ tk, Q (.bool b) { s with toks := tk }) :
    wpAny (model X.prog X.w) A (call (.builtin "isinstance") [u, c]) Q E s := by
  cases ty with
  | non => cases (show u = Value.none from rx); exact W.kia_one W.kitx_none I.kIn True.intro e (fun z => nomatch z) h
  | bl y => cases (show u = Value.bool y from rx); exact W.kia_one W.kitx_bool I.kIn True.intro e (fun z => nomatch z) h
  | int i => obtain ⟨t, q⟩ := (show ∃ t, u = Value.int i t from rx); cases q; exact W.kia_one W.kitx_int I.kIn True.intro e (fun z => nomatch z) h
  | str y => obtain ⟨t, q⟩ := (show ∃ t, u = Value.str y t from rx); cases q; exact W.kia_one W.kitx_str I.kIn True.intro e (fun z => nomatch z) h
  | flt y => obtain ⟨t, q⟩ := (show ∃ t, u = Value.float y t from rx); cases q; exact W.kia_one W.kitx_float I.kIn True.intro e (fun z => nomatch z) h
  | @lst a xs ea =>
    cases (show u = Value.ref a from rx)
    obtain ⟨_, _, n, _, h1⟩ := (show ObjOk X.prog X.w H s.heap a (.lst xs) from I.hok a _ ea)
    exact W.kia_one W.kitx_list I.kIn ⟨_, h1, rfl⟩ e (fun z => nomatch z) h
  | @frz a ob xs ea =>
    cases (show u = Value.ref a from rx)
    obtain ⟨_, _, _, n, _, h1⟩ := (show ObjOk X.prog X.w H s.heap a (.frz ob (.lst xs)) from I.hok a _ ea)
    exact W.kia_one W.kitx_list I.kIn ⟨_, h1, rfl⟩ e (fun z => nomatch z) h
  | @tup a xs ea =>
    cases (show u = Value.ref a from rx)
    obtain ⟨_, _, _, p⟩ := (show ObjOk X.prog X.w H s.heap a (.tup xs) from I.hok a _ ea)
    obtain ⟨o, h1, h2, _⟩ := p
    exact W.kia_one W.kitx_tuple I.kIn ⟨o, h1, h2⟩ e (fun z => nomatch z) h
  | @dK a kvs ea =>
    cases (show u = Value.ref a from rx)
    obtain ⟨_, _, vs, _, p⟩ := (show ObjOk X.prog X.w H s.heap a (.dK kvs) from I.hok a _ ea)
    obtain ⟨o, es, ep, h1, h2, _⟩ := p
    exact W.kia_one W.kitx_dict I.kIn ⟨o, h1, h2.1⟩ e (fun z => nomatch z) h
  | @dT a kvs ea =>
    cases (show u = Value.ref a from rx)
    obtain ⟨_, _, xs, _, o, es, ep, h1, h2, _⟩ := (show ObjOk X.prog X.w H s.heap a (.dT kvs) from I.hok a _ ea)
    exact W.kia_one W.kitx_dict I.kIn ⟨o, h1, h2.1⟩ e (fun z => nomatch z) h
  | @ins a C dx fs ea cl ha hn htk hm =>
    cases (show u = Value.ref a from rx)
    obtain ⟨mA, O, _⟩ := ins_get I.hok ea
    obtain ⟨od, J, _⟩ := O.look
    exact W.kia_one (W.kitx_own (cl.get _) cl.hd ha hn htk hm) I.kIn J e (fun z => nomatch z) h
end
end L2
namespace L2
open PySem PySem.Spec PyProof.Rows
structure Room (k : Nat) (A : Around) : Prop where
  hd : A.handled = none
  dp : A.depth + 3 * k + 5 < recursionLimit
  un : A.units + 16 * k + 200 < cLine
theorem Room.mono {j k : Nat} {A : Around} (r : Room k A) (h : j ≤ k) : Room j A := ⟨r.hd, by have := r.dp; omega, by have := r.un; omega⟩
theorem Room.deeper {k : Nat} {A : Around} (r : Room (k + 1) A) (env : Env) : Room k (A.deeper env) :=
  ⟨r.hd, by have := r.dp; show A.depth + 1 + 3 * k + 5 < _; omega, by have := r.un; show A.units + 3 + 16 * k + 200 < _; omega⟩
theorem make_depth {A : Around} {C : Addr} {us : List Value} {kw : List (Str × Value)} : (A.under (.builtin "type.__call__" ⟨.ref C :: us, kw⟩)).depth = A.depth + 1 := by
  first | rfl | simp [Around.under, Code.weight, Code.isCreation, Code.isGuard, Code.isCaller, Code.frames, Code.isFrame, guardIds]
theorem make_units {A : Around} {C : Addr} {us : List Value} {kw : List (Str × Value)} : (A.under (.builtin "type.__call__" ⟨.ref C :: us, kw⟩)).units = A.units + 1 := by
  first | rfl | simp [Around.under, Code.cUnits, Code.frames, Code.isFrame]
theorem Room.make {k : Nat} {A : Around} (r : Room (k + 1) A) (C : Addr) (us : List Value) (kw : List (Str × Value)) : Room k (A.under (.builtin "type.__call__" ⟨.ref C :: us, kw⟩)) :=
  ⟨r.hd, by have := r.dp; rw [make_depth]; omega, by have := r.un; rw [make_units]; omega⟩
theorem Room.depth {k : Nat} {A : Around} (r : Room k A) : A.depth < recursionLimit := by have := r.dp; omega
theorem Room.units {k : Nat} {A : Around} (r : Room k A) : A.units + 64 < cLine := by have := r.un; omega
def tNil : TA := fun _ H Q => Q [] H
def tCons (ta : TE) (tr : TA) : TA := fun σ H Q => ta σ H fun x H1 => tr σ H1 fun xs H2 => Q (x :: xs) H2
section
variable {X : Cx} {e : Expr} {es : List Expr} {te : TE} {t : TA} {pos : Pos}
theorem pa_nil : PA X [] tNil := fun _ _ _ _ H Q I h => Calls.spliced_nil ⟨[], H, I, .nil, h⟩
theorem pa_cons (ha : PE X e te) (hr : PA X es t) (hs : starEach (e :: es) X.env = (false, eval e X.env) :: starEach es X.env := by rfl) : PA X (e :: es) (tCons te t) := by
  intro pos pins s σ H Q I h
  rw [hs]
  show wpAny _ _ (spliced ((false, eval e X.env) :: backTo pos (starEach es X.env))) _ _ s
  refine Calls.spliced_cons (thn (ha pins s σ H _ I h) fun u s1 ⟨x, H1, I1, r1, q1⟩ => ?_)
  exact thn (hr pos pins s1 σ H1 _ I1 q1) fun us s2 ⟨xs, H2, I2, r2, q2⟩ => ⟨x :: xs, H2, I2, .cons r1 r2, q2⟩
def tLst (t : TA) : TE := fun σ H Q => t σ H fun xs H1 => xs.length ≤ sizeLine ∧ ∀ p, H1 p = none → Q (.ref p) (upd H1 p (.lst xs))
theorem pe_lst (h : PA X es t) : PE X (.List es pos) (tLst t) := by
  intro pins s σ H Q I hq
  refine wpAny_List_spliced (thn (h pos pins s σ H _ I hq) fun us s1 ⟨xs, H1, I1, r, z, q⟩ => ⟨by rw [← r.length]; exact z, ?_⟩)
  have hf : H1 s1.heap.objs.size = none := I1.hok.fresh (Nat.le_refl _)
  refine ⟨.ref s1.heap.objs.size, upd H1 s1.heap.objs.size (.lst xs), I1.laid (t' := s1.toks) (fun b u e => Heap.get?_push_of_some _ e) (Nat.le_refl _) ?_, rfl, q _ hf⟩
  exact ⟨z, us, 0, r, Heap.get?_push_size _ rfl⟩
end
abbrev Sp := List V → Hp → VK → XK → Prop
abbrev CXT := List Env → Hp → Shared → XK → Value → Shared → Prop
structure Env0 (P : Program) (w : World) (K : W.Frag) (mg : Str → Option Value) (base : Heap) (A : Around) (outer : List Env) (s : Shared) (H : Hp) : Prop where
  frames : A.frames = some outer
  mod : Mod K mg base
  bs : ∀ b o, base.get? b = some o → s.heap.get? b = some o ∧ H b = none
  bsz : base.objs.size ≤ s.heap.objs.size
  funs : s.heap.FunFrames base outer
  frf : ∀ b ∈ frs outer, H b = none
  hok : HOk P w H s.heap
  bare : AllBare s.gens
def CE (outer : List Env) (P : Program) (w : World) (H : Hp) (s : Shared) (Q : VK) (u : Value) (s' : Shared) : Prop :=
  ∃ v H', s'.os = s.os ∧ AllBare s'.gens ∧ Un (frs outer) [] H H' s.heap s'.heap ∧ HOk P w H' s'.heap ∧ RelV v u ∧ Q v H'
def CR (CX : CXT) (outer : List Env) (P : Program) (w : World) (H : Hp) (s : Shared) (Q : VK) (E : XK) (r : Result) (s' : Shared) : Prop :=
  match r with
  | .ok (.ret u) => CE outer P w H s Q u s'
  | .ok _ => False
  | .error e => CX outer H s E e s'
structure FnOk (P : Program) (w : World) (K : W.Frag) (mg : Str → Option Value) (base : Heap) (CX : CXT) (k : Nat) (f : Addr) (fd : FuncData) (ps : List Str) (sp : Sp) : Prop where
  len : ∀ vs H Q E, sp vs H Q E → vs.length = ps.length
  run : ∀ (A : Around) (outer : List Env) (s : Shared) (H : Hp) (args : Args) (us : List Value) (vs : List V) (Q : VK) (E : XK), Room k A → Env0 P w K mg base A outer s H → BindsTo s fd args (ps.zip us) → Vals vs us → sp vs H Q E →
    codeAny (model P w) A (.call (.ref f) args) (CR CX outer P w H s Q E) s
theorem Env0.make {P : Program} {w : World} {K : W.Frag} {mg : Str → Option Value} {base : Heap} {A : Around} {outer : List Env} {s : Shared} {H : Hp} (e : Env0 P w K mg base A outer s H) (C : Addr) (us : List Value) (kw : List (Str × Value)) :
    Env0 P w K mg base (A.under (.builtin "type.__call__" ⟨.ref C :: us, kw⟩)) outer s H := ⟨by first | exact e.frames | (simpa [Around.under, Code.envs, Code.isFrame, pushEnvs] using e.frames), e.mod, e.bs, e.bsz, e.funs, e.frf, e.hok, e.bare⟩
section
variable {X : Cx} {pins : List (Addr × Obj)} {σ : St} {H : Hp} {s s' : Shared}
theorem Inv.env0 (I : Inv X pins σ H s) : Env0 X.prog X.w X.K X.mg X.base X.A X.stack s H :=
  ⟨I.ok.frames, I.ok.mod, I.bs, Nat.le_trans I.ok.bsz I.sz, I.stack, I.stkFree, I.hok, I.bare⟩
theorem Inv.after {Q : VK} {u : Value} (I : Inv X pins σ H s) (h : CE X.stack X.prog X.w H s Q u s') : EP X pins σ Q u s' := by
  obtain ⟨v, H', os, bare, un, hok, r, q⟩ := h
  obtain ⟨hh, g, d, t, os'⟩ := s'
  obtain rfl : os' = s.os := os
  exact ⟨v, H', I.call (h' := hh) (g' := g) (d' := d) (t' := t) (ch := []) un hok bare (fun b z => absurd z (by simp)), r, q⟩
end
def tCall (sp : Sp) (dvs : List V) (E : XK) (t : TA) : TE := fun σ H Q => t σ H fun vs H1 => sp (vs ++ dvs) H1 Q E
def tMake (C : Addr) (sp : Sp) (dvs : List V) (E : XK) (t : TA) : TE := fun σ H Q => t σ H fun vs H1 => ∀ x dx, H1 x = none → H1 dx = none → dx ≠ x →
  sp (.ref x :: (vs ++ dvs)) (upd (upd H1 dx (.own x)) x (.ins C dx [])) (fun v H2 => v = .non ∧ Q (.ref x) H2) E
def Binds (K : W.Frag) (fd : FuncData) (ps : List Str) (ds : List Value) : Prop :=
  ∀ (s : Shared) (us : List Value), K.In s.heap → (us ++ ds).length = ps.length → BindsTo s fd ⟨us, []⟩ (ps.zip (us ++ ds))
theorem Binds.all {K : W.Frag} {fd : FuncData} {ps : List Str} (h : ∀ us : List Value, us.length = ps.length → bindArgs fd ⟨us, []⟩ = pure (ps.zip us)) : Binds K fd ps [] := fun s us _ hl => by
  rw [List.append_nil] at hl ⊢
  exact .of_eq (h us hl)
def Passes (CX : CXT) (X : Cx) (E : XK) : Prop := ∀ (pins : List (Addr × Obj)) (σ : St) (H : Hp) (s : Shared) (e : Value) (s' : Shared), Inv X pins σ H s → CX X.stack H s E e s' → X.xe e s'
section
variable {X : Cx} {CX : CXT} {k : Nat} {f C : Addr} {fd : FuncData} {ps : List Str} {sp : Sp} {dvs : List V} {ds : List Value} {E : XK} {x m : Str} {p pos apos : Pos} {e o : Expr} {es : List Expr} {ta : TE} {t : TA}
theorem run_fn {pins : List (Addr × Obj)} {σ : St} {H : Hp} {s : Shared} {Q : VK} {us : List Value} {vs : List V} (F : FnOk X.prog X.w X.K X.mg X.base CX k f fd ps sp) (hr : Room k X.A) (hb : Binds X.K fd ps ds) (hd : Vals dvs ds) (hx : Passes CX X E)
    (I : Inv X pins σ H s) (r : Vals vs us) (h : sp (vs ++ dvs) H Q E) : wpAny (model X.prog X.w) X.A (call (.ref f) us) (EP X pins σ Q) X.xe s := by
  have r2 : Vals (vs ++ dvs) (us ++ ds) := r.append hd
  have hl : (us ++ ds).length = ps.length := by rw [← r2.length]; exact F.len _ _ _ _ h
  refine wpAny_call (codeAny_mono (F.run X.A X.stack s H ⟨us, []⟩ (us ++ ds) (vs ++ dvs) Q E hr I.env0 (hb s us I.kIn hl) r2 h) fun r s' hq => ?_)
  cases r with
  | error e => exact hx pins σ H s e s' I hq
  | ok fl =>
    cases fl with
    | ret u => exact I.after hq
    | next => exact False.elim hq
    | brk => exact False.elim hq
    | cont => exact False.elim hq
theorem pe_call (F : FnOk X.prog X.w X.K X.mg X.base CX k f fd ps sp) (hr : Room k X.A) (hg : Gl X x) (hm : X.mg x = some (.ref f)) (hk : W.keepIn X.K (.ref f) = true) (hb : Binds X.K fd ps ds) (hd : Vals dvs ds) (hx : Passes CX X E)
    (ha : PA X (e :: es) t) (hdb : (x == ("__debug__" : Str)) = false := by decide) (he : starEach (e :: es) X.env = (false, eval e X.env) :: starEach es X.env := by rfl) (hpl : (backTo pos (starEach es X.env)).any (·.1) = false := by rfl) :
    PE X (.Call (.Name x p) (e :: es) [] pos) (tCall sp dvs E t) := by
  intro pins s σ H Q I h
  refine wpAny_Call_Name_kw (ld_glob I hg hm ?_ hdb)
  refine W.callWith_K (h₀ := X.base) I.ok.mod.kin hk (thn (ha pos pins s σ H _ I h) fun us s1 ⟨vs, H1, I1, r, q⟩ => ⟨I1.kIn, ?_⟩) he hpl
  exact run_fn F hr hb hd hx I1 r q
structure Mk (K : W.Frag) (C f : Addr) : Prop where
  makes : W.makesIn K C = true
  init : W.findIn K (.ref C) "__init__" = some (some (.ref f))
  fn : W.isFn K (.ref f) = true
  kp : W.keepIn K (.ref C) = true
theorem run_make {pins : List (Addr × Obj)} {σ : St} {H : Hp} {s : Shared} {Q : VK} {us : List Value} {vs : List V} (M : Mk X.K C f) (F : FnOk X.prog X.w X.K X.mg X.base CX k f fd ps sp) (hr : Room (k + 1) X.A) (hb : Binds X.K fd ps ds) (hd : Vals dvs ds)
    (hx : Passes CX X E) (I : Inv X pins σ H s) (r : Vals vs us)
    (h : ∀ x dx, H x = none → H dx = none → dx ≠ x → sp (.ref x :: (vs ++ dvs)) (upd (upd H dx (.own x)) x (.ins C dx [])) (fun v H2 => v = .non ∧ Q (.ref x) H2) E) :
    wpAny (model X.prog X.w) X.A (call (.ref C) us) (EP X pins σ Q) X.xe s := by
  have hq := h (s.heap.objs.size + 1) s.heap.objs.size (I.hok.fresh (Nat.le_succ _)) (I.hok.fresh (Nat.le_refl _)) (Nat.ne_of_lt (Nat.lt_succ_self _))
  have I2 := Inv.made (C := C) I
  have r2 : Vals (V.ref (s.heap.objs.size + 1) :: (vs ++ dvs)) (Value.ref (s.heap.objs.size + 1) :: (us ++ ds)) := .cons rfl (r.append hd)
  have hl : (Value.ref (s.heap.objs.size + 1) :: us ++ ds).length = ps.length := by
    have e := r2.length
    rw [F.len _ _ _ _ hq] at e
    exact e.symm
  refine wpAny_call (make_map (f := f) I.kIn M.makes M.init (beq_iff_eq.mp M.fn) (codeAny_mono (F.run _ X.stack _ _ ⟨Value.ref (s.heap.objs.size + 1) :: us, []⟩ (Value.ref (s.heap.objs.size + 1) :: (us ++ ds)) _ _ E (hr.make C us [])
    (I2.env0.make C us []) (hb _ (Value.ref (s.heap.objs.size + 1) :: us) I2.kIn hl) r2 hq) fun r s' hq' => ?_))
  cases r with
  | error e => exact hx pins σ _ _ e s' I2 hq'
  | ok fl =>
    cases fl with
    | ret u =>
      obtain ⟨v, H', I3, rv, ev, q3⟩ := I2.after hq'
      subst ev
      exact ⟨rv, ⟨V.ref (s.heap.objs.size + 1), H', I3, rfl, q3⟩⟩
    | next => exact False.elim hq'
    | brk => exact False.elim hq'
    | cont => exact False.elim hq'
theorem pe_make (M : Mk X.K C f) (F : FnOk X.prog X.w X.K X.mg X.base CX k f fd ps sp) (hr : Room (k + 1) X.A) (hg : Gl X x) (hm : X.mg x = some (.ref C)) (hb : Binds X.K fd ps ds) (hd : Vals dvs ds) (hx : Passes CX X E)
    (ha : PA X (e :: es) t) (hdb : (x == ("__debug__" : Str)) = false := by decide) (he : starEach (e :: es) X.env = (false, eval e X.env) :: starEach es X.env := by rfl) (hpl : (backTo pos (starEach es X.env)).any (·.1) = false := by rfl) :
    PE X (.Call (.Name x p) (e :: es) [] pos) (tMake C sp dvs E t) := by
  intro pins s σ H Q I h
  refine wpAny_Call_Name_kw (ld_glob I hg hm ?_ hdb)
  refine W.callWith_K (h₀ := X.base) I.ok.mod.kin M.kp (thn (ha pos pins s σ H _ I h) fun us s1 ⟨vs, H1, I1, r, q⟩ => ⟨I1.kIn, ?_⟩) he hpl
  exact run_make M F hr hb hd hx I1 r q
end
section
variable {X : Cx} {CX : CXT} {k : Nat} {f C : Addr} {fd : FuncData} {ps ks : List Str} {sp : Sp} {E : XK} {x m : Str} {p pos apos kpos : Pos} {e o : Expr} {es : List Expr} {kws : List Keyword} {te ta : TE} {t tk : TA} {nm : Option Str}
variable {g : List Value → List Value → List Value} {gV : List V → List V → List V}
end
structure FnScope (N P : List Str) (sc : Scope) : Prop where
  kind : sc.kind = .function
  co : sc.isCoroutine = false
  gen : sc.isGenerator = false
  nd : N.Nodup
  pre : N.take P.length = P
  par : ∀ x ∈ P, sc.names.lookup x = some .local ∨ sc.names.lookup x = some .cell
  nofree : ∀ y ∈ sc.names, y.2 ≠ .free
theorem bindL_out {kindOf : Str → Option NameKind} {x : Str} : ∀ {binds : List (Str × Value)} {m : Str → Option Value}, (∀ v, (x, v) ∉ binds) → bindL kindOf binds m x = m x
  | [], _, _ => rfl
  | (n, v) :: r, m, h => by
    unfold bindL
    rw [bindL_out fun w hw => h w (List.mem_cons_of_mem _ hw)]
    split
    · have : x ≠ n := by rintro rfl; exact h v List.mem_cons_self
      simp [this]
    · rfl
theorem bindC_out {kindOf : Str → Option NameKind} {x : Str} : ∀ {binds : List (Str × Value)} {m : Str → Option Value}, (∀ v, (x, v) ∉ binds) → bindC kindOf binds m x = m x
  | [], _, _ => rfl
  | (n, v) :: r, m, h => by
    unfold bindC
    rw [bindC_out fun w hw => h w (List.mem_cons_of_mem _ hw)]
    split
    · rfl
    · have : x ≠ n := by rintro rfl; exact h v List.mem_cons_self
      simp [this]
theorem bindL_get {kindOf : Str → Option NameKind} {x : Str} {v : Value} : ∀ {P : List Str} {vs : List Value} {i : Nat} {m : Str → Option Value}, P.Nodup → P[i]? = some x → vs[i]? = some v → kindOf x = some .local →
    bindL kindOf (P.zip vs) m x = some v
  | [], _, _, _, _, h, _, _ => by simp at h
  | _ :: _, [], _, _, _, _, h, _ => by simp at h
  | p :: P, w :: vs, 0, m, nd, h1, h2, hk => by
    simp at h1 h2; subst h1; subst h2
    show bindL kindOf ((p, w) :: P.zip vs) m p = _
    unfold bindL
    rw [bindL_out fun v hv => (List.nodup_cons.mp nd).1 (List.of_mem_zip hv).1, if_pos hk]
    simp
  | p :: P, w :: vs, i + 1, m, nd, h1, h2, hk => by
    show bindL kindOf ((p, w) :: P.zip vs) m x = _
    unfold bindL
    exact bindL_get (i := i) (List.nodup_cons.mp nd).2 (by simpa using h1) (by simpa using h2) hk
theorem bindC_get {kindOf : Str → Option NameKind} {x : Str} {v : Value} : ∀ {P : List Str} {vs : List Value} {i : Nat} {m : Str → Option Value}, P.Nodup → P[i]? = some x → vs[i]? = some v → kindOf x ≠ some .local →
    bindC kindOf (P.zip vs) m x = some v
  | [], _, _, _, _, h, _, _ => by simp at h
  | _ :: _, [], _, _, _, _, h, _ => by simp at h
  | p :: P, w :: vs, 0, m, nd, h1, h2, hk => by
    simp at h1 h2; subst h1; subst h2
    show bindC kindOf ((p, w) :: P.zip vs) m p = _
    unfold bindC
    rw [bindC_out fun v hv => (List.nodup_cons.mp nd).1 (List.of_mem_zip hv).1, if_neg hk]
    simp
  | p :: P, w :: vs, i + 1, m, nd, h1, h2, hk => by
    show bindC kindOf ((p, w) :: P.zip vs) m x = _
    unfold bindC
    exact bindC_get (i := i) (List.nodup_cons.mp nd).2 (by simpa using h1) (by simpa using h2) hk
def start (N : List Str) (vs : List V) : St := vs.map some ++ List.replicate (N.length - vs.length) none
def cxOf (CX : CXT) (P : Program) (w : World) (K : W.Frag) (mg : Str → Option Value) (base : Heap) (N : List Str) (qual : Str) (scope : Scope) (f : Addr) (cd : Value) (A : Around) (outer : List Env) (s : Shared) (H : Hp) (E : XK) : Cx where
  prog := P
  w := w
  K := K
  mg := mg
  base := base
  A := A.deeper (envOfC qual scope s.heap.objs.size f cd)
  N := N
  s₀ := s
  H₀ := H
  env := envOfC qual scope s.heap.objs.size f cd
  outer := outer
  stack := envOfC qual scope s.heap.objs.size f cd :: outer
  ex := []
  calm := true
  fn := fun _ => true
  pn := []
  xe := fun e s' => wpAny (model P w) (A.deeper (envOfC qual scope s.heap.objs.size f cd)) (leaving (envOfC qual scope s.heap.objs.size f cd) e) (fun _ s'' => CX outer H s E e s'') (fun e' s'' => CX outer H s E e' s'') s'
theorem cell_has {sc : Scope} {n : Nat} {x : Str} (h : sc.names.lookup x = some .cell) : ∃ c, (cellsFrom n sc.names []).lookup x = some c := by
  have q := W.cellsFrom_some sc.names n [] (.inl h)
  exact Option.isSome_iff_exists.mp q
theorem inv_start {CX : CXT} {P : Program} {w : World} {K : W.Frag} {mg : Str → Option Value} {base : Heap} {N ps : List Str} {qual : Str} {scope : Scope} {f : Addr} {cd : Value} {A : Around} {outer : List Env} {s s1 : Shared} {H : Hp} {E : XK} {us : List Value} {vs : List V}
    (S : FnScope N ps scope) (hd : A.handled = none) (e0 : Env0 P w K mg base A outer s H) (hl : vs.length = ps.length) (r : Vals vs us)
    (x : InCallC s s.heap.objs.size (bindL (envOfC qual scope s.heap.objs.size f cd).kindOf (ps.zip us) fun _ => none) (cellsFrom (s.heap.objs.size + 1) scope.names []) (bindC (envOfC qual scope s.heap.objs.size f cd).kindOf (ps.zip us) fun _ => none) s1) :
    Inv (cxOf CX P w K mg base N qual scope f cd A outer s H E) [] (start N vs) H s1 := by
  have hpl : ps.length ≤ N.length := by have := congrArg List.length S.pre; rw [List.length_take] at this; omega
  obtain ⟨h1, tk, rfl, hk⟩ := x.done
  have noA : ∀ b : Addr, b ∉ (cxOf CX P w K mg base N qual scope f cd A outer s H E).ex := fun b z => absurd (show b ∈ ([] : List Addr) from z) (by simp)
  refine ⟨⟨e0.mod, S.kind, rfl, rfl, Nat.le_refl _, fun y z c h1 h2 => ?_, fun y hy => ?_, fun y c _ h => ?_, fun _ => hd, Around.frames_deeper e0.frames, .inr ⟨rfl, rfl⟩, fun b z => absurd z (noA b), e0.bs, e0.bsz, fun b _ _ => noA b, fun b z => absurd z (noA b), e0.funs, e0.frf⟩,
    rfl, e0.bare, Un.kept hk, ⟨_, x.toInCall.ns, fun i y v h1 h2 h3 => ?_⟩, fun y c h => ⟨_, x.cell y c h⟩, e0.hok.fresh (Nat.le_refl _), fun y c h => ?_, fun p hp => absurd (show p ∈ ([] : List (Addr × Obj)) from hp) (by simp), e0.hok.kept hk, ?_⟩
  · exact name_of_addr x.apart (PySem.mem_of_lookup h1) (PySem.mem_of_lookup h2)
  · have hy : scope.names.lookup y = some .cell ∨ scope.names.lookup y = some .free := hy
    rcases hy with hy | hy
    · exact cell_has hy
    · exact absurd rfl (S.nofree _ (PySem.mem_of_lookup hy))
  · exact Nat.le_of_lt (x.above y c (PySem.mem_of_lookup h))
  · have hi : i < vs.length := by
      unfold start at h2
      by_cases hi : i < vs.length
      · exact hi
      · rw [List.getElem?_append_right (by simpa using hi)] at h2
        rw [List.getElem?_replicate] at h2
        split at h2 <;> cases h2
    have ha : vs[i]? = some v := by
      unfold start at h2
      rw [List.getElem?_append_left (by simpa using hi), List.getElem?_map] at h2
      cases e : vs[i]? with
      | none => rw [e] at h2; cases h2
      | some a => rw [e] at h2; cases h2; rfl
    obtain ⟨u, hu, rv⟩ := r.get ha
    have hp : ps[i]? = some y := by
      rw [← S.pre, List.getElem?_take_of_lt (by omega)]; exact h1
    have ndP : ps.Nodup := by rw [← S.pre]; exact S.nd.sublist (List.take_sublist _ _)
    refine ⟨u, rv, ?_⟩
    rcases S.par y (List.mem_of_getElem? hp) with k | k
    · exact .inl ⟨k, bindL_get ndP hp hu k⟩
    · obtain ⟨c, e⟩ := cell_has (n := s.heap.objs.size + 1) k
      refine .inr ⟨.inl k, c, e, ?_⟩
      have q := x.cell y c e
      rw [bindC_get ndP hp hu (by show scope.names.lookup y ≠ _; rw [k]; decide)] at q
      exact q
  · exact e0.hok.fresh (Nat.le_of_lt (x.above y c (PySem.mem_of_lookup h)))
  · unfold start
    show _ = N.length
    rw [List.length_append, List.length_map, List.length_replicate]
    omega
theorem fn_of {CX : CXT} {P : Program} {w : World} {K : W.Frag} {mg : Str → Option Value} {base : Heap} {k : Nat} {f : Addr} {name qual : Str} {params : Arguments} {body : List Stmt} {scope : Scope} {dV kV doc pm cdv ct oc : Value} {an od : Option Addr}
    {osl : Array (Option Value)} {N ps : List Str} {sp : Sp} (lk : K.lookup f = some ⟨oc, od, .func (W.fnOf name qual params body scope dV kV doc pm an cdv ct), osl⟩) (hcd : W.codeIn K cdv qual = true) (S : FnScope N ps scope)
    (len : ∀ vs H Q E, sp vs H Q E → vs.length = ps.length)
    (hbody : ∀ (A : Around) (outer : List Env) (s : Shared) (H : Hp) (vs : List V) (Q : VK) (E : XK), Room k (A.deeper (envOfC qual scope s.heap.objs.size f cdv)) → sp vs H Q E →
      ∃ t, PSs (cxOf CX P w K mg base N qual scope f cdv A outer s H E) body t ∧ t { nx := fun _ H' => Q .non H', rt := Q } (start N vs) H) :
    FnOk P w K mg base CX (k + 1) f (W.fnOf name qual params body scope dV kV doc pm an cdv ct) ps sp := by
  refine ⟨len, fun A outer s H args us vs Q E hr e0 hb r hsp => ?_⟩
  have hl := len _ _ _ _ hsp
  have KX : K.In s.heap := e0.mod.kin.keeps fun b o e => (e0.bs b o e).1
  have lim : s.heap.NoLimit := e0.mod.nolimit.keeps fun b o e => (e0.bs b o e).1
  have hkind : ∀ y ∈ ps.zip us, scope.names.lookup y.1 = some .local ∨ (scope.names.lookup y.1 = some .cell ∧ ((cellsFrom (s.heap.objs.size + 1) scope.names []).lookup y.1).isSome = true) := fun ⟨n, v⟩ hy => by
    rcases S.par n (List.of_mem_zip hy).1 with q | q
    · exact .inl q
    · exact .inr ⟨q, W.cellsFrom_some _ _ _ (.inl q)⟩
  refine codeAny_call_function hr.depth (KX _ _ lk) rfl S.co S.gen rfl (W.codeRec_of KX hcd) (hb _ _ _ _ ?_)
  refine wpAny_newFunctionEnv_cells S.kind hkind fun env he s1 x => ?_
  subst he
  refine ⟨lim.keeps x.toInCall.keep, codeAny_func ?_⟩
  obtain ⟨t, ht, hq⟩ := hbody A outer s H vs Q E (hr.deeper _) hsp
  have I : Inv (cxOf CX P w K mg base N qual scope f cdv A outer s H E) [] (start N vs) H s1 := inv_start S hr.hd e0 hl r x
  refine wpAny_mono (ht [] s1 (start N vs) H _ I hq) (fun fl s' hs => ?_) fun e s' hs => hs
  have fin : ∀ {σ' : St} {H' : Hp} {v : V} {u : Value}, Inv (cxOf CX P w K mg base N qual scope f cdv A outer s H E) [] σ' H' s' → RelV v u → Q v H' → CE outer P w H s Q u s' :=
    fun {σ' H' v u} J rv q => ⟨v, H', J.os, J.bare, J.base, J.hok, rv, q⟩
  cases fl with
  | ret u =>
    obtain ⟨v, σ', H', J, rv, q⟩ := hs
    exact fin J rv q
  | next =>
    obtain ⟨σ', H', J, q⟩ := hs
    exact fin (v := V.non) (u := Value.none) J rfl q
  | brk =>
    obtain ⟨_, _, _, q⟩ := hs
    exact False.elim q
  | cont =>
    obtain ⟨_, _, _, q⟩ := hs
    exact False.elim q
end L2
namespace L2
open PySem PySem.Spec PyProof.Rows
section
variable {X : Cx} {x : Str} {p pos : Pos} {e : Expr} {es : List Expr} {t : TA} {id T : String} {r : List V → Hp → VK → Prop}
def tCB (r : List V → Hp → VK → Prop) (t : TA) : TE := fun σ H Q => t σ H fun vs H1 => r vs H1 Q
theorem pe_callB (hc : CallR X (.builtin id) r) (hg : Gl X x) (hm : X.mg x = none) (hv : bootBuiltins x = some (.builtin id)) (ha : PA X (e :: es) t) (hn : x ≠ "__name__" := by decide) (hdb : (x == ("__debug__" : Str)) = false := by decide)
    (he : starEach (e :: es) X.env = (false, eval e X.env) :: starEach es X.env := by rfl) (hpl : (backTo pos (starEach es X.env)).any (·.1) = false := by rfl) : PE X (.Call (.Name x p) (e :: es) [] pos) (tCB r t) := by
  intro pins s σ H Q I h
  refine wpAny_Call_Name_kw (ld_blt I hg hm hv ?_ hn hdb)
  exact PyProof.Rows.callWith_builtin1 (thn (ha pos pins s σ H _ I h) fun us s1 ⟨vs, H1, I1, r1, q1⟩ => hc pins s1 σ H1 vs us Q I1 r1 q1) he hpl
theorem pe_callTy (hc : CallR X (.type T) r) (hg : Gl X x) (hm : X.mg x = none) (hv : bootBuiltins x = some (.type T)) (ha : PA X (e :: es) t) (hn : x ≠ "__name__" := by decide) (hdb : (x == ("__debug__" : Str)) = false := by decide)
    (he : starEach (e :: es) X.env = (false, eval e X.env) :: starEach es X.env := by rfl) (hpl : (backTo pos (starEach es X.env)).any (·.1) = false := by rfl) : PE X (.Call (.Name x p) (e :: es) [] pos) (tCB r t) := by
  intro pins s σ H Q I h
  refine wpAny_Call_Name_kw (ld_blt I hg hm hv ?_ hn hdb)
  exact PyProof.Rows.callWith_type1 (thn (ha pos pins s σ H _ I h) fun us s1 ⟨vs, H1, I1, r1, q1⟩ => hc pins s1 σ H1 vs us Q I1 r1 q1) he hpl
end
end L2
namespace HT
open PySem PyProof.Rows
section
open PySem.SeqAt
open PySem.AutoSeq1 (wpAny_loadPart')
open PySem.MeetsSeq PySem.MeetsSeq2 PySem.MeetsSeq3
end
section
variable {prog : Program} {w : World} {A : Around} {E : Value → Shared → Prop} {s : Shared}
theorem cat_tup {t b : Addr} {vs ws : List Value} {Q : Value → Shared → Prop} (ht : IsTup s.heap t vs.toArray) (hb : IsTup s.heap b ws.toArray) (hv : vs ≠ [])
    (h1 : ws = [] → Q (.ref t) s) (h2 : ws ≠ [] → Q (.ref s.heap.objs.size) { s with heap := s.heap.push { cls := .type "tuple", data := .seq (vs ++ ws).toArray } })
    (hsz : vs.length + ws.length ≤ sizeLine) : wpAny (model prog w) A (binaryOp .Add (.ref t) (.ref b)) Q E s := by
  obtain ⟨⟨cls, dd, data, sl⟩, ho, hc, n, hd⟩ := id ht
  obtain ⟨⟨cls2, dd2, data2, sl2⟩, ho2, hc2, n2, hd2⟩ := id hb
  simp only at hc hd hc2 hd2
  subst hc hd hc2 hd2
  have e : vs.toArray ++ ws.toArray = (vs ++ ws).toArray := by simp
  by_cases hw : ws = []
  · exact concat_meets ⟨_, ho, rfl⟩ ⟨_, ho2, rfl⟩ noFill_tuple_add seq_tuple_add PySem.F.slot_tuple_add PySem.F.entry_tuple_add (PySem.F.args_tuple_add_2 _ _)
      (tuple_addW1 t b vs.toArray ws.toArray n n2 dd dd2 sl sl2 (by simpa using hv) (by simp [hw])) ⟨ho, ho2, h1 hw⟩
  · refine concat_meets ⟨_, ho, rfl⟩ ⟨_, ho2, rfl⟩ noFill_tuple_add seq_tuple_add PySem.F.slot_tuple_add PySem.F.entry_tuple_add (PySem.F.args_tuple_add_2 _ _)
      (tuple_addW2 t b vs.toArray ws.toArray n n2 dd dd2 sl sl2 (by simpa using hv) (by simpa using hw) (by rw [List.size_toArray, List.size_toArray]; exact hsz)) ⟨ho, ho2, ?_⟩
    rw [e]
    exact h2 hw
def sIx (n d : Nat) : Option Int → Nat
  | none => d
  | some v => if v < 0 then (v + (n : Int)).toNat else min v.toNat n
theorem sIx_none (n d : Nat) : sIx n d none = d := rfl
theorem sIx_nat (n d k : Nat) : sIx n d (some (k : Int)) = min k n := by
  show (if (k : Int) < 0 then ((k : Int) + (n : Int)).toNat else min (k : Int).toNat n) = min k n
  rw [if_neg (by omega), Int.toNat_natCast]
theorem sIx_le (n d : Nat) (hd : d ≤ n) (o : Option Int) : sIx n d o ≤ n := by
  cases o with
  | none => exact hd
  | some v =>
    show (if v < 0 then (v + (n : Int)).toNat else min v.toNat n) ≤ n
    by_cases hv : v < 0
    · rw [if_pos hv]; omega
    · rw [if_neg hv]; exact Nat.min_le_right _ _
theorem clip_eq (v : Int) (n d : Nat) : (if v < 0 then max (v + (n : Int)) 0 else min v (n : Int)) = ((sIx n d (some v) : Nat) : Int) := by
  show (if v < 0 then max (v + (n : Int)) 0 else min v (n : Int)) = (((if v < 0 then (v + (n : Int)).toNat else min v.toNat n) : Nat) : Int)
  by_cases hv : v < 0
  · simp only [if_pos hv]; omega
  · simp only [if_neg hv]; omega
theorem adjust_gen (lo hi : Option Int) (n : Nat) : Builtin.Slice.sliceAdjust lo hi 1 (n : Int) = (((sIx n 0 lo : Nat) : Int), ((sIx n n hi : Nat) : Int)) := by
  have h1 : ¬ ((1 : Int) < 0) := by omega
  unfold Builtin.Slice.sliceAdjust
  simp only [h1, if_false]
  refine Prod.ext ?_ ?_
  · cases lo with
    | none => rfl
    | some v => exact clip_eq v n 0
  · cases hi with
    | none => rfl
    | some v => exact clip_eq v n n
theorem places_gen (i j : Nat) : Builtin.Slice.slicePlaces (i : Int) (j : Int) 1 = j - i := by
  unfold Builtin.Slice.slicePlaces
  have h1 : (1 : Int) > 0 := by omega
  simp only [h1, if_true, Int.ediv_one]
  split <;> omega
theorem slicePart_ {v : Value} {o : Option Int} {Q : Option Int → Shared → Prop} (p : IsPart v o) (h : Q o s) : wpAny (model prog w) A (Builtin.Slice.slicePartIndex v) Q E s := by
  cases p with
  | none => exact slicePart_none h
  | int i t => exact slicePart_int h
theorem sliceApplied_gen {sl : Addr} {vl vu : Value} {lo hi : Option Int} {n : Nat} {Q : Int × Int × Nat → Shared → Prop} (hs : s.heap.IsSliceOf sl vl vu .none) (pl : IsPart vl lo) (pu : IsPart vu hi)
    (h : Q (((sIx n 0 lo : Nat) : Int), 1, sIx n n hi - sIx n 0 lo) s) : wpAny (model prog w) A (Builtin.Slice.sliceApplied (.ref sl) (pure (n : Int))) Q E s := by
  obtain ⟨os, hos, hcs, hds⟩ := id hs
  unfold Builtin.Slice.sliceApplied Builtin.Slice.sliceFields
  refine wpAny_bind (wpAny_bind (wpAny_field hos hds (x := vl) rfl (wpAny_bind (wpAny_field hos hds (x := vu) rfl (wpAny_bind (wpAny_field hos hds (x := .none) rfl (wpAny_pure ?_)))))))
  refine wpAny_bind (slicePart_none ?_)
  show wpAny _ _ (if ((1 : Int) == 0) = true then _ else _) _ _ s
  rw [if_neg (by decide)]
  refine wpAny_bind (slicePart_ pl (wpAny_bind (slicePart_ pu (wpAny_bind (wpAny_pure ?_)))))
  show wpAny _ _ (match Builtin.Slice.sliceAdjust lo hi 1 (n : Int) with | (lo, hi) => pure (lo, (1 : Int), Builtin.Slice.slicePlaces lo hi 1)) _ _ s
  rw [adjust_gen lo hi n]
  show wpAny _ _ (pure (((sIx n 0 lo : Nat) : Int), (1 : Int), Builtin.Slice.slicePlaces ((sIx n 0 lo : Nat) : Int) ((sIx n n hi : Nat) : Int) 1)) _ _ s
  rw [places_gen]
  exact wpAny_pure h
theorem pick_gen (xs : Array Value) (i k : Nat) : ((List.range k).filterMap fun (m : Nat) => xs[((i : Int) + (m : Int) * 1).toNat]?).toArray = ((xs.toList.drop i).take k).toArray := by
  have e : (fun (m : Nat) => xs[((i : Int) + (m : Int) * 1).toNat]?) = fun m => xs[i + m]? := by
    funext m
    have : ((i : Int) + (m : Int) * 1).toNat = i + m := by omega
    rw [this]
  rw [e]
  have := pick_run xs i k
  rw [List.filterMap_map] at this
  have e2 : ((fun x => xs[x]?) ∘ fun x => i + x) = fun m => xs[i + m]? := rfl
  rw [e2] at this
  rw [this]
theorem getItem_tuple_cut {t sl : Addr} {items : Array Value} {vl vu : Value} {lo hi : Option Int} {Q : Value → Shared → Prop} (ht : IsTup s.heap t items) (hs : s.heap.IsSliceOf sl vl vu .none) (pl : IsPart vl lo) (pu : IsPart vu hi)
    (hw : ¬ (sIx items.size 0 lo = 0 ∧ sIx items.size items.size hi = items.size))
    (h : Q (.ref s.heap.objs.size) { s with heap := s.heap.push { cls := .type "tuple", data := .seq ((items.toList.drop (sIx items.size 0 lo)).take (sIx items.size items.size hi - sIx items.size 0 lo)).toArray } })
    (hsz : items.size ≤ sizeLine) : wpAny (model prog w) A (getItem (.ref t) (.ref sl)) Q E s := by
  have htake : sizeOk (.seq ((items.toList.drop (sIx items.size 0 lo)).take (sIx items.size items.size hi - sIx items.size 0 lo)).toArray) := by
    show ((items.toList.drop (sIx items.size 0 lo)).take (sIx items.size items.size hi - sIx items.size 0 lo)).toArray.size ≤ sizeLine
    rw [List.size_toArray, List.length_take, List.length_drop, Array.length_toList]
    omega
  have hj : sIx items.size items.size hi ≤ items.size := sIx_le _ _ (Nat.le_refl _) hi
  obtain ⟨os, hos, hcs, hds⟩ := id hs
  have hTs : s.TypeIs (.ref sl) "slice" := ⟨os, hos, hcs⟩
  unfold getItem
  try with_reducible refine wpAny_holding ?_
  first | refine wpAny_bind (wpAny_pure ?_) | skip
  refine wpAny_bind (wpAny_sequenceKey ht.typeIs (by decide) ?_)
  refine wpAny_bind (wpAny_callSpecial?_slot (name := Str.ofString "__getitem__") ht.typeIs PyProof.Rows.slot_tuple_getitem
    (wpAny_call_entry PyProof.Rows.slot_tuple_getitem ht.typeIs entry_tuple_getitem ?_ (args_tuple_getitem _ _)))
  show wpAny _ _ (Builtin.Tuple.tupleItemsOf (.ref t) >>= _) _ _ s
  refine wpAny_bind (tupleItemsOf_ ht ?_)
  refine wpAny_bind (wpAny_typeOf hTs ?_)
  rw [if_pos (by decide)]
  refine wpAny_bind (sliceApplied_gen hs pl pu ?_)
  have hno : ¬ ((((sIx items.size 0 lo : Nat) : Int) == 0 && (1 : Int) == 1 && (sIx items.size items.size hi - sIx items.size 0 lo) == items.size) = true) := by
    intro q
    rw [Bool.and_eq_true, Bool.and_eq_true] at q
    have q1 : ((sIx items.size 0 lo : Nat) : Int) = 0 := eq_of_beq q.1.1
    have q2 : sIx items.size items.size hi - sIx items.size 0 lo = items.size := eq_of_beq q.2
    exact hw ⟨by omega, by omega⟩
  show wpAny _ _ (if (((sIx items.size 0 lo : Nat) : Int) == 0 && (1 : Int) == 1 && (sIx items.size items.size hi - sIx items.size 0 lo) == items.size) = true then _ else _) _ _ s
  rw [if_neg hno, pick_gen]
  first
    | exact wpAny_bind (m := Builtin.Tuple.tupleExact _) (wpAny_newObj_type (wpAny_pure ⟨_, rfl, wpAny_pure h⟩) htake)
    | exact wpAny_bind (m := Builtin.Tuple.tupleExact _) (wpAny_newObj_type (wpAny_bind (wpAny_pure (wpAny_pure ⟨_, rfl, wpAny_pure h⟩))) htake)
    | exact wpAny_bind (wpAny_bind (m := Builtin.Tuple.tupleExact _) (wpAny_newObj_type (wpAny_pure (wpAny_pure ⟨_, rfl, wpAny_pure h⟩)) htake))
    | exact wpAny_bind (wpAny_bind (m := Builtin.Tuple.tupleExact _) (wpAny_newObj_type (wpAny_pure ⟨_, rfl, wpAny_pure h⟩) htake))
end
end HT
namespace L2
open PySem PySem.Spec PyProof.Rows
abbrev TO := St → Hp → (Option Int → Hp → Prop) → Prop
def PO (X : Cx) (e : Option Expr) (t : TO) : Prop :=
  ∀ (pins : List (Addr × Obj)) (s : Shared) (σ : St) (H : Hp) (Q : Option Int → Hp → Prop), Inv X pins σ H s → t σ H Q →
    wpAny (model X.prog X.w) X.A (evalPart e X.env) (fun u s' => ∃ o H', Inv X pins σ H' s' ∧ IsPart u o ∧ Q o H') X.xe s
def tNoPart : TO := fun _ H Q => Q none H
def tPart (t : TE) : TO := fun σ H Q => t σ H fun x H1 => ∃ i, x = .int i ∧ Q (some i) H1
theorem intsAre_of {ns : List Int} : ∀ {us : List Value}, Vals (ns.map V.int) us → IntsAre us ns := by
  induction ns with
  | nil => intro us r; rw [List.map_nil] at r; cases r; exact .nil
  | cons n ns ih =>
    intro us r
    rw [List.map_cons] at r
    cases r with
    | cons r1 r2 =>
      obtain ⟨t, e⟩ := r1
      subst e
      exact .cons n t (ih r2)
section
variable {X : Cx} {e : Expr} {te : TE} {lo hi : Option Expr} {tl th : TO} {pos p2 : Pos}
theorem po_none : PO X none tNoPart := by
  intro pins s σ H Q I h
  rw [evalPart_none]
  exact wpAny_pure ⟨none, H, I, .none, h⟩
theorem po_some (h : PE X e te) : PO X (some e) (tPart te) := by
  intro pins s σ H Q I hw
  rw [evalPart_some]
  refine thn (h pins s σ H _ I hw) fun u s1 ⟨x, H1, I1, r1, q1⟩ => ?_
  obtain ⟨i, rfl, q⟩ := q1
  obtain ⟨t, rfl⟩ := r1
  exact ⟨some i, H1, I1, .int i t, q⟩
def SlR (X : Cx) (r : V → Option Int → Option Int → Hp → VK → Prop) : Prop :=
  ∀ (pins : List (Addr × Obj)) (s : Shared) (σ : St) (H : Hp) (x : V) (v vl vu : Value) (lo hi : Option Int) (sl : Addr) (Q : VK), Inv X pins σ H s → RelV x v → s.heap.IsSliceOf sl vl vu .none → IsPart vl lo → IsPart vu hi → r x lo hi H Q →
    ∃ T id, typeLookup (.type T) "__getitem__" = pure (some (.builtin id)) ∧ s.TypeIs v T ∧ wpAny (model X.prog X.w) X.A (getItem v (.ref sl)) (EP X pins σ Q) X.xe s
def tSl (r : V → Option Int → Option Int → Hp → VK → Prop) (te : TE) (tl th : TO) : TE := fun σ H Q => te σ H fun x H1 => tl σ H1 fun l H2 => th σ H2 fun u H3 => r x l u H3 Q
theorem pe_slice {r : V → Option Int → Option Int → Hp → VK → Prop} (hr : SlR X r) (he : PE X e te) (hl : PO X lo tl) (hu : PO X hi th) : PE X (.Subscript e (.Slice lo hi none p2) pos) (tSl r te tl th) := by
  intro pins s σ H Q I h
  refine Subscript_ (thn (he pins s σ H _ I h) fun v s1 ⟨x, H1, I1, r1, q1⟩ => ?_)
  refine wpAny_Slice (thn (hl pins s1 σ H1 _ I1 q1) fun vl s2 ⟨l, H2, I2, pl, q2⟩ => thn (hu pins s2 σ H2 _ I2 q2) fun vu s3 ⟨u, H3, I3, pu, q3⟩ => ?_)
  rw [evalPart_none]
  refine wpAny_pure ?_
  have I4 : Inv X pins σ H3 { s3 with heap := s3.heap.push { cls := .type "slice", data := .fields #[vl, vu, .none] } } := I3.kept (t' := s3.toks) fun b ob q => Heap.get?_push_of_some _ q
  obtain ⟨T, id, hT, ht, hg⟩ := hr pins { s3 with heap := s3.heap.push { cls := .type "slice", data := .fields #[vl, vu, .none] } } σ H3 x v vl vu l u s3.heap.objs.size Q I4 r1 (Heap.IsSliceOf.new ..) pl pu q3
  show wpAny (model X.prog X.w) X.A (subscriptTail e (.Slice lo hi none p2) v (.ref s3.heap.objs.size)) (EP X pins σ Q) X.xe { s3 with heap := s3.heap.push { cls := .type "slice", data := .fields #[vl, vu, .none] } }
  exact tail_any (ops := [.ref s3.heap.objs.size, v]) ht hT hg (by with_unfolding_all rfl)
def cutV (xs : List V) (lo hi : Option Int) : List V := (xs.drop (HT.sIx xs.length 0 lo)).take (HT.sIx xs.length xs.length hi - HT.sIx xs.length 0 lo)
theorem cutV_length (xs : List V) (lo hi : Option Int) : (cutV xs lo hi).length ≤ xs.length := by
  unfold cutV
  rw [List.length_take, List.length_drop]
  omega
def rSlT (K : W.Frag) : V → Option Int → Option Int → Hp → VK → Prop := fun x lo hi H Q => ∃ a xs, x = .ref a ∧ SqT K H a xs ∧
  ¬ (HT.sIx xs.length 0 lo = 0 ∧ HT.sIx xs.length xs.length hi = xs.length) ∧ ∀ p, H p = none → Q (.ref p) (upd H p (.tup (cutV xs lo hi)))
theorem sl_tup : SlR X (rSlT X.K) := by
  intro pins s σ H x v vl vu lo hi sl Q I rx hs pl pu h
  obtain ⟨a, xs, rfl, hx, hw, q⟩ := h
  cases rx
  obtain ⟨its, r, ht, hz⟩ := I.tuple hx
  have hlen : its.toArray.size = xs.length := by rw [List.size_toArray]; exact r.length.symm
  refine ⟨"tuple", _, PyProof.Rows.slot_tuple_getitem.lookup, ht.typeIs, ?_⟩
  refine HT.getItem_tuple_cut ht hs pl pu (by rw [hlen]; exact hw) ?_ (by rw [hlen]; exact hz)
  rw [hlen]
  refine ⟨.ref s.heap.objs.size, _, I.laid (t' := s.toks) (o := .tup (cutV xs lo hi)) (fun b ob q => Heap.get?_push_of_some _ q) (Nat.le_refl _) ?_, rfl, q _ (I.hok.fresh (Nat.le_refl _))⟩
  exact ⟨Nat.le_trans (cutV_length xs lo hi) hz, _, (r.drop (HT.sIx xs.length 0 lo)).take (HT.sIx xs.length xs.length hi - HT.sIx xs.length 0 lo), IsTup.new _ _⟩
def rCatT (K : W.Frag) : R2 := fun x y H Q => ∃ a b xs ys, x = .ref a ∧ y = .ref b ∧ SqT K H a xs ∧ SqT K H b ys ∧ xs ≠ [] ∧ xs.length + ys.length ≤ sizeLine ∧
  (ys = [] → Q (.ref a) H) ∧ (ys ≠ [] → ∀ p, H p = none → Q (.ref p) (upd H p (.tup (xs ++ ys))))
theorem Vals.nil_iff {xs : List V} {us : List Value} (r : Vals xs us) : us = [] ↔ xs = [] := by
  cases r with
  | nil => simp
  | cons _ _ => simp
theorem op_catT : OpR X (binaryOp .Add) (rCatT X.K) := by
  intro pins s σ H x y v u Q I rx ry h
  obtain ⟨a, b, xs, ys, rfl, rfl, ha, hb, hx, hz, q1, q2⟩ := h
  cases rx
  cases ry
  obtain ⟨its, r1, p1, _⟩ := I.tuple ha
  obtain ⟨its2, r2, p2, _⟩ := I.tuple hb
  refine HT.cat_tup p1 p2 (fun z => hx (r1.nil_iff.mp z)) (fun z => ⟨.ref a, H, I, rfl, q1 (r2.nil_iff.mp z)⟩) (fun z => ?_) (by rw [← r1.length, ← r2.length]; exact hz)
  refine ⟨.ref s.heap.objs.size, _, I.laid (t' := s.toks) (o := .tup (xs ++ ys)) (fun b ob q => Heap.get?_push_of_some _ q) (Nat.le_refl _) ?_, rfl, q2 (fun w => z (r2.nil_iff.mpr w)) _ (I.hok.fresh (Nat.le_refl _))⟩
  exact ⟨by rw [List.length_append]; exact hz, _, r1.append r2, IsTup.new _ _⟩
end
end L2
namespace L2
open PySem PySem.Spec PyProof.Rows
def ixN (n : Nat) (i : Int) : Option Nat := if 0 ≤ i then (if i < n then some i.toNat else none) else if -(n : Int) ≤ i then some (i + n).toNat else none
def atI {α : Type} (xs : List α) (i : Int) : Option α := (ixN xs.length i).bind fun j => xs[j]?
theorem ixN_seq {n : Nat} {i : Int} {j : Nat} (h : ixN n i = some j) : seqIndex? i n = some j ∧ j < n ∧ -(n : Int) ≤ i ∧ i < n := by
  unfold ixN at h
  by_cases h0 : 0 ≤ i
  · rw [if_pos h0] at h
    by_cases h1 : i < n
    · rw [if_pos h1] at h
      have e : i.toNat = j := Option.some.inj h
      exact ⟨by rw [seqIndex_of h0 h1, e], by omega, by omega, h1⟩
    · rw [if_neg h1] at h; cases h
  · rw [if_neg h0] at h
    by_cases h1 : -(n : Int) ≤ i
    · rw [if_pos h1] at h
      have e : (i + n).toNat = j := Option.some.inj h
      exact ⟨by rw [seqIndex_neg (by omega) h1, e], by omega, h1, by omega⟩
    · rw [if_neg h1] at h; cases h
theorem atI_get {α : Type} {xs : List α} {i : Int} {v : α} (h : atI xs i = some v) : ∃ j, seqIndex? i xs.length = some j ∧ xs[j]? = some v ∧ j < xs.length ∧ -(xs.length : Int) ≤ i ∧ i < xs.length := by
  unfold atI at h
  cases e : ixN xs.length i with
  | none => rw [e] at h; cases h
  | some j =>
    rw [e] at h
    obtain ⟨h1, h2, h3, h4⟩ := ixN_seq e
    exact ⟨j, h1, h, h2, h3, h4⟩
theorem atI_nat {α : Type} {xs : List α} {j : Nat} {v : α} (h : xs[j]? = some v) : atI xs (j : Int) = some v := by
  have hj : j < xs.length := (List.getElem?_eq_some_iff.mp h).1
  have e : ixN xs.length (j : Int) = some j := by
    unfold ixN
    rw [if_pos (by omega), if_pos (by omega)]; simp
  unfold atI; rw [e]; exact h
def PlainIx (b : Expr) : Prop := ∀ o i, subscripted b false o i = operate [o, i] (getItem o i)
def IxR (X : Cx) (r : R2) : Prop :=
  ∀ (value slice : Expr) (pins : List (Addr × Obj)) (s : Shared) (σ : St) (H : Hp) (x y : V) (v u : Value) (Q : VK), Inv X pins σ H s → RelV x v → RelV y u → r x y H Q →
    subscripted slice false v u = operate [v, u] (getItem v u) → wpAny (model X.prog X.w) X.A (subscriptTail value slice v u) (EP X pins σ Q) X.xe s
def MtR (X : Cx) (id : String) (r : V → List V → Hp → VK → Prop) : Prop :=
  ∀ (pins : List (Addr × Obj)) (s : Shared) (σ : St) (H : Hp) (x : V) (xs : List V) (v : Value) (us : List Value) (Q : VK), Inv X pins σ H s → RelV x v → Vals xs us → r x xs H Q →
    wpAny (model X.prog X.w) X.A (call (.builtin id) (v :: us)) (EP X pins σ Q) X.xe s
section
variable {X : Cx} {a b : Expr} {ta tb : TE} {pos : Pos}
theorem pe_ix {r : R2} (hr : IxR X r) (ha : PE X a ta) (hb : PE X b tb) (hs : PlainIx b) : PE X (.Subscript a b pos) (tOp r ta tb) := by
  intro pins s σ H Q I h
  exact Subscript_ (binT ha hb I h fun v u s2 x y H2 I2 rx ry q => hr a b pins s2 σ H2 x y v u Q I2 rx ry q (hs _ _))
def rIxL (K : W.Frag) : R2 := fun x y H Q => ∃ p xs i v, x = .ref p ∧ y = .int i ∧ SqL K H p xs ∧ atI xs i = some v ∧ Q v H
def rIxT (K : W.Frag) : R2 := fun x y H Q => ∃ p xs i v, x = .ref p ∧ y = .int i ∧ SqT K H p xs ∧ atI xs i = some v ∧ Q v H
def rIxS : R2 := fun x y H Q => ∃ z i c, x = .str z ∧ y = .int i ∧ z.length ≤ sizeLine ∧ atI z.cps.toList i = some c ∧ Q (.str ⟨#[c]⟩) H
theorem ix_list : IxR X (rIxL X.K) := by
  intro value slice pins s σ H x y v u Q I rx ry h hs
  obtain ⟨p, xs, i, z, rfl, rfl, hq, he, q⟩ := h
  cases rx
  obtain ⟨t, rfl⟩ := ry
  obtain ⟨its, r, pl, hz⟩ := I.list hq
  obtain ⟨j, h1, h2, h3, h4, h5⟩ := atI_get he
  obtain ⟨w, ew, rw'⟩ := r.get h2
  have hl := r.length
  have hn := line63
  have fin : EP X pins σ Q w s := ⟨z, H, I, rw', q⟩
  by_cases h0 : 0 ≤ i
  · have hj : i.toNat = j := by
      rw [seqIndex_of h0 h5] at h1
      exact Option.some.inj h1
    exact item_listR pl.isList h0 (by omega) (by rw [hj]; simpa using ew) fin hs
  · have hj : (i + (its.toArray.size : Int)).toNat = j := by
      rw [seqIndex_neg (by omega) h4] at h1
      rw [List.size_toArray, ← hl]
      exact Option.some.inj h1
    exact subscriptTail_builtinR (x := w) pl.isList.typeIs slot_list_getitem.lookup
      (wpAny_getItem_list_neg (Q := fun r s' => r = w ∧ EP X pins σ Q r s') pl.isList (by omega) (by rw [List.size_toArray] <;> omega) (by omega) (by rw [hj]; simpa using ew) ⟨rfl, fin⟩) hs
theorem ix_tup : IxR X (rIxT X.K) := by
  intro value slice pins s σ H x y v u Q I rx ry h hs
  obtain ⟨p, xs, i, z, rfl, rfl, hq, he, q⟩ := h
  cases rx
  obtain ⟨t, rfl⟩ := ry
  obtain ⟨its, r, pl, hz⟩ := I.tuple hq
  obtain ⟨j, h1, h2, h3, h4, h5⟩ := atI_get he
  obtain ⟨w, ew, rw'⟩ := r.get h2
  have hl := r.length
  have hn := line63
  have fin : EP X pins σ Q w s := ⟨z, H, I, rw', q⟩
  exact subscriptTail_builtinR (x := w) pl.typeIs slot_tuple_getitem.lookup
    (getItem_tuple (j := j) (Q := fun r s' => r = w ∧ EP X pins σ Q r s') pl (by omega) (by omega) (by rw [List.size_toArray, ← hl]; exact h1) (by simpa using ew) ⟨rfl, fin⟩) hs
theorem ix_str : IxR X rIxS := by
  intro value slice pins s σ H x y v u Q I rx ry h hs
  obtain ⟨z, i, c, rfl, rfl, hz, he, q⟩ := h
  obtain ⟨t, rfl⟩ := rx
  obtain ⟨t', rfl⟩ := ry
  obtain ⟨j, h1, h2, h3, h4, h5⟩ := atI_get he
  have hl : z.cps.toList.length = z.length := by simp [Str.length]
  rw [hl] at h1 h4 h5
  have hn := line63
  exact tail_any (typeIs_str s z t) slot_str_getitem.lookup (getItem_str (c := c) (by
    have e1 : decide (i < -(2 ^ 63 : Int)) = false := decide_eq_false (by omega)
    have e2 : decide (i ≥ 2 ^ 63) = false := decide_eq_false (by omega)
    rw [e1, e2, Bool.or_false]) (by rw [h1]; simpa using h2) ⟨.str ⟨#[c]⟩, H, I.tok _, ⟨_, rfl⟩, q⟩) hs
theorem mapSeq_set (its : List Value) (n j : Nat) (u : Value) : Obj.mapSeq (·.setIfInBounds j u) { cls := .type "list", data := .seq its.toArray n } = { cls := .type "list", data := .seq (its.set j u).toArray n } := by
  simp [Obj.mapSeq]
theorem Inv.lst {pins : List (Addr × Obj)} {σ : St} {H : Hp} {s : Shared} {p : Addr} {xs : List V} (I : Inv X pins σ H s) (h : H p = some (.lst xs)) :
    ∃ (its : List Value) (n : Nat), Vals xs its ∧ s.heap.get? p = some { cls := .type "list", data := .seq its.toArray n } ∧ xs.length ≤ sizeLine := by
  obtain ⟨z, its, n, r, e⟩ := I.hok p _ h
  exact ⟨its, n, r, e, z⟩
theorem Inv.lstUpd {pins : List (Addr × Obj)} {σ : St} {H : Hp} {s : Shared} {p : Addr} {xs ys : List V} {its its' : List Value} {n n' : Nat} {f : Obj → Obj} (I : Inv X pins σ H s) (h : H p = some (.lst xs))
    (ho : s.heap.get? p = some { cls := .type "list", data := .seq its.toArray n }) (hf : f { cls := .type "list", data := .seq its.toArray n } = { cls := .type "list", data := .seq its'.toArray n' }) (r : Vals ys its') (hz : ys.length ≤ sizeLine) (t : Nat) :
    Inv X pins σ (upd H p (.lst ys)) { s with heap := s.heap.update p f, toks := t } := by
  have e : (s.heap.update p f).get? p = some { cls := .type "list", data := .seq its'.toArray n' } := by
    rw [Heap.get?_update_self f ho (by rw [hf] <;> rfl), hf]
  refine I.write (x := p) (e := p) (by rw [h]; trivial) (.inl rfl) (fun b u hb q => (Heap.get?_update_other _ _ (Ne.symm hb)).trans q) ⟨_, e⟩ ?_
  exact ⟨hz, its', n', r, e⟩
def rSetL : V → V → V → Hp → (Hp → Prop) → Prop := fun o i v H Q => ∃ p xs k j, o = .ref p ∧ i = .int k ∧ H p = some (.lst xs) ∧ ixN xs.length k = some j ∧ Q (upd H p (.lst (xs.set j v)))
theorem set_list : PSet X rSetL := by
  intro pins s σ H o i v ov iv u Q I ro ri rv h
  obtain ⟨p, xs, k, j, rfl, rfl, hp, hj, q⟩ := h
  cases ro
  obtain ⟨t, rfl⟩ := ri
  obtain ⟨its, n, r, ho, hz⟩ := I.lst hp
  obtain ⟨h1, h2, h3, h4⟩ := ixN_seq hj
  have hl := r.length
  have hn := line63
  have I' : Inv X pins σ (upd H p (.lst (xs.set j v))) { s with heap := s.heap.update p (Obj.mapSeq (·.setIfInBounds j u)) } :=
    I.lstUpd hp ho (mapSeq_set its n j u) (r.set rv j) (by rw [List.length_set]; exact hz) s.toks
  by_cases h0 : 0 ≤ k
  · have hk : k.toNat = j := by
      rw [seqIndex_of h0 h4] at h1
      exact Option.some.inj h1
    exact W.ki_setAt ho h0 (by omega) (by rw [List.size_toArray, ← hl]; exact h4) (by rw [hk]; exact ⟨_, I', q⟩)
  · have hk : (k + (its.toArray.size : Int)).toNat = j := by
      rw [seqIndex_neg (by omega) h3] at h1
      rw [List.size_toArray, ← hl]
      exact Option.some.inj h1
    exact W.ki_setBack ho (by omega) (by rw [List.size_toArray, ← hl]; exact h3) (by omega) (by rw [hk]; exact ⟨_, I', q⟩)
theorem slice_bounds (lo hi : Option Int) (n : Nat) : (sliceBounds lo hi none n).1 = ((HT.sIx n 0 lo : Nat) : Int) ∧ (sliceBounds lo hi none n).2.1 = ((HT.sIx n n hi : Nat) : Int) ∧ (sliceBounds lo hi none n).2.2 = 1 := by
  refine ⟨?_, ?_, rfl⟩
  · cases lo with
    | none => simp [sliceBounds, HT.sIx]
    | some i =>
      simp only [sliceBounds, HT.sIx, Option.getD_none, show (1 : Int) > 0 by decide, if_true]
      by_cases h : i < 0
      · simp only [h, if_true] <;> omega
      · simp only [h, if_false] <;> omega
  · cases hi with
    | none => simp [sliceBounds, HT.sIx]
    | some i =>
      simp only [sliceBounds, HT.sIx, Option.getD_none, show (1 : Int) > 0 by decide, if_true]
      by_cases h : i < 0
      · simp only [h, if_true] <;> omega
      · simp only [h, if_false] <;> omega
theorem slicePick_cut (its : List Value) (lo hi : Option Int) : slicePick its.toArray lo hi none = ((its.drop (HT.sIx its.length 0 lo)).take (HT.sIx its.length its.length hi - HT.sIx its.length 0 lo)).toArray := by
  obtain ⟨h1, h2, h3⟩ := slice_bounds lo hi its.toArray.size
  unfold slicePick
  rw [h1, h2, h3]
  simp only [sliceRange_one, pick_run, List.size_toArray] <;> rfl
def rSlL (K : W.Frag) : V → Option Int → Option Int → Hp → VK → Prop := fun x lo hi H Q => ∃ a xs, x = .ref a ∧ SqL K H a xs ∧ ∀ p, H p = none → Q (.ref p) (upd H p (.lst (cutV xs lo hi)))
theorem sl_list : SlR X (rSlL X.K) := by
  intro pins s σ H x v vl vu lo hi sl Q I rx hs pl pu h
  obtain ⟨a, xs, rfl, hx, q⟩ := h
  cases rx
  obtain ⟨its, r, ht, hz⟩ := I.list hx
  have hlen := r.length
  refine ⟨"list", _, slot_list_getitem.lookup, ht.isList.typeIs, ?_⟩
  refine wpAny_getItem_list_slice ht.isList hs pl pu .none (by simp) ?_ (by rw [List.size_toArray] <;> omega)
  rw [slicePick_cut, ← hlen]
  refine ⟨.ref s.heap.objs.size, _, I.laid (t' := s.toks) (o := .lst (cutV xs lo hi)) (fun b ob q => Heap.get?_push_of_some _ q) (Nat.le_refl _) ?_, rfl, q _ (I.hok.fresh (Nat.le_refl _))⟩
  exact ⟨Nat.le_trans (cutV_length xs lo hi) hz, _, 0, (r.drop (HT.sIx xs.length 0 lo)).take (HT.sIx xs.length xs.length hi - HT.sIx xs.length 0 lo), Heap.get?_push_size _ rfl⟩
def flatV : V → Bool
  | .non => true
  | .bl _ => true
  | .int _ => true
  | .str _ => true
  | _ => false
def eqV : V → V → Bool
  | .non, .non => true
  | .bl a, .bl b => a == b
  | .bl a, .int b => (if a then 1 else 0) == b
  | .int a, .bl b => a == (if b then 1 else 0)
  | .int a, .int b => a == b
  | .str a, .str b => a == b
  | _, _ => false
theorem eqAt_V {A : Around} {s : Shared} {y x : V} {u v : Value} (ry : RelV y u) (rx : RelV x v) (fy : flatV y = true) (fx : flatV x = true) : SeqAt.EqAt A s u v (eqV y x) := by
  cases y with
  | non =>
    cases ry
    cases x with
    | non => cases rx; exact SeqAt.EqAt.same _
    | bl b => cases rx; exact SeqAt.EqAt.none_bool b
    | int b => obtain ⟨t, rfl⟩ := rx; exact SeqAt.EqAt.none_int b t
    | str b => obtain ⟨t, rfl⟩ := rx; exact SeqAt.EqAt.none_str b t
    | _ => exact absurd (show false = true from fx) Bool.false_ne_true
  | bl a =>
    cases ry
    cases x with
    | non => cases rx; exact SeqAt.EqAt.bool_none a
    | bl b => cases rx; exact SeqAt.EqAt.bool_bool a b
    | int b => obtain ⟨t, rfl⟩ := rx; exact SeqAt.EqAt.bool_int a b t
    | str b => obtain ⟨t, rfl⟩ := rx; exact SeqAt.EqAt.bool_str a b t
    | _ => exact absurd (show false = true from fx) Bool.false_ne_true
  | int a =>
    obtain ⟨t', rfl⟩ := ry
    cases x with
    | non => cases rx; exact SeqAt.EqAt.int_none a t'
    | bl b => cases rx; exact SeqAt.EqAt.int_bool a t' b
    | int b => obtain ⟨t, rfl⟩ := rx; exact SeqAt.EqAt.int_int a t' b t
    | str b => obtain ⟨t, rfl⟩ := rx; exact SeqAt.EqAt.int_str a t' b t
    | _ => exact absurd (show false = true from fx) Bool.false_ne_true
  | str a =>
    obtain ⟨t', rfl⟩ := ry
    cases x with
    | non => cases rx; exact SeqAt.EqAt.str_none a t'
    | bl b => cases rx; exact SeqAt.EqAt.str_bool a t' b
    | int b => obtain ⟨t, rfl⟩ := rx; exact SeqAt.EqAt.str_int a t' b t
    | str b => obtain ⟨t, rfl⟩ := rx; exact SeqAt.EqAt.str_str a t' b t
    | _ => exact absurd (show false = true from fx) Bool.false_ne_true
  | _ => exact absurd (show false = true from fy) Bool.false_ne_true
def eqU (x : V) (u : Value) : Bool := match u with
  | .none => eqV .non x
  | .bool b => eqV (.bl b) x
  | .int i _ => eqV (.int i) x
  | .str z _ => eqV (.str z) x
  | _ => false
theorem eqU_of {x y : V} {u : Value} (r : RelV y u) (f : flatV y = true) : eqU x u = eqV y x := by
  cases y with
  | non => cases r; rfl
  | bl b => cases r; rfl
  | int i => obtain ⟨t, rfl⟩ := r; rfl
  | str z => obtain ⟨t, rfl⟩ := r; rfl
  | _ => exact absurd (show false = true from f) Bool.false_ne_true
theorem any_eqU {x : V} : ∀ {xs : List V} {us : List Value}, Vals xs us → xs.all flatV = true → us.any (eqU x) = xs.any fun y => eqV y x
  | _, _, .nil, _ => rfl
  | y :: xs, u :: us, .cons r t, f => by
    rw [List.all_cons, Bool.and_eq_true] at f
    rw [List.any_cons, List.any_cons, eqU_of r f.1, any_eqU t f.2]
theorem mem_eqAt {A : Around} {s : Shared} {x : V} {v : Value} (rx : RelV x v) (fx : flatV x = true) : ∀ {xs : List V} {us : List Value}, Vals xs us → xs.all flatV = true → ∀ u ∈ us, SeqAt.EqAt A s u v (eqU x u)
  | _, _, .nil, _ => fun u hu => by cases hu
  | y :: xs, u :: us, .cons r t, f => fun u' hu => by
    rw [List.all_cons, Bool.and_eq_true] at f
    rcases List.mem_cons.mp hu with rfl | hu
    · rw [eqU_of r f.1]; exact eqAt_V r rx f.1 fx
    · exact mem_eqAt rx fx t f.2 u' hu
def inV (x : V) (xs : List V) : Bool := xs.any fun y => eqV y x
def rIn (K : W.Frag) (neg : Bool) : R2 := fun x y H Q => ∃ p xs, y = .ref p ∧ (SqL K H p xs ∨ SqT K H p xs) ∧ flatV x = true ∧ xs.all flatV = true ∧ Q (.bl (if neg then !inV x xs else inV x xs)) H
theorem op_in_seq : OpR X (compareOp .In) (rIn X.K false) := by
  intro pins s σ H x y v u Q I rx ry h
  obtain ⟨p, xs, rfl, hq, fx, fs, q⟩ := h
  cases ry
  rcases hq with hq | hq
  · obtain ⟨its, r, pl, hz⟩ := I.list hq
    refine SeqAt.in_listAt (eqU x) pl.isList (fun w hw => mem_eqAt rx fx r fs w (by simpa using hw)) ⟨.bl _, H, I, rfl, ?_⟩
    rw [show its.toArray.any (eqU x) = its.any (eqU x) by simp, any_eqU r fs]
    exact q
  · obtain ⟨its, r, pl, hz⟩ := I.tuple hq
    refine SeqAt.in_tupleAt (eqU x) pl (fun w hw => mem_eqAt rx fx r fs w (by simpa using hw)) ⟨.bl _, H, I, rfl, ?_⟩
    rw [show its.toArray.any (eqU x) = its.any (eqU x) by simp, any_eqU r fs]
    exact q
theorem call_len_seq : CallR X (.builtin "len") (fun xs H Q => ∃ p ys, xs = [.ref p] ∧ (SqL X.K H p ys ∨ SqT X.K H p ys) ∧ Q (.int ys.length) H) := by
  intro pins s σ H xs us Q I r h
  obtain ⟨p, ys, rfl, hq, q⟩ := h
  obtain ⟨u, rfl, rx⟩ := vals1 r
  cases rx
  have hn := line63
  rcases hq with hq | hq
  · obtain ⟨its, r', pl, hz⟩ := I.list hq
    have hlen := r'.length
    exact Calls.call_len_list pl.isList (by simp only [List.size_toArray] <;> omega) ⟨.int ys.length, H, I.tok _, ⟨s.toks + 1, by rw [List.size_toArray, hlen]⟩, q⟩
  · obtain ⟨its, r', pl, hz⟩ := I.tuple hq
    have hlen := r'.length
    exact len_tuple pl (by simp only [List.size_toArray] <;> omega) ⟨.int ys.length, H, I.tok _, ⟨s.toks + 1, by rw [List.size_toArray, hlen]⟩, q⟩
theorem call_len_str : CallR X (.builtin "len") (fun xs H Q => ∃ z, xs = [.str z] ∧ z.length ≤ sizeLine ∧ Q (.int z.length) H) := by
  intro pins s σ H xs us Q I r h
  obtain ⟨z, rfl, hz, q⟩ := h
  obtain ⟨u, rfl, t, rfl⟩ := vals1 r
  have hn := line63
  exact len_str (by omega) ⟨.int z.length, H, I.tok _, ⟨_, rfl⟩, q⟩
theorem call_list_of : CallR X (.type "list") (fun xs H Q => ∃ p ys, xs = [.ref p] ∧ (SqL X.K H p ys ∨ SqT X.K H p ys) ∧ ∀ l, H l = none → Q (.ref l) (upd H l (.lst ys))) := by
  intro pins s σ H xs us Q I r h
  obtain ⟨p, ys, rfl, hq, q⟩ := h
  obtain ⟨u, rfl, rx⟩ := vals1 r
  cases rx
  have fin : ∀ (its : List Value), Vals ys its → ys.length ≤ sizeLine → ∀ (h' : Heap) (c' : Nat), (∀ b o', s.heap.get? b = some o' → h'.get? b = some o') →
      h'.get? s.heap.objs.size = some { cls := .type "list", dict := none, data := .seq its.toArray c', slots := #[] } → EP X pins σ Q (.ref s.heap.objs.size) { s with heap := h' } := fun its r' hz h' c' kp e =>
    ⟨.ref s.heap.objs.size, _, I.laid (t' := s.toks) kp (Nat.le_refl _) (show ObjOk X.prog X.w _ h' _ (.lst ys) from ⟨hz, its, c', r', e⟩), rfl, q _ (I.hok.fresh (Nat.le_refl _))⟩
  rcases hq with hq | hq
  · obtain ⟨its, r', pl, hz⟩ := I.list hq
    have hlen := r'.length
    obtain ⟨o, ho, hc, n, hd⟩ := pl.isList
    exact call_list_seq p (.inl rfl) ho hc hd (fun h' c' kp e => fin its r' hz h' c' kp e) (by simp only [List.size_toArray] <;> omega)
  · obtain ⟨its, r', pl, hz⟩ := I.tuple hq
    have hlen := r'.length
    obtain ⟨o, ho, hc, n, hd⟩ := pl
    exact call_list_seq p (.inr rfl) ho hc hd (fun h' c' kp e => fin its r' hz h' c' kp e) (by simp only [List.size_toArray] <;> omega)
def tyV (K : W.Frag) (T : String) (x : V) (H : Hp) : Prop := match x with
  | .str _ => T = "str"
  | .int _ => T = "int"
  | .ref p => (T = "list" ∧ ∃ xs, SqL K H p xs) ∨ (T = "tuple" ∧ ∃ o, K.lookup p = some o ∧ o.cls = .type "tuple" ∧ o.dict = none) ∨
      (T = "dict" ∧ ((∃ kvs, H p = some (.dK kvs)) ∨ ∃ kvs, H p = some (.dT kvs))) ∨ (T = "set" ∧ ∃ S n, H p = some (.set S n))
  | _ => False
theorem tyV_is {pins : List (Addr × Obj)} {σ : St} {H : Hp} {s : Shared} {T : String} {x : V} {v : Value} (I : Inv X pins σ H s) (r : RelV x v) (ty : tyV X.K T x H) :
    s.TypeIs v T ∧ ∀ a, v = .ref a → ∃ ob, s.heap.get? a = some ob ∧ ob.dict = none := by
  cases x with
  | str z =>
    obtain ⟨t, rfl⟩ := r
    cases (show T = "str" from ty)
    exact ⟨typeIs_str s z t, fun _ e => nomatch e⟩
  | int i =>
    obtain ⟨t, rfl⟩ := r
    cases (show T = "int" from ty)
    exact ⟨typeIs_int s i t, fun _ e => nomatch e⟩
  | ref p =>
    cases r
    rcases ty with ⟨rfl, xs, hq⟩ | ⟨rfl, o, hk, hc, hd⟩ | ⟨rfl, hk⟩ | ⟨rfl, S, n, hk⟩
    · obtain ⟨its, _, pl, _⟩ := I.list hq
      refine ⟨pl.isList.typeIs, fun a e => ?_⟩
      cases e
      obtain ⟨o, n, e, c, hd, _⟩ := pl
      exact ⟨o, e, hd⟩
    · refine ⟨⟨o, I.kIn p o hk, hc⟩, fun a e => ?_⟩
      cases e
      exact ⟨o, I.kIn _ o hk, hd⟩
    · have z : ∃ o, s.heap.get? p = some o ∧ o.ExactDict := by
        rcases hk with ⟨kvs, hk⟩ | ⟨kvs, hk⟩
        · obtain ⟨_, _, _, _, o, _, _, e, ex, _⟩ := I.hok p _ hk
          exact ⟨o, e, ex⟩
        · obtain ⟨_, _, _, _, o, _, _, e, ex, _⟩ := I.hok p _ hk
          exact ⟨o, e, ex⟩
      obtain ⟨o, e, ex⟩ := z
      refine ⟨⟨o, e, ex.1⟩, fun a e2 => ?_⟩
      cases e2
      exact ⟨o, e, ex.2.1⟩
    · obtain ⟨o, _, _, _, e, ex, _⟩ := I.hok p _ hk
      refine ⟨⟨o, e, ex.1⟩, fun a e2 => ?_⟩
      cases e2
      exact ⟨o, e, ex.2.1⟩
  | _ => exact False.elim ty
def tBM (K : W.Frag) (T : String) (r : V → List V → Hp → VK → Prop) (to : TE) (t : TA) : TE := fun σ H Q => to σ H fun x H1 => tyV K T x H1 ∧ t σ H1 fun xs H2 => r x xs H2 Q
variable {o e : Expr} {es : List Expr} {to : TE} {t : TA} {name : Str} {apos cpos : Pos} {T id : String} {r : V → List V → Hp → VK → Prop}
theorem pe_bm (pa : PlainAttrs T) (slot : Slot T name id) (hty : typeOf (.builtin id) = pure (.type "method_descriptor")) (hm : MtR X id r) (ho : PE X o to) (ha : PA X (e :: es) t)
    (hbase : attributeBase o name X.env (eval o X.env) = eval o X.env := by rfl)
    (hfew : ((backTo cpos (starEach (e :: es) X.env)).all (fun x => !x.1) && (backToKw cpos (keywordEach [] X.env)).all (fun x => x.1.isSome)
      && decide ((e :: es).length + ([] : List Keyword).length + (if ([] : List Keyword).isEmpty then 0 else 1) < 30)) = true := by rfl)
    (hline : (apos.endLine == cpos.line) = true := by rfl) (hs : starEach (e :: es) X.env = (false, eval e X.env) :: starEach es X.env := by rfl) (hplain : (backTo cpos (starEach es X.env)).any (·.1) = false := by rfl) :
    PE X (.Call (.Attribute o name apos) (e :: es) [] cpos) (tBM X.K T r to t) := by
  intro pins s σ H Q I h
  refine wpAny_Call_method_late hbase hfew hline rfl (thn (ho pins s σ H _ I h) fun v s1 ⟨x, H1, I1, r1, ty, q1⟩ => ?_)
  obtain ⟨h1, h2⟩ := tyV_is I1 r1 ty
  refine ⟨T, id, pa, slot, hty, h1, h2, ?_⟩
  have hA := ha cpos pins s1 σ H1 _ I1 q1
  rw [hs] at hA ⊢
  refine Calls.callWith_builtin (by show (false || (backTo cpos (starEach es X.env)).any (·.1)) = false; rw [hplain] <;> rfl) (Calls.evalArgs_plain ?_)
  exact thn hA fun us s2 ⟨vs, H2, I2, r2, q2⟩ => hm pins s2 σ H2 x vs v us Q I2 r1 r2 q2
/- xs.append(e), list.index on a module's tuple .. are MtR facts of 06m -/
end
end L2
namespace L2
open PySem PySem.Spec PyProof.Rows
def MtM (X : Cx) (id : String) (r : V → List V → Hp → VK → Prop) : Prop :=
  ∀ (pins : List (Addr × Obj)) (s : Shared) (σ : St) (H : Hp) (x : V) (xs : List V) (v : Value) (us : List Value) (Q : VK), Inv X pins σ H s → RelV x v → Vals xs us → r x xs H Q →
    wpAny (model X.prog X.w) X.A (call (.builtin id) (v :: us)) (EP X pins σ Q) X.xe s
theorem Vals.one : ∀ {x : V} {us : List Value}, Vals [x] us → ∃ u, us = [u] ∧ RelV x u
  | _, _, .cons r .nil => ⟨_, rfl, r⟩
section
variable {X : Cx} {pins : List (Addr × Obj)} {σ : St} {H : Hp} {s : Shared} {l b : Addr} {xs ys zs : List V}
theorem Inv.lset {its its' : List Value} {n : Nat} {f : Array Value → Array Value} {t' : Nat} (I : Inv X pins σ H s) (hH : H l = some (.lst xs))
    (e : s.heap.get? l = some { cls := .type "list", data := .seq its.toArray n }) (hf : f its.toArray = its'.toArray) (hv : Vals ys its') (hz : ys.length ≤ sizeLine) :
    Inv X pins σ (upd H l (.lst ys)) { s with heap := s.heap.update l (Obj.mapSeq f), toks := t' } := by
  have q := PySem.IsL.update e f
  rw [hf] at q
  refine I.write (x := l) (e := l) (by rw [hH]; exact trivial) (.inl rfl) (fun b' u hb hu => (Heap.get?_update_other s.heap (Obj.mapSeq f) (Ne.symm hb)).trans hu) ⟨_, q⟩ ?_
  exact ⟨hz, its', _, hv, q⟩
theorem Inv.lnew {its : List Value} {t' : Nat} (I : Inv X pins σ H s) (hv : Vals ys its) (hz : ys.length ≤ sizeLine) :
    Inv X pins σ (upd H s.heap.objs.size (.lst ys)) { s with heap := s.heap.push { cls := .type "list", data := .seq its.toArray }, toks := t' } :=
  I.laid (fun _ _ q => Heap.get?_push_of_some _ q) (Nat.le_refl _) ⟨hz, its, 0, hv, Heap.get?_push_size _ rfl⟩
theorem Inv.fresh (I : Inv X pins σ H s) : H s.heap.objs.size = none := I.hok.fresh (Nat.le_refl _)
theorem Inv.lstM (I : Inv X pins σ H s) (hH : H l = some (.lst xs)) : xs.length ≤ sizeLine ∧ ∃ (its : List Value) (n : Nat), Vals xs its ∧ xs.length = its.length ∧ s.heap.get? l = some { cls := .type "list", data := .seq its.toArray n } := by
  obtain ⟨z, its, n, r, e⟩ := I.hok l _ hH
  exact ⟨z, its, n, r, r.length, e⟩
theorem notLongL {n : Nat} (h : n ≤ sizeLine) : Builtin.List.listTooLong n = false := by
  unfold Builtin.List.listTooLong
  exact decide_eq_false (by omega)
end
section
variable {X : Cx}
def rAppend : V → List V → Hp → VK → Prop := fun x vs H Q => ∃ l xs y, x = .ref l ∧ vs = [y] ∧ H l = some (.lst xs) ∧ xs.length < sizeLine ∧ Q .non (upd H l (.lst (xs ++ [y])))
theorem mt_append : MtM X "list.append" rAppend := by
  intro pins s σ H x vs v us Q I rx rv h
  obtain ⟨l, xs, y, rfl, rfl, hH, hz, q⟩ := h
  cases rx
  obtain ⟨u, rfl, ru⟩ := rv.one
  obtain ⟨z, its, n, r, hl, e⟩ := I.lstM hH
  refine call_meets F.slot_list_append ⟨_, e, rfl⟩ F.entry_list_append (F.args_list_append_2 _ _) (PySem.list_append l its.toArray n u (by rw [List.size_toArray]; omega)) ⟨e, ?_⟩
  refine ⟨.non, _, I.lset (its' := its ++ [u]) hH e (by simp) (r.append (.cons ru .nil)) ?_, rfl, q⟩
  rw [List.length_append, List.length_singleton]
  omega
def rExtend : V → List V → Hp → VK → Prop := fun x vs H Q => ∃ l b xs zs, x = .ref l ∧ vs = [.ref b] ∧ H l = some (.lst xs) ∧ H b = some (.lst zs) ∧ xs.length + zs.length ≤ sizeLine ∧ Q .non (upd H l (.lst (xs ++ zs)))
theorem mt_extend : MtM X "list.extend" rExtend := by
  intro pins s σ H x vs v us Q I rx rv h
  obtain ⟨l, b, xs, zs, rfl, rfl, hH, hB, hz, q⟩ := h
  cases rx
  obtain ⟨u, rfl, ru⟩ := rv.one
  cases ru
  obtain ⟨z, its, n, r, hl, e⟩ := I.lstM hH
  obtain ⟨z2, its2, n2, r2, hl2, e2⟩ := I.lstM hB
  have hsz : its.toArray.size + its2.toArray.size ≤ sizeLine := by rw [List.size_toArray, List.size_toArray]; omega
  have hlong : ¬ (!its.toArray.isEmpty && Builtin.List.listTooLong (its.toArray.size + its2.toArray.size)) = true := by
    rw [notLongL hsz, Bool.and_false]
    exact Bool.false_ne_true
  refine call_meets F.slot_list_extend ⟨_, e, rfl⟩ F.entry_list_extend (F.args_list_extend_2 _ _)
    (AutoSeq1.list_extend_list_list_0 l its.toArray n b its2.toArray n2 hlong (by rw [List.size_toArray]; omega) (by omega)) ⟨e, e2, ?_⟩
  refine ⟨.non, _, I.lset (its' := its ++ its2) hH e (by simp) (r.append r2) ?_, rfl, q⟩
  rw [List.length_append]
  omega
def rCat : R2 := fun x y H Q => ∃ l b xs zs, x = .ref l ∧ y = .ref b ∧ H l = some (.lst xs) ∧ H b = some (.lst zs) ∧ xs.length + zs.length ≤ sizeLine ∧ ∀ p, H p = none → Q (.ref p) (upd H p (.lst (xs ++ zs)))
theorem op_cat : OpR X (binaryOp .Add) rCat := by
  intro pins s σ H x y v u Q I rx ry h
  obtain ⟨l, b, xs, zs, rfl, rfl, hH, hB, hz, q⟩ := h
  cases rx
  cases ry
  obtain ⟨z, its, n, r, hl, e⟩ := I.lstM hH
  obtain ⟨z2, its2, n2, r2, hl2, e2⟩ := I.lstM hB
  refine PySem.P.add_list e e2 ?_ (by rw [List.size_toArray, List.size_toArray]; omega)
  have ea : its.toArray ++ its2.toArray = (its ++ its2).toArray := by simp
  rw [ea]
  exact ⟨.ref _, _, I.lnew (t' := s.toks) (r.append r2) (by rw [List.length_append]; omega), rfl, q _ I.fresh⟩
end
section
variable {prog : Program} {w : World} {A : Around} {E : Value → Shared → Prop} {s : Shared}
end
section
variable {X : Cx}
end
end L2
namespace L2
open PySem PySem.Spec PyProof.Rows
section
variable {κ : Type} [DecidableEq κ]
def valV (kvs : List (κ × V)) (k : κ) : Option V := (kvs.find? fun kv => decide (kv.1 = k)).map (·.2)
def putK (kvs : List (κ × V)) (k : κ) (v : V) : List (κ × V) :=
  if (kvs.any fun kv => decide (kv.1 = k)) = true then kvs.map (fun kv => if kv.1 = k then (kv.1, v) else kv) else kvs ++ [(k, v)]
def dropK (kvs : List (κ × V)) (k : κ) : List (κ × V) := kvs.filter fun kv => decide (kv.1 ≠ k)
theorem valV_pos {p : κ × V} {r : List (κ × V)} {k : κ} (e : p.1 = k) : valV (p :: r) k = some p.2 := by simp [valV, List.find?_cons, e]
theorem valV_neg {p : κ × V} {r : List (κ × V)} {k : κ} (e : ¬ p.1 = k) : valV (p :: r) k = valV r k := by simp [valV, List.find?_cons, e]
theorem valV_any (k : κ) : ∀ kvs : List (κ × V), (kvs.any fun kv => decide (kv.1 = k)) = (valV kvs k).isSome
  | [] => rfl
  | p :: r => by
    rw [List.any_cons]
    by_cases e : p.1 = k
    · simp only [valV_pos e, decide_eq_true e, Bool.true_or, Option.isSome_some]
    · rw [valV_neg e, decide_eq_false e, Bool.false_or]; exact valV_any k r
theorem length_putK (kvs : List (κ × V)) (k : κ) (v : V) : (putK kvs k v).length ≤ kvs.length + 1 := by
  unfold putK
  split
  · rw [List.length_map]; omega
  · rw [List.length_append, List.length_cons, List.length_nil]; omega
theorem putK_new {kvs : List (κ × V)} {k : κ} (v : V) (h : valV kvs k = none) : putK kvs k v = kvs ++ [(k, v)] := by
  unfold putK
  rw [valV_any, h]
  exact if_neg (by decide)
theorem RelO.isSome_eq {o : Option V} {u : Option Value} (r : RelO o u) : o.isSome = u.isSome := by
  cases o with
  | none => cases u with
    | none => rfl
    | some _ => exact (show False from r).elim
  | some _ => cases u with
    | none => exact (show False from r).elim
    | some _ => rfl
theorem KV.val {kvs : List (κ × V)} {vs : List (κ × Value)} (r : KV kvs vs) (k : κ) : RelO (valV kvs k) (valueAt vs k) := by
  unfold KV at r
  induction r with
  | nil => exact True.intro
  | @cons p q ps qs h t ih =>
    obtain ⟨h1, h2⟩ := h
    by_cases e : p.1 = k
    · have e' : q.1 = k := h1.symm.trans e
      have b : valueAt (q :: qs) k = some q.2 := by simp [valueAt, List.find?_cons, e']
      rw [valV_pos e, b]; exact h2
    · have e' : ¬ q.1 = k := fun z => e (h1.trans z)
      have b : valueAt (q :: qs) k = valueAt qs k := by simp [valueAt, List.find?_cons, e']
      rw [valV_neg e, b]; exact ih
theorem KV.any {kvs : List (κ × V)} {vs : List (κ × Value)} (r : KV kvs vs) (k : κ) : (kvs.any fun kv => decide (kv.1 = k)) = vs.any fun kv => decide (kv.1 = k) := by
  unfold KV at r
  induction r with
  | nil => rfl
  | cons h t ih => rw [List.any_cons, List.any_cons, ih, h.1]
theorem KV.repl {kvs : List (κ × V)} {vs : List (κ × Value)} (r : KV kvs vs) (k : κ) {y : V} {u : Value} (ry : RelV y u) :
    KV (kvs.map fun kv => if kv.1 = k then (kv.1, y) else kv) (vs.map fun kv => if kv.1 = k then (kv.1, u) else kv) := by
  unfold KV at r ⊢
  induction r with
  | nil => exact .nil
  | @cons p q ps qs h t ih =>
    rw [List.map_cons, List.map_cons]
    refine .cons ?_ ih
    obtain ⟨h1, h2⟩ := h
    by_cases e : p.1 = k
    · rw [if_pos e, if_pos (h1.symm.trans e)]; exact ⟨h1, ry⟩
    · rw [if_neg e, if_neg (fun z => e (h1.trans z))]; exact ⟨h1, h2⟩
theorem KV.put {kvs : List (κ × V)} {vs : List (κ × Value)} (r : KV kvs vs) (k : κ) {y : V} {u : Value} (ry : RelV y u) : KV (putK kvs k y) (stored vs k u) := by
  unfold putK stored
  rw [r.any k]
  by_cases e : (vs.any fun kv => decide (kv.1 = k)) = true
  · rw [if_pos e, if_pos e]; exact r.repl k ry
  · rw [if_neg e, if_neg e]; exact Paired.snoc r ⟨rfl, ry⟩
theorem KV.length {kvs : List (κ × V)} {vs : List (κ × Value)} (r : KV kvs vs) : kvs.length = vs.length := Paired.length r
theorem dropK_le (kvs : List (κ × V)) (k : κ) : (dropK kvs k).length ≤ kvs.length := List.length_filter_le _ _
end
theorem kV_is {P : Program} {w : World} {k : Key} {u : Value} (r : RelV (kV k) u) : (mixKind P w).is k u = true := by
  cases k with
  | inl i => obtain ⟨t, e⟩ := (show ∃ t, u = Value.int i t from r); subst e; exact mixKind_int P w i t
  | inr x => obtain ⟨t, e⟩ := (show ∃ t, u = Value.str x t from r); subst e; exact mixKind_str P w x t
theorem items_are {P : Program} {w : World} : ∀ {ks : List Key} {us : List Value}, Vals (ks.map kV) us → ItemsAre (mixKind P w) ks us
  | [], _, r => by rw [List.map_nil] at r; cases r; exact .nil
  | k :: ks, _, r => by
    rw [List.map_cons] at r
    cases r with
    | cons h t => exact .cons (kV_is h) (items_are t)
abbrev KT (H : Hp) : List (List Key × V) → List (List Key × Addr × Value) → Prop := Paired fun p q => p.1 = q.1 ∧ H q.2.1 = some (.tup (p.1.map kV)) ∧ RelV p.2 q.2.2
theorem KT.val {H : Hp} {kvs : List (List Key × V)} {xs : List (List Key × Addr × Value)} (r : KT H kvs xs) (k : List Key) : RelO (valV kvs k) ((atKey xs k).map (·.2)) := by
  induction r with
  | nil => exact True.intro
  | @cons p q ps qs h t ih =>
    obtain ⟨h1, _, h2⟩ := h
    by_cases e : p.1 = k
    · have e' : q.1 = k := h1.symm.trans e
      have b : atKey (q :: qs) k = some q.2 := by simp [atKey, List.find?_cons, e']
      rw [valV_pos e, b]; exact h2
    · have e' : ¬ q.1 = k := fun z => e (h1.trans z)
      have b : atKey (q :: qs) k = atKey qs k := by simp [atKey, List.find?_cons, e']
      rw [valV_neg e, b]; exact ih
theorem KT.repl {H : Hp} {kvs : List (List Key × V)} {xs : List (List Key × Addr × Value)} (r : KT H kvs xs) (k : List Key) {y : V} {u : Value} (ry : RelV y u) :
    KT H (kvs.map fun kv => if kv.1 = k then (kv.1, y) else kv) (xs.map (putAt k u)) := by
  induction r with
  | nil => exact .nil
  | @cons p q ps qs h t ih =>
    rw [List.map_cons, List.map_cons]
    refine .cons ?_ ih
    obtain ⟨h1, h2, h3⟩ := h
    unfold putAt
    by_cases e : p.1 = k
    · rw [if_pos e, if_pos (h1.symm.trans e)]; exact ⟨h1, h2, ry⟩
    · rw [if_neg e, if_neg (fun z => e (h1.trans z))]; exact ⟨h1, h2, h3⟩
theorem KT.put {H : Hp} {kvs : List (List Key × V)} {xs : List (List Key × Addr × Value)} (r : KT H kvs xs) (k : List Key) {b : Addr} {y : V} {u : Value} (hb : H b = some (.tup (k.map kV))) (ry : RelV y u) :
    KT H (putK kvs k y) (storedH xs k b u) := by
  have e : (kvs.any fun kv => decide (kv.1 = k)) = (atKey xs k).isSome := by
    rw [valV_any, (r.val k).isSome_eq, Option.isSome_map]
  unfold putK storedH
  rw [e]
  by_cases q : (atKey xs k).isSome = true
  · rw [if_pos q, if_pos q]; exact r.repl k ry
  · rw [if_neg q, if_neg q]; exact Paired.snoc r ⟨rfl, hb, ry⟩
theorem KT.keeps {H H' : Hp} {kvs : List (List Key × V)} {xs : List (List Key × Addr × Value)} (r : KT H kvs xs) (ht : ∀ b ys, H b = some (.tup ys) → H' b = some (.tup ys)) : KT H' kvs xs :=
  Paired.mapP r fun _ _ z => ⟨z.1, ht _ _ z.2.1, z.2.2⟩
section
variable {P : Program} {w : World} {H : Hp} {h : Heap} {a : Addr}
theorem rd_of {u : HO} (ok : HOk P w H h) (e : Rd H a u) : ObjOk P w H h a u := e.ok ok
theorem dk_rd {kvs : List (Key × V)} (ok : HOk P w H h) (e : Rd H a (.dK kvs)) : kvs.length ≤ sizeLine ∧ (a == sysModules) = false ∧ ∃ vs, KV kvs vs ∧ h.DictOf (mixKind P w) a vs :=
  show ObjOk P w H h a (.dK kvs) from rd_of ok e
theorem dk_of {kvs : List (Key × V)} (ok : HOk P w H h) (e : H a = some (.dK kvs)) : kvs.length ≤ sizeLine ∧ (a == sysModules) = false ∧ ∃ vs, KV kvs vs ∧ h.DictOf (mixKind P w) a vs := dk_rd ok (.inl e)
theorem key_of {ks : List Key} (ok : HOk P w H h) (e : H a = some (.tup (ks.map kV))) : (tupleKind (mixKind P w)).is h ks a := by
  obtain ⟨_, its, r, o, h1, h2, n, h3⟩ := (show ObjOk P w H h a (.tup (ks.map kV)) from ok a _ e)
  exact ⟨o, its.toArray, n, h1, h2, h3, by simpa using items_are r⟩
theorem dt_rd {kvs : List (List Key × V)} (ok : HOk P w H h) (e : Rd H a (.dT kvs)) : kvs.length ≤ sizeLine ∧ (a == sysModules) = false ∧
    ∃ xs, KT H kvs xs ∧ h.DictOfH (tupleKind (mixKind P w)) a xs := by
  obtain ⟨z, y, xs, r, o, es, ep, h1, h2, h3, h4, h5⟩ := (show ObjOk P w H h a (.dT kvs) from rd_of ok e)
  refine ⟨z, y, xs, r, o, es, ep, h1, h2, h3, h4, fun x hx => ?_, h5⟩
  have all : ∀ {l : List (List Key × V)} {m : List (List Key × Addr × Value)}, KT H l m → ∀ x ∈ m, (tupleKind (mixKind P w)).is h x.1 x.2.1 := by
    intro l m q
    induction q with
    | nil => intro x hx; exact nomatch hx
    | @cons p q ps qs hq t ih =>
      intro x hx
      rcases List.mem_cons.mp hx with e | hx
      · subst e
        exact key_of ok (by rw [← hq.1]; exact hq.2.1)
      · exact ih x hx
  exact all r x hx
theorem dt_of {kvs : List (List Key × V)} (ok : HOk P w H h) (e : H a = some (.dT kvs)) : kvs.length ≤ sizeLine ∧ (a == sysModules) = false ∧
    ∃ xs, KT H kvs xs ∧ h.DictOfH (tupleKind (mixKind P w)) a xs := dt_rd ok (.inl e)
end
def DGet (H : Hp) (a : Addr) (y : V) (r : Option V) : Prop :=
  (∃ kvs k, Rd H a (.dK kvs) ∧ y = kV k ∧ r = valV kvs k) ∨ ∃ kvs k b, Rd H a (.dT kvs) ∧ y = .ref b ∧ H b = some (.tup (k.map kV)) ∧ r = valV kvs k
def DPut (H : Hp) (a : Addr) (y v : V) (H' : Hp) : Prop :=
  (∃ kvs k, H a = some (.dK kvs) ∧ y = kV k ∧ kvs.length < sizeLine ∧ H' = upd H a (.dK (putK kvs k v))) ∨
  ∃ kvs k b, H a = some (.dT kvs) ∧ y = .ref b ∧ H b = some (.tup (k.map kV)) ∧ kvs.length < sizeLine ∧ H' = upd H a (.dT (putK kvs k v))
theorem DGet.t {H : Hp} {a b : Addr} {kvs : List (List Key × V)} {k : List Key} (e : H a = some (.dT kvs)) (eb : H b = some (.tup (k.map kV))) : DGet H a (.ref b) (valV kvs k) := .inr ⟨kvs, k, b, .inl e, rfl, eb, rfl⟩
theorem DPut.t {H : Hp} {a b : Addr} {kvs : List (List Key × V)} {k : List Key} {v : V} (e : H a = some (.dT kvs)) (eb : H b = some (.tup (k.map kV))) (hl : kvs.length < sizeLine) :
    DPut H a (.ref b) v (upd H a (.dT (putK kvs k v))) := .inr ⟨kvs, k, b, e, rfl, eb, hl, rfl⟩
section
variable {X : Cx} {pins : List (Addr × Obj)} {σ : St} {H : Hp} {s : Shared} {a : Addr} {y v : V} {u r : Value} {o : Option V} {A : Around} {E : Value → Shared → Prop}
theorem Inv.big (I : Inv X pins σ H s) : sysModules < s.heap.objs.size := by
  have h : mainGlobals < s.heap.objs.size := (I.mod.glob.keeps I.bk).lt
  exact Nat.lt_trans (by decide) h
theorem d_getItem {Q : Value → Shared → Prop} (hu : A.units + 1 < cLine) (I : Inv X pins σ H s) (g : DGet H a y (some v)) (ry : RelV y u) (h : ∀ w' s', Inv X pins σ H s' → RelV v w' → Q w' s') :
    wpAny (model X.prog X.w) A (getItem (.ref a) u) Q E s := by
  rcases g with ⟨kvs, k, e, ey, l⟩ | ⟨kvs, k, b, e, ey, eb, l⟩
  · subst ey
    obtain ⟨z, hd, vs, rel, dd⟩ := dk_rd I.hok e
    obtain ⟨w', hw, rw'⟩ := RelO.some_of (v := v) (o := valueAt vs k) (by rw [l]; exact rel.val k)
    exact wpAny_getItem_of (kV_is ry) dd.mapOf hw (h w' _ (I.tok _) rw')
  · subst ey
    cases (show u = Value.ref b from ry)
    obtain ⟨z, hd, xs, rel, dd⟩ := dt_rd I.hok e
    obtain ⟨w', hw, rw'⟩ := RelO.some_of (v := v) (o := (atKey xs k).map (·.2)) (by rw [l]; exact rel.val k)
    obtain ⟨p, hp, hp2⟩ := Option.map_eq_some_iff.mp hw
    refine wpAny_getItem_heap (tupleKind_room_in1 hu) (key_of I.hok eb) dd hp ?_
    rw [hp2]
    exact h w' _ (I.tok _) rw'
theorem d_in {Q : Value → Shared → Prop} (hu : A.units + 1 < cLine) (I : Inv X pins σ H s) (g : DGet H a y o) (ry : RelV y u) (h : ∀ s', Inv X pins σ H s' → Q (.bool o.isSome) s') :
    wpAny (model X.prog X.w) A (compareOp .In u (.ref a)) Q E s := by
  rcases g with ⟨kvs, k, e, ey, l⟩ | ⟨kvs, k, b, e, ey, eb, l⟩
  · subst ey
    obtain ⟨z, hd, vs, rel, dd⟩ := dk_rd I.hok e
    refine wpAny_in_of (kV_is ry) hd dd.mapOf ?_
    rw [← (rel.val k).isSome_eq, ← l]
    exact h _ (I.tok _)
  · subst ey
    cases (show u = Value.ref b from ry)
    obtain ⟨z, hd, xs, rel, dd⟩ := dt_rd I.hok e
    refine wpAny_in_heap (tupleKind_room_in1 hu) (key_of I.hok eb) hd dd ?_
    have q := (rel.val k).isSome_eq
    rw [Option.isSome_map] at q
    rw [← q, ← l]
    exact h _ (I.tok _)
theorem d_notIn {Q : Value → Shared → Prop} (hu : A.units + 1 < cLine) (I : Inv X pins σ H s) (g : DGet H a y o) (ry : RelV y u) (h : ∀ s', Inv X pins σ H s' → Q (.bool (!o.isSome)) s') :
    wpAny (model X.prog X.w) A (compareOp .NotIn u (.ref a)) Q E s := by
  rcases g with ⟨kvs, k, e, ey, l⟩ | ⟨kvs, k, b, e, ey, eb, l⟩
  · subst ey
    obtain ⟨z, hd, vs, rel, dd⟩ := dk_rd I.hok e
    refine wpAny_notIn_of (kV_is ry) hd dd.mapOf ?_
    rw [← (rel.val k).isSome_eq, ← l]
    exact h _ (I.tok _)
  · subst ey
    cases (show u = Value.ref b from ry)
    obtain ⟨z, hd, xs, rel, dd⟩ := dt_rd I.hok e
    refine wpAny_notIn_heap (tupleKind_room_in1 hu) (key_of I.hok eb) hd dd ?_
    have q := (rel.val k).isSome_eq
    rw [Option.isSome_map] at q
    rw [← q, ← l]
    exact h _ (I.tok _)
theorem d_write {h' : Heap} {t' : Nat} {ob : HO} (I : Inv X pins σ H s) (mu : Mut (H a)) (hs : Heap.SameBut a s.heap h') (he : ∃ q, h'.get? a = some q) (new : ObjOk X.prog X.w (upd H a ob) h' a ob) :
    Inv X pins σ (upd H a ob) { s with heap := h', toks := t' } :=
  I.write (x := a) (e := a) mu (.inl rfl) (fun b q hb z => (hs.2 b hb).trans z) he new
theorem dk_new {P : Program} {w : World} {H' : Hp} {h' : Heap} {kvs : List (Key × V)} {vs : List (Key × Value)} (z : kvs.length ≤ sizeLine) (hd : (a == sysModules) = false) (rel : KV kvs vs) (dd : h'.DictOf (mixKind P w) a vs) :
    ObjOk P w H' h' a (.dK kvs) := ⟨z, hd, vs, rel, dd⟩
theorem d_setItem {H' : Hp} {Q : Unit → Shared → Prop} (hu : A.units + 1 < cLine) (I : Inv X pins σ H s) (g : DPut H a y v H') (ry : RelV y u) (rv : RelV v r) (h : ∀ s', Inv X pins σ H' s' → Q () s') :
    wpAny (model X.prog X.w) A (setItem (.ref a) u r) Q E s := by
  rcases g with ⟨kvs, k, e, ey, l, eH⟩ | ⟨kvs, k, b, e, ey, eb, l, eH⟩
  · subst ey eH
    obtain ⟨z, hd, vs, rel, dd⟩ := dk_of I.hok e
    have hz : vs.length ≤ sizeLine := by rw [← rel.length]; exact z
    have hl : (putK kvs k v).length ≤ sizeLine := by have := length_putK kvs k v; omega
    refine wpAny_setItem_pairs (hsz := hz) (kV_is ry) dd fun h' dd' hs => h _ ?_
    have he : ∃ q, h'.get? a = some q := let ⟨q, _, _, hq, _⟩ := dd'; ⟨q, hq⟩
    exact d_write I (by rw [e]; exact True.intro) hs he (dk_new hl hd (rel.put k rv) dd')
  · subst ey eH
    cases (show u = Value.ref b from ry)
    obtain ⟨z, hd, xs, rel, dd⟩ := dt_of I.hok e
    have hz : xs.length ≤ sizeLine := by rw [← Paired.length rel]; exact z
    have hl : (putK kvs k v).length ≤ sizeLine := by have := length_putK kvs k v; omega
    refine wpAny_setItem_heap (hsz := hz) (tupleKind_room_in1 hu) (key_of I.hok eb) dd fun h' dd' hs => h _ ?_
    obtain ⟨q, es, ep, hq, h2, h3, h4, _, h5⟩ := dd'
    refine d_write I (by rw [e]; exact True.intro) hs ⟨q, hq⟩ ⟨hl, hd, _, (rel.put k eb rv).keeps fun c ys ec => ?_, q, es, ep, hq, h2, h3, h4, h5⟩
    rw [upd_ne (ne_of ec e (fun z => nomatch z))]
    exact ec
end
section
variable {X : Cx} {pins : List (Addr × Obj)} {σ : St} {H : Hp} {s : Shared} {a : Addr} {kvs : List (Key × V)} {k : Key} {u : Value} {A : Around} {E : Value → Shared → Prop}
end
def NoSl (i : Expr) : Prop := ∀ ov iv, subscripted i false ov iv = operate [ov, iv] (getItem ov iv)
theorem subD_of {prog : Program} {w : World} {A : Around} {E : Value → Shared → Prop} {s : Shared} {env : Env} {value slice : Expr} {pos : Pos} {T id : String} {Q : Value → Shared → Prop}
    (hl : typeLookup (.type T) "__getitem__" = pure (some (.builtin id))) (hs : NoSl slice)
    (h : wpAny (model prog w) A (eval value env) (fun o s₁ => wpAny (model prog w) A (eval slice env) (fun i s₂ => s₂.TypeIs o T ∧ wpAny (model prog w) A (getItem o i) Q E s₂) E s₁) E s) :
    wpAny (model prog w) A (eval (.Subscript value slice pos) env) Q E s := by
  refine Subscript_ (wpAny_mono h (fun o s₁ h₁ => wpAny_mono h₁ (fun i s₂ h₂ => ?_) fun _ _ x => x) fun _ _ x => x)
  obtain ⟨hT, h₂⟩ := h₂
  unfold subscriptTail
  refine wpAny_bind ?_
  rw [getitemInPython_of_ne hT.not_modules]
  refine wpAny_bind (wpAny_specialOf hT hl ?_)
  have fin : wpAny (model prog w) A (subscripted slice false o i) (fun r s₃ => wpAny (model prog w) A (letTemporaryGo value o r >>= fun _ => pure r) Q E s₃) E s₂ := by
    rw [hs o i]
    exact wpAny_operating (wpAny_mono h₂ (fun r s₃ h₃ => wpAny_bind (wpAny_letTemporaryGo (wpAny_pure h₃))) fun _ _ x => x)
  first
    | exact wpAny_pure (wpAny_bind fin)
    | exact wpAny_bind (wpAny_pure (wpAny_bind fin))
    | exact wpAny_bind fin
theorem dict_typeIs {X : Cx} {pins : List (Addr × Obj)} {σ : St} {H : Hp} {s : Shared} {a : Addr} {y : V} {o : Option V} (I : Inv X pins σ H s) (g : DGet H a y o) : s.TypeIs (.ref a) "dict" := by
  rcases g with ⟨kvs, k, e, _, _⟩ | ⟨kvs, k, b, e, _, _, _⟩
  · obtain ⟨_, _, vs, _, dd⟩ := dk_rd I.hok e
    exact dd.typeIs
  · obtain ⟨_, _, xs, _, dd⟩ := dt_rd I.hok e
    exact dd.typeIs
def tDGet (td ty : TE) : TE := fun σ H Q => td σ H fun x H1 => ty σ H1 fun y H2 => ∃ a v, x = .ref a ∧ DGet H2 a y (some v) ∧ Q v H2
section
variable {X : Cx} {o i e value : Expr} {pos pos' tpos : Pos} {td ty tv : TE}
theorem pe_dget (hu : X.A.units + 1 < cLine) (ho : PE X o td) (hi : PE X i ty) (hs : NoSl i) : PE X (.Subscript o i pos) (tDGet td ty) := by
  intro pins s σ H Q I h
  refine subD_of PySem.F.slot_dict_getitem.lookup hs (thn (ho pins s σ H _ I h) fun u s1 ⟨x, H1, I1, rx, q1⟩ => thn (hi pins s1 σ H1 _ I1 q1) fun iv s2 ⟨y, H2, I2, ry, a, v, ex, g, q2⟩ => ?_)
  subst ex
  obtain rfl : u = Value.ref a := rx
  exact ⟨dict_typeIs I2 g, d_getItem hu I2 g ry fun w' s3 I3 rw' => ⟨v, H2, I3, rw', q2⟩⟩
end
theorem dt_empty {P : Program} {w : World} {H : Hp} (h : Heap) (hb : sysModules < h.objs.size) : ObjOk P w H (h.push { cls := .type "dict", data := .dict #[] }) h.objs.size (.dT []) :=
  ⟨Nat.zero_le _, beq_eq_false_iff_ne.mpr (Ne.symm (Nat.ne_of_lt hb)), [], .nil, _, #[], 0, Heap.get?_push_size _ rfl, ⟨rfl, rfl, rfl⟩, rfl, rfl, List.nodup_nil⟩
def tDNewT : TE := fun _ H Q => ∀ p, H p = none → Q (.ref p) (upd H p (.dT []))
section
variable {X : Cx} {pos : Pos}
theorem pe_dnewT : PE X (.Dict [] [] pos) tDNewT := fun pins s σ H Q I h =>
  wpAny_Dict_empty ⟨.ref s.heap.objs.size, _, I.laid (a := s.heap.objs.size) (o := .dT []) (t' := s.toks) (fun _ _ q => Heap.get?_push_of_some _ q) (Nat.le_refl _) (dt_empty s.heap I.big), rfl, h _ (I.hok.fresh (Nat.le_refl _))⟩
end
structure M1 (X : Cx) (o : Expr) (m : Str) (apos : Pos) (e : Expr) (cpos : Pos) : Prop where
  base : attributeBase o m X.env (eval o X.env) = eval o X.env
  few : ((backTo cpos (starEach [e] X.env)).all (fun x => !x.1) && (backToKw cpos (keywordEach [] X.env)).all (fun x => x.1.isSome)
    && decide (([e] : List Expr).length + ([] : List Keyword).length + (if ([] : List Keyword).isEmpty then 0 else 1) < 30)) = true
  line : (apos.endLine == cpos.line) = true
  trees : backTo cpos (starEach [e] X.env) = [(false, eval e X.env)]
structure M2 (X : Cx) (o : Expr) (m : Str) (apos : Pos) (e f : Expr) (cpos : Pos) : Prop where
  base : attributeBase o m X.env (eval o X.env) = eval o X.env
  few : ((backTo cpos (starEach [e, f] X.env)).all (fun x => !x.1) && (backToKw cpos (keywordEach [] X.env)).all (fun x => x.1.isSome)
    && decide (([e, f] : List Expr).length + ([] : List Keyword).length + (if ([] : List Keyword).isEmpty then 0 else 1) < 30)) = true
  line : (apos.endLine == cpos.line) = true
  trees : backTo cpos (starEach [e, f] X.env) = [(false, eval e X.env), (false, eval f X.env)]
def IsD (H : Hp) (a : Addr) : Prop := (∃ kvs, Rd H a (.dK kvs)) ∨ ∃ kvs, Rd H a (.dT kvs)
theorem isD_at {X : Cx} {pins : List (Addr × Obj)} {σ : St} {H : Hp} {s : Shared} {a : Addr} (I : Inv X pins σ H s) (d : IsD H a) :
    s.TypeIs (.ref a) "dict" ∧ (∀ b, Value.ref a = .ref b → ∃ ob, s.heap.get? b = some ob ∧ ob.dict = none) ∧ (a == sysModules) = false := by
  rcases d with ⟨kvs, e⟩ | ⟨kvs, e⟩
  · obtain ⟨_, hd, vs, _, dd⟩ := dk_rd I.hok e
    refine ⟨dd.typeIs, fun b q => ?_, hd⟩
    cases q
    obtain ⟨ob, _, _, h1, h2, _⟩ := dd
    exact ⟨ob, h1, h2.2.1⟩
  · obtain ⟨_, hd, xs, _, dd⟩ := dt_rd I.hok e
    refine ⟨dd.typeIs, fun b q => ?_, hd⟩
    cases q
    obtain ⟨ob, _, _, h1, h2, _⟩ := dd
    exact ⟨ob, h1, h2.2.1⟩
section
variable {X : Cx} {pins : List (Addr × Obj)} {σ : St} {H : Hp} {s : Shared} {a : Addr} {y d : V} {u r : Value} {o : Option V} {A : Around} {E : Value → Shared → Prop}
end
section
variable {X : Cx} {o e f : Expr} {apos cpos : Pos} {td ty tx : TE}
end
section
variable {X : Cx} {pins : List (Addr × Obj)} {σ : St} {H : Hp} {s : Shared} {a : Addr} {kvs : List (Key × V)} {A : Around} {E : Value → Shared → Prop}
end
section
variable {X : Cx} {pins : List (Addr × Obj)} {σ : St} {H : Hp} {s : Shared} {a : Addr} {y : V} {u : Value} {A : Around} {E : Value → Shared → Prop}
end
end L2
namespace Att
open PySem PySem.W PySem.Calls PyProof.Rows
theorem ints_of_wellAll {P : Params} {h : Heap} : ∀ (ns : List Int) (vs : List Value), WellAll P h vs (ns.map WData.int) → IntsAre vs ns := by
  intro ns
  induction ns with
  | nil =>
    intro vs w
    rw [List.map_nil] at w
    cases w
    exact .nil
  | cons n ns ih =>
    intro vs w
    rw [List.map_cons] at w
    cases w with
    | cons a b =>
      cases a
      exact .cons _ _ (ih _ b)
theorem script_of {l : OpenLaw} {n : Nat} (hn : l.most = some n) {P : Params} {h : Heap} {args : List WData} {vals : List Value}
    (hpre : l.row.toRowW.claim.pre args = true) (hwl : WellAll P h vals args) :
    ∃ a vs ns, vals = [Value.ref a] ∧ args = [WData.list (ns.map WData.int)] ∧ h.get? a = some { cls := .type "list", data := .seq vs.toArray } ∧ IntsAre vs ns ∧ ns.length ≤ n := by
  have hsh : WShape.hasAll [] args [.list .int] = true := (pre_splitW hpre).1
  have hc : l.pre.holds [] { args := args } = true := (pre_splitW hpre).2
  obtain ⟨d, r, rfl, h1, h2⟩ := hasAllW_cons hsh
  obtain rfl := hasAllW_nil h2
  obtain ⟨xs, rfl, h3⟩ := hasW_list h1
  obtain ⟨ns, rfl⟩ := items_int h3
  have hlen : ns.length ≤ n := by
    unfold OpenLaw.pre at hc
    have h4 : (WTm.not (.lt (.lit (.int (n : Int))) (.len (.arg 0)))).holds [] { args := [.list (ns.map .int)] } = true := by
      have h4 := (holds_andW hc).1
      rw [hn] at h4
      exact h4
    have h5 := condW_of h4 (w_not (w_lt w_lit (w_len_list (w_arg rfl))))
    rw [List.length_map] at h5
    refine Nat.le_of_not_lt fun q => ?_
    have q' : (n : Int) < ((ns.length : Nat) : Int) := by omega
    first
      | (rw [decide_eq_true q'] at h5; exact absurd h5 (by decide))
      | (simp at h5; omega)
  cases hwl with
  | cons w1 w2 =>
    cases w2
    cases w1 with
    | list ho hall => exact ⟨_, _, ns, rfl, rfl, ho, ints_of_wellAll ns _ hall, hlen⟩
theorem post_true (l : OpenLaw) (args : List WData) : l.row.toRowW.claim.post args (.bool true) args = true :=
  postW_of (r := l.row.toRowW) (X := (true == true))
    (show WShape.has [] (.bool true) .bool = true by first | rfl | decide | simp [WShape.has, WShape.arms, WShape.armsAll])
    (show (WTm.eq .res (.lit (.bool true))).value [] { args := args, res := some (.bool true), after := args } = some (.bool (true == true)) from w_eq_bool (w_res rfl) w_lit) rfl
theorem attach_call {l : OpenLaw} {n : Nat} {q : Program} {loose : List Str} {XP : (Str → Option Value) → Heap → Prop} {YP : World → Heap → Prop} {d : DefRec}
    (hn : l.most = some n) (hdf : d.params.defaults = [])
    (call : ∀ (w : World) (s₀ s₁ : Shared) (mg mb : Str → Option Value) (fa : Addr) (o : Obj) (pm cd doc : Value) (a : Addr) (vs : List Value) (ns : List Int),
      Ground q loose [] XP w s₀ mg mb s₁.heap → YP w s₁.heap →
      s₁.heap.get? fa = some o → o.data = .func (docDef d.name d.params d.body d.scope pm cd doc) → s₁.heap.CodeRec cd d.name → mg d.name = some (.ref fa) →
      s₁.heap.get? a = some { cls := .type "list", data := .seq vs.toArray } → IntsAre vs ns → ns.length ≤ n → s₁.gens = #[] →
      codeAny (model l.prog w) callerA (.call (.ref fa) ⟨[.ref a], []⟩) (fun r s' => r = .ok (.ret (.bool true)) ∧ OldK s₁.heap s'.heap ∧ s'.os = s₁.os ∧ AllBare s'.gens) s₁) :
    WalkO q loose XP YP l.row.toRowW d [] (fun f vs => PySem.call f vs) := by
  intro w s₀ s₁ mg mb G Y fa o pm cd doc dV kV ho hd hcd hD hmg hg args vals as hpre hlay hrd hwl hlo
  obtain rfl : dV = .none := Dflts.none hD hdf
  obtain rfl : kV = .none := Dflts.noKw hD
  obtain ⟨a, vs, ns, rfl, rfl, hobj, hints, hlen⟩ := script_of hn hpre hwl
  refine enter_call (codeAny_mono (call w s₀ s₁ mg mb fa o pm cd doc a vs ns G Y ho (fd_plain hd) hcd hmg hobj hints hlen hg) fun r s' hq => ?_)
  obtain ⟨rfl, h2, h3, h4⟩ := hq
  exact ⟨.inl ⟨.bool true, .bool true, [], rfl, fun _ => rfl, .bool true, post_true l _, fun _ => ⟨List.Pairwise.nil, fun _ hm => (nomatch hm)⟩⟩, h2, h3, h4⟩
section
variable {prog : Program} {w : World} {A : Around} {E : Value → Shared → Prop} {s : Shared} {K : Frag}
end
end Att
namespace L2
open PySem PySem.Spec PyProof.Rows
theorem vals_ints : ∀ {vs : List Value} {ns : List Int}, IntsAre vs ns → Vals (ns.map V.int) vs
  | _, _, .nil => .nil
  | _, _, .cons n t h => .cons ⟨t, rfl⟩ (vals_ints h)
def Only (H : Hp) : Prop := ∀ b, H b = none ∨ ∃ o xs, H b = some (.frz o (.lst xs))
theorem law_call {P : Program} {w : World} {K : W.Frag} {mg mb : Str → Option Value} {CX : CXT} {k : Nat} {fa a : Addr} {fd : FuncData} {x : Str} {sp : Sp} {s₁ : Shared} {vs : List Value} {ns : List Int}
    (KX : K.In s₁.heap) (hns : s₁.heap.Ns mainGlobals mg) (hb : s₁.heap.Ns builtinsNs mb) (hbb : ∀ x : Str, x ≠ "__name__" → mb x = bootBuiltins x) (hlim : s₁.heap.NoLimit) (hg : s₁.gens = #[])
    (ha : s₁.heap.get? a = some { cls := .type "list", data := .seq vs.toArray }) (hi : IntsAre vs ns) (hl : ns.length ≤ sizeLine) (hr : Room k callerA)
    (F : ∀ base : Heap, K.In base → base.Ns mainGlobals mg → FnOk P w K mg base CX k fa fd [x] sp) (hbind : ∀ (s : Shared) (u : Value), BindsTo s fd ⟨[u], []⟩ [(x, u)])
    (hsp : ∀ H : Hp, Only H → SqL K H a (ns.map V.int) → sp [.ref a] H (fun v _ => v = .bl true) fun _ _ _ => False)
    (hCX : ∀ H e s', CX [] H s₁ (fun _ _ _ => False) e s' → False) :
    codeAny (model P w) callerA (.call (.ref fa) ⟨[.ref a], []⟩) (fun r s' => r = .ok (.ret (.bool true)) ∧ OldK s₁.heap s'.heap ∧ s'.os = s₁.os ∧ AllBare s'.gens) s₁ := by
  have rv := vals_ints hi
  have lenV := hi.length
  have core : ∀ H : Hp, Only H → SqL K H a (ns.map V.int) → HOk P w H s₁.heap → (∀ b, H b ≠ none → b = a) → (H a ≠ none → K.lookup a = none) →
      codeAny (model P w) callerA (.call (.ref fa) ⟨[.ref a], []⟩) (fun r s' => r = .ok (.ret (.bool true)) ∧ OldK s₁.heap s'.heap ∧ s'.os = s₁.os ∧ AllBare s'.gens) s₁ := by
    intro H hO hS hok hA hK
    have base_of : ∀ {b : Addr} {o : Obj}, s₁.heap.get? b = some o → H b = none → (hidT s₁.heap H).get? b = some o := fun e n => hidT_get e n
    have noA : ∀ {b : Addr} {o : Obj} {es : Array DictEntry} {ep : Nat}, s₁.heap.get? b = some o → o.data = .dict es ep → H b = none := fun {b o es ep} e d => by
      cases q : H b with
      | none => rfl
      | some u =>
        have e' : b = a := hA b (by rw [q]; simp)
        subst e'
        rw [ha] at e; cases e
        have d' : Data.seq vs.toArray _ = Data.dict es ep := d
        cases d'
    have nsK : ∀ {b : Addr} {m : Str → Option Value}, s₁.heap.Ns b m → (hidT s₁.heap H).Ns b m := fun {b m} ⟨o, es, ep, e, d, r⟩ => ⟨o, es, ep, base_of e (noA e d), d, r⟩
    have hKb : K.In (hidT s₁.heap H) := fun b o e => base_of (KX b o e) (by
      cases q : H b with
      | none => rfl
      | some u =>
        have e' : b = a := hA b (by rw [q]; simp)
        subst e'
        rw [hK (by rw [q]; simp)] at e; cases e)
    have hM : Mod K mg (hidT s₁.heap H) := ⟨hKb, nsK hns, ⟨mb, nsK hb, hbb⟩, let ⟨mc, h1, h2⟩ := hlim; ⟨mc, nsK h1, h2⟩⟩
    have e0 : Env0 P w K mg (hidT s₁.heap H) callerA [] s₁ H := ⟨rfl, hM, fun b o e => of_hidT e, Nat.le_of_eq (hidT_size _ _), trivial, fun b hb => absurd (show b ∈ ([] : List Addr) from hb) (by simp), hok, .of_eq hg⟩
    refine codeAny_mono ((F _ hKb (nsK hns)).run callerA [] s₁ H ⟨[.ref a], []⟩ [.ref a] [.ref a] _ _ hr e0 (hbind s₁ (.ref a)) (.cons rfl .nil) (hsp H hO hS)) fun r s' h => ?_
    cases r with
    | error e => exact (hCX H e s' h).elim
    | ok fl =>
      cases fl with
      | next => exact False.elim h
      | brk => exact False.elim h
      | cont => exact False.elim h
      | ret u =>
        obtain ⟨v, H', os, bare, un, hok', r', q⟩ := h
        have q' : v = .bl true := q
        subst q'
        obtain rfl : u = Value.bool true := r'
        refine ⟨rfl, OldK.of_keep fun b o e => ?_, os, bare⟩
        cases q : H b with
        | none => exact un.keep b o e q (by intro z; exact absurd (show b ∈ ([] : List Addr) from z) (by simp)) (by simp)
        | some u =>
          rcases hO b with z | ⟨ob, xs, z⟩
          · rw [q] at z; cases z
          · have z2 := un.frzs b ob _ z
            obtain ⟨e1, _⟩ := hok b _ z
            obtain ⟨e2, _⟩ := hok' b _ z2
            rw [e] at e1; cases e1
            exact e2
  cases hk : K.lookup a with
  | some o =>
    have e := KX a o hk
    rw [ha] at e
    cases e
    refine core (fun _ => none) (fun _ => .inl rfl) (.inr ⟨_, vs.toArray, _, hk, rfl, rfl, rfl, by rw [List.size_toArray, lenV]; exact hl, by simpa using rv⟩) (fun b u z => by have z' : (none : Option HO) = some u := z; cases z') (fun b z => absurd rfl z) fun z => absurd rfl z
  | none =>
    refine core (fun b => if b = a then some (.frz { cls := .type "list", data := .seq vs.toArray } (.lst (ns.map V.int))) else none) (fun b => ?_) (.inl (.inr ⟨{ cls := .type "list", data := .seq vs.toArray }, if_pos rfl⟩)) (fun b u z => ?_) (fun b z => ?_) fun _ => hk
    · by_cases hb : b = a
      · exact .inr ⟨_, _, if_pos hb⟩
      · exact .inl (if_neg hb)
    · by_cases hb : b = a
      · have z' := (if_pos hb).symm.trans z
        cases z'
        subst hb
        exact ⟨ha, by rw [List.length_map]; exact hl, vs, _, rv, ha⟩
      · have z' := (if_neg hb).symm.trans z
        cases z'
    · by_cases hb : b = a
      · exact hb
      · exact absurd (if_neg hb) z
end L2
namespace L2
open PySem PySem.Spec PyProof.Rows
theorem walk_of {l : W.OpenLaw} {n k : Nat} {q : Program} {loose : List Str} {XP : (Str → Option Value) → Heap → Prop} {YP : World → Heap → Prop} {d : DefRec} {K : Params → W.Frag} {CX : World → CXT} {sp : World → Sp} {x : Str}
    (hn : l.most = some n) (hn2 : n ≤ sizeLine) (hdf : d.params.defaults = []) (hr : Room k callerA)
    (hY : ∀ (w : World) (h : Heap), YP w h → (K w.params).In h)
    (F : ∀ (w : World) (mg : Str → Option Value) (fa : Addr) (h : Heap), (K w.params).In h → h.Ns mainGlobals mg → mg d.name = some (.ref fa) →
      ∃ fd : FuncData, (∀ (s : Shared) (u : Value), BindsTo s fd ⟨[u], []⟩ [(x, u)]) ∧
        ∀ base : Heap, (K w.params).In base → base.Ns mainGlobals mg → FnOk l.prog w (K w.params) mg base (CX w) k fa fd [x] (sp w))
    (hsp : ∀ (w : World) (H : Hp) (a : Addr) (ns : List Int), ns.length ≤ n → Only H → SqL (K w.params) H a (ns.map V.int) → sp w [.ref a] H (fun v _ => v = .bl true) fun _ _ _ => False)
    (hCX : ∀ (w : World) (H : Hp) (s : Shared) (e : Value) (s' : Shared), CX w [] H s (fun _ _ _ => False) e s' → False) :
    W.WalkO q loose XP YP l.row.toRowW d [] (fun f vs => PySem.call f vs) := by
  refine Att.attach_call hn hdf fun w s₀ s₁ mg mb fa o pm cd doc a vs ns G Y ho hd hcd hmg hobj hints hlen hg => ?_
  have KX := hY w _ Y
  obtain ⟨fd, hb, hF⟩ := F w mg fa _ KX G.T.g hmg
  exact law_call KX G.T.g G.T.b G.T.builtins G.T.nolimit hg hobj hints (Nat.le_trans hlen hn2) hr hF hb (fun H hO hS => hsp w H a ns hlen hO hS) fun H e s' => hCX w H s₁ e s'
end L2
/- THE LAST THEOREM (shape; LID, My.* are yours):
   My.Adr: a structure of the addresses that your layer names (classes, functions); My.Txt K t: a structure (Prop) of the equations over K;
   My.txt_mk : {K} {implicit addresses ..} (e1 : nsIn K mainGlobals "law" = some (some (.ref f))) (e2 : K.lookup f = some ⟨oc, od, .func (fnOf "law" "law" params body scope dV kV doc pm an cdv ct), sl⟩) (e3 : codeIn K cdv "law" = true) .. : ∃ t, My.Txt K t
set_option maxRecDepth 100000 in
set_option maxHeartbeats 0 in
theorem PySem.Challenge.cw_LID_holds : PySem.Challenge.rw_LID.Holds := by
  w_on; o_law; k_head; (case hw => w_witness2)
  k_fill
  refine L2.walk_of (l := PySem.Challenge.rw_LID) (n := 63) (k := 40) (x := "script") (CX := fun w => ..) (sp := fun _ => My.sp_law) rfl (by decide) rfl ⟨rfl, by decide, by decide⟩ (fun w h Y => W.kIn_of Y) ?F ?S ?C
  case F =>
    intro w mg fa h KX G hmg
    have T : ∃ t, My.Txt (L2.KOf KX) t := by
      dsimp only [L2.KOf]                          -- K must stand as «<heap const> w.params» for k_is
      refine' My.txt_mk ?e1 ?e2 ?e3 ..
      (case e1 => W.k_is)                    -- in the order: a name -> its address -> its object -> its parts
      (case e2 => W.k_is)
      ..
    obtain ⟨t, T⟩ := T
    have e0 := hmg.symm.trans (W.mg_of KX G T.law)
    cases e0                                       -- fa is the law's own address
    exact ⟨_, fun s u => .of_eq rfl, fun base kb nb => My.law_fn T kb nb⟩     -- if «.of_eq rfl» comes too early: refine' ⟨_, ?b, fun base kb nb => My.law_fn T kb nb⟩; exact fun s u => .of_eq rfl
  case S => exact fun w H a ns hl hO hS => ..
  case C => exact ..
(the tactic k_is has no namespace: write k_is) -/
namespace L2
open PySem PySem.Spec PyProof.Rows
def inClass (s : Stmt) (j : Nat) : Stmt := match s with
  | .ClassDef _ _ _ body _ _ _ _ _ _ _ => body.getD j (.Pass ⟨0, 0, 0, 0⟩)
  | _ => .Pass ⟨0, 0, 0, 0⟩
def defArgs (s : Stmt) : Arguments := match s with
  | .FunctionDef _ a _ _ _ _ _ _ _ _ => a
  | _ => { posonlyargs := [], args := [], vararg := none, kwonlyargs := [], kw_defaults := [], kwarg := none, defaults := [] }
def defBody (s : Stmt) : List Stmt := match s with
  | .FunctionDef _ _ b _ _ _ _ _ _ _ => b
  | _ => []
def defScope (s : Stmt) : Scope := match s with
  | .FunctionDef _ _ _ _ _ _ sc _ _ _ => sc
  | _ => { kind := .function, names := [], isGenerator := false, isCoroutine := false }
abbrev CX0 : CXT := fun _ _ _ _ _ _ => False
abbrev E0 : XK := fun _ _ _ => False
theorem pass0 {X : Cx} : Passes CX0 X E0 := fun _ _ _ _ _ _ _ h => h.elim
structure Fun (K : W.Frag) (x qual : Str) (st : Stmt) (f : Addr) (fd : FuncData) : Prop where
  ex : ∃ (oc : Value) (od : Option Addr) (kV doc pm : Value) (an : Option Addr) (cdv ct : Value) (osl : Array (Option Value)),
    fd = W.fnOf x qual (defArgs st) (defBody st) (defScope st) .none kV doc pm an cdv ct ∧ K.lookup f = some ⟨oc, od, .func fd, osl⟩ ∧ W.codeIn K cdv qual = true
  kp : W.keepIn K (.ref f) = true
section
variable {P : Program} {w : World} {K : W.Frag} {mg : Str → Option Value} {base : Heap}
theorem Fun.ok {x qual : Str} {st : Stmt} {f : Addr} {fd : FuncData} {N ps : List Str} {k : Nat} {sp : Sp} (F : Fun K x qual st f fd) (S : FnScope N ps (defScope st)) (len : ∀ vs H Q E, sp vs H Q E → vs.length = ps.length)
    (hbody : ∀ (cdv : Value) (A : Around) (outer : List Env) (s : Shared) (H : Hp) (vs : List V) (Q : VK) (E : XK), Room k (A.deeper (envOfC qual (defScope st) s.heap.objs.size f cdv)) → sp vs H Q E →
      ∃ t, PSs (cxOf CX0 P w K mg base N qual (defScope st) f cdv A outer s H E).nox (defBody st) t ∧ t { nx := fun _ H' => Q .non H', rt := Q } (start N vs) H) : FnOk P w K mg base CX0 (k + 1) f fd ps sp := by
  obtain ⟨oc, od, kV, doc, pm, an, cdv, ct, osl, rfl, lk, hcd⟩ := F.ex
  refine fn_of lk hcd S len fun A outer s H vs Q E hr hsp => ?_
  obtain ⟨t, h, q⟩ := hbody cdv A outer s H vs Q E hr hsp
  exact ⟨t, h.nox, q⟩
theorem Fun.binds {x qual : Str} {st : Stmt} {f : Addr} {fd : FuncData} {ps : List Str} (F : Fun K x qual st f fd)
    (h : ∀ (kV doc pm : Value) (an : Option Addr) (cdv ct : Value) (us : List Value), us.length = ps.length → bindArgs (W.fnOf x qual (defArgs st) (defBody st) (defScope st) .none kV doc pm an cdv ct) ⟨us, []⟩ = pure (ps.zip us)) : Binds K fd ps [] := by
  obtain ⟨oc, od, kV, doc, pm, an, cdv, ct, osl, rfl, lk, hcd⟩ := F.ex
  exact .all (h kV doc pm an cdv ct)
theorem fun_mk {x qual : Str} {st : Stmt} {f : Addr} {oc : Value} {od an : Option Addr} {osl : Array (Option Value)} {kV doc pm cdv ct : Value} (l : K.lookup f = some ⟨oc, od, .func (W.fnOf x qual (defArgs st) (defBody st) (defScope st) .none kV doc pm an cdv ct), osl⟩)
    (c : W.codeIn K cdv qual = true) (k : W.keepIn K (.ref f) = true) : Fun K x qual st f (W.fnOf x qual (defArgs st) (defBody st) (defScope st) .none kV doc pm an cdv ct) := ⟨⟨oc, od, kV, doc, pm, an, cdv, ct, osl, rfl, l, c⟩, k⟩
end
theorem hu_of {A : Around} {k : Nat} (hr : Room k A) : A.units + 1 < cLine := Nat.lt_of_le_of_lt (Nat.add_le_add_left (by decide : 1 ≤ 64) _) hr.units
section
variable {X : Cx}
end
def Same (H H' : Hp) : Prop := ∀ b o, H b = some o → H' b = some o
theorem Same.refl (H : Hp) : Same H H := fun _ _ h => h
theorem Same.trans {H H1 H2 : Hp} (a : Same H H1) (b : Same H1 H2) : Same H H2 := fun c o h => b c o (a c o h)
theorem Same.free {H H' : Hp} (e : Same H H') {l : Addr} (h : H' l = Option.none) : H l = Option.none := by
  cases q : H l with
  | none => rfl
  | some o =>
    rw [e l o q] at h
    cases h
section
variable {κ : Type} [DecidableEq κ]
theorem valV_not {kvs : List (κ × V)} {k : κ} (h : valV kvs k = none) : ¬ k ∈ kvs.map (·.1) := by
  intro m
  obtain ⟨p, hp, e⟩ := List.mem_map.mp m
  have q : (kvs.any fun kv => decide (kv.1 = k)) = true := List.any_eq_true.mpr ⟨p, hp, decide_eq_true e⟩
  rw [valV_any, h] at q
  exact absurd q (by simp)
theorem valV_in {kvs : List (κ × V)} {k : κ} {v : V} (h : valV kvs k = some v) : k ∈ kvs.map (·.1) := by
  have q : (kvs.any fun kv => decide (kv.1 = k)) = true := by
    rw [valV_any, h]
    all_goals rfl
  obtain ⟨p, hp, e⟩ := List.any_eq_true.mp q
  exact List.mem_map.mpr ⟨p, hp, of_decide_eq_true e⟩
theorem nd_snoc : ∀ {l : List κ} {k : κ}, l.Nodup → ¬ k ∈ l → (l ++ [k]).Nodup
  | [], k, _, _ => by simp
  | a :: r, k, h, hk => by
    obtain ⟨h1, h2⟩ := List.nodup_cons.mp h
    show (a :: (r ++ [k])).Nodup
    refine List.nodup_cons.mpr ⟨fun m => ?_, nd_snoc h2 fun m => hk (List.mem_cons.mpr (Or.inr m))⟩
    rcases List.mem_append.mp m with q | q
    · exact h1 q
    · exact hk (List.mem_cons.mpr (Or.inl (List.mem_singleton.mp q).symm))
theorem nd_putK {kvs : List (κ × V)} {k : κ} (v : V) (hn : (kvs.map (·.1)).Nodup) (h : valV kvs k = none) : ((putK kvs k v).map (·.1)).Nodup := by
  rw [putK_new v h, List.map_append]
  exact nd_snoc hn (valV_not h)
theorem dropK_pos {p : κ × V} {r : List (κ × V)} {k : κ} (e : p.1 = k) : dropK (p :: r) k = dropK r k := by
  unfold dropK
  rw [List.filter_cons, if_neg (by simp [e])]
theorem dropK_neg {p : κ × V} {r : List (κ × V)} {k : κ} (e : ¬ p.1 = k) : dropK (p :: r) k = p :: dropK r k := by
  unfold dropK
  rw [List.filter_cons, if_pos (by simp [e])]
theorem dropK_no : ∀ {kvs : List (κ × V)} {k : κ}, ¬ k ∈ kvs.map (·.1) → dropK kvs k = kvs
  | [], _, _ => rfl
  | p :: r, k, h => by
    have h' : ¬ k ∈ r.map (·.1) := fun m => by
      obtain ⟨q, hq, e⟩ := List.mem_map.mp m
      exact h (List.mem_map.mpr ⟨q, List.mem_cons.mpr (Or.inr hq), e⟩)
    rw [dropK_neg fun e => h (List.mem_map.mpr ⟨p, List.mem_cons.mpr (Or.inl rfl), e⟩), dropK_no h']
theorem dropK_mem {kvs : List (κ × V)} {k : κ} {p : κ × V} (h : p ∈ dropK kvs k) : p ∈ kvs := (List.mem_filter.mp h).1
theorem nd_dropK : ∀ {kvs : List (κ × V)} {k : κ}, (kvs.map (·.1)).Nodup → ((dropK kvs k).map (·.1)).Nodup
  | [], _, _ => List.nodup_nil
  | p :: r, k, h => by
    have h : (p.1 :: r.map (·.1)).Nodup := h
    obtain ⟨h1, h2⟩ := List.nodup_cons.mp h
    by_cases e : p.1 = k
    · rw [dropK_pos e]
      exact nd_dropK h2
    · rw [dropK_neg e]
      show (p.1 :: (dropK r k).map (·.1)).Nodup
      refine List.nodup_cons.mpr ⟨fun m => h1 ?_, nd_dropK h2⟩
      obtain ⟨q, hq, eq⟩ := List.mem_map.mp m
      exact List.mem_map.mpr ⟨q, dropK_mem hq, eq⟩
end
end L2
namespace L2
open PySem PySem.Spec PyProof.Rows
def clOf (env : Env) : List (Str × NameKind) → List (Str × Addr) → List (Str × Addr)
  | [], cs => cs
  | (n, k) :: r, cs => clOf env r (if k = .free then (match env.cells.lookup n with | some c => (n, c) :: cs | none => cs) else cs)
theorem closure_go {env : Env} : ∀ (names : List (Str × NameKind)) (cs : List (Str × Addr)), (∀ x ∈ names, x.2 = .free → ∃ c, env.cells.lookup x.1 = some c) →
    (forIn names cs fun (x : Str × NameKind) (r : List (Str × Addr)) => (do
      if x.2 == .free then do
        let c ← cellOf env x.1
        pure (ForInStep.yield ((x.1, c) :: r))
      else pure (ForInStep.yield r) : Sem _)) = pure (clOf env names cs)
  | [], cs, _ => rfl
  | (n, k) :: r, cs, h => by
    rw [List.forIn_cons]
    by_cases hk : k = .free
    · subst hk
      obtain ⟨c, hc⟩ := h (n, .free) List.mem_cons_self rfl
      have hc' : env.cells.lookup n = some c := hc
      have e1 : cellOf env n = pure c := by unfold cellOf; rw [hc']
      simp only [beq_self_eq_true, if_true, e1, pure_bind]
      rw [closure_go r ((n, c) :: cs) fun x hx => h x (List.mem_cons_of_mem _ hx)]
      simp [clOf, hc']
    · have hb : (k == NameKind.free) = false := by simpa using hk
      simp only [hb, Bool.false_eq_true, if_false, pure_bind]
      rw [closure_go r cs fun x hx => h x (List.mem_cons_of_mem _ hx)]
      simp [clOf, hk]
theorem closure_ok {scope : Scope} {env : Env} (h : ∀ x ∈ scope.names, x.2 = .free → ∃ c, env.cells.lookup x.1 = some c) : closureFor scope env = pure (clOf env scope.names []) := by
  have e := closure_go scope.names [] h
  unfold closureFor
  exact (congrArg (fun z => z >>= fun (r : List (Str × Addr)) => (pure r : Sem _)) e).trans (pure_bind _ _)
theorem cl_sound {env : Env} : ∀ (names : List (Str × NameKind)) (cs : List (Str × Addr)), (∀ y d, (y, d) ∈ cs → env.cells.lookup y = some d) → ∀ y d, (y, d) ∈ clOf env names cs → env.cells.lookup y = some d
  | [], _, h => h
  | (n, k) :: r, cs, h => by
    unfold clOf
    refine cl_sound r _ fun y d hm => ?_
    split at hm
    · split at hm
      · rename_i c hc
        rcases List.mem_cons.mp hm with e | e
        · cases e; exact hc
        · exact h y d e
      · exact h y d hm
    · exact h y d hm
theorem cl_from {env : Env} : ∀ (names : List (Str × NameKind)) (cs : List (Str × Addr)) (y : Str) (d : Addr), (y, d) ∈ clOf env names cs → (y, .free) ∈ names ∨ (y, d) ∈ cs
  | [], _, _, _, h => .inr h
  | (n, k) :: r, cs, y, d, h => by
    unfold clOf at h
    rcases cl_from r _ y d h with e | hm
    · exact .inl (List.mem_cons_of_mem _ e)
    · split at hm
      · rename_i hk
        split at hm
        · rcases List.mem_cons.mp hm with e | e
          · cases e; subst hk; exact .inl List.mem_cons_self
          · exact .inr e
        · exact .inr hm
      · exact .inr hm
theorem cl_has {env : Env} : ∀ (names : List (Str × NameKind)) (cs : List (Str × Addr)) (y : Str), ((∃ d, (y, d) ∈ cs) ∨ (y, .free) ∈ names) → (∀ x ∈ names, x.2 = .free → ∃ c, env.cells.lookup x.1 = some c) → ∃ d, (y, d) ∈ clOf env names cs
  | [], _, _, h, _ => by
    rcases h with h | h
    · exact h
    · cases h
  | (n, k) :: r, cs, y, h, hf => by
    unfold clOf
    refine cl_has r _ y ?_ fun x hx => hf x (List.mem_cons_of_mem _ hx)
    rcases h with ⟨d, hd⟩ | h
    · refine .inl ⟨d, ?_⟩
      split
      · split
        · exact List.mem_cons_of_mem _ hd
        · exact hd
      · exact hd
    · rcases List.mem_cons.mp h with e | e
      · have e1 : y = n := congrArg Prod.fst e
        have e2 : NameKind.free = k := congrArg Prod.snd e
        subst e1 e2
        obtain ⟨c, hc⟩ := hf (y, .free) List.mem_cons_self rfl
        have hc' : env.cells.lookup y = some c := hc
        refine .inl ⟨c, ?_⟩
        rw [if_pos rfl, hc']
        exact List.mem_cons_self
      · exact .inr e
theorem mem_lookup {α : Type} : ∀ {l : List (Str × α)} {y : Str} {d : α}, (y, d) ∈ l → ∃ d', l.lookup y = some d' ∧ (y, d') ∈ l
  | (n, c) :: r, y, d, h => by
    by_cases e : y = n
    · subst e
      exact ⟨c, by simp [List.lookup_cons], List.mem_cons_self⟩
    · rcases List.mem_cons.mp h with q | q
      · cases q; exact absurd rfl e
      · obtain ⟨d', h1, h2⟩ := mem_lookup q
        have hb : (y == n) = false := by simpa using e
        exact ⟨d', by rw [List.lookup_cons, hb]; exact h1, List.mem_cons_of_mem _ h2⟩
theorem cl_lookup {env : Env} {names : List (Str × NameKind)} {y : Str} {c : Addr} (h : (clOf env names []).lookup y = some c) : env.cells.lookup y = some c ∧ (y, .free) ∈ names := by
  have hm := PySem.mem_of_lookup h
  refine ⟨cl_sound names [] (fun _ _ z => nomatch z) y c hm, ?_⟩
  rcases cl_from names [] y c hm with e | e
  · exact e
  · cases e
theorem cl_some {env : Env} {names : List (Str × NameKind)} {y : Str} (h : (y, .free) ∈ names) (hf : ∀ x ∈ names, x.2 = .free → ∃ c, env.cells.lookup x.1 = some c) : ∃ c, (clOf env names []).lookup y = some c ∧ env.cells.lookup y = some c := by
  obtain ⟨d, hd⟩ := cl_has names [] y (.inr h) hf
  obtain ⟨c, hc, _⟩ := mem_lookup hd
  exact ⟨c, hc, (cl_lookup hc).1⟩
theorem relabel_free {scope : Scope} {env : Env} (hcell : ∀ y ∈ scope.names, y.2 ≠ .cell) {x : Str} (h : (relabel scope env).names.lookup x = some .cell ∨ (relabel scope env).names.lookup x = some .free) : (x, .free) ∈ scope.names := by
  have go : ∀ {k : NameKind}, k = .cell ∨ k = .free → (relabel scope env).names.lookup x = some k → (x, .free) ∈ scope.names := fun {k} hk h => by
    have hm := PySem.mem_of_lookup h
    unfold relabel at hm
    obtain ⟨⟨n, j⟩, hp, e⟩ := List.mem_map.mp hm
    dsimp only at e
    split at e
    · rename_i hc
      cases e
      have : j = .free := by
        have := (Bool.and_eq_true_iff.mp (Bool.and_eq_true_iff.mp hc).1).1
        simpa using this
      subst this; exact hp
    · cases e
      rcases hk with q | q
      · exact absurd q (hcell _ hp)
      · subst q; exact hp
  rcases h with h | h
  · exact go (.inl rfl) h
  · exact go (.inr rfl) h
theorem relabel_some {env : Env} : ∀ {names : List (Str × NameKind)} {x : Str}, names.lookup x = some .free →
    (names.map fun (n, k) => if (k == NameKind.free && env.scope.kind == .function && env.kindOf n == some .cell) then (n, NameKind.cell) else (n, k)).lookup x = some .cell ∨
    (names.map fun (n, k) => if (k == NameKind.free && env.scope.kind == .function && env.kindOf n == some .cell) then (n, NameKind.cell) else (n, k)).lookup x = some .free
  | [], _, h => by simp at h
  | (n, k) :: r, x, h => by
    have ih := @relabel_some env r x
    rw [List.map_cons]
    dsimp only
    cases hx : x == n with
    | true =>
      simp only [List.lookup_cons, hx] at h
      cases h
      split
      · left; simp [List.lookup_cons, hx]
      · right; simp [List.lookup_cons, hx]
    | false =>
      simp only [List.lookup_cons, hx] at h
      split
      · simp only [List.lookup_cons, hx]; exact ih h
      · simp only [List.lookup_cons, hx]; exact ih h
def cxC (X : Cx) (scope : Scope) (C : Addr) (N : List Str) (s₂ : Shared) (H₂ : Hp) (fp : List Addr) : Cx where
  prog := X.prog
  w := X.w
  K := X.K
  mg := X.mg
  base := X.base
  A := X.A
  N := N
  s₀ := s₂
  H₀ := H₂
  env := compEnvC scope (clOf X.env scope.names []) C X.env
  outer := X.stack
  stack := X.stack
  ex := fp
  fn := fun _ => false
  calm := X.calm
  pn := []
  xe := fun _ _ => False
def stC (js : List (Option Nat)) (σ : St) : St := js.map fun o => match o with | some j => (σ[j]?).getD none | none => none
structure CompScope (X : Cx) (scope : Scope) (N : List Str) (js : List (Option Nat)) : Prop where
  kind : scope.kind = .function
  nocell : ∀ y ∈ scope.names, y.2 ≠ .cell
  loc : ∀ y ∈ scope.names, y.2 = .local → scope.names.lookup y.1 = some .local
  len : js.length = N.length
  cap : ∀ (i j : Nat), js[i]? = some (some j) → ∃ x, N[i]? = some x ∧ X.N[j]? = some x ∧ scope.names.lookup x = some .free
  out : ∀ y ∈ scope.names, y.2 = .free → X.env.kindOf y.1 = some .cell ∨ X.env.kindOf y.1 = some .free
def GOwn (js : List (Option Nat)) (g : TG) : Prop := ∀ x σ H Q, g x σ H Q → g x σ H fun σ2 H2 => Q σ2 H2 ∧ σ2.length = σ.length ∧ ∀ (i j : Nat), js[i]? = some (some j) → σ2[i]? = σ[i]?
def GOwns (js : List (Option Nat)) (g : TGs) : Prop := ∀ xs σ H Q, g xs σ H Q → g xs σ H fun σ2 H2 => Q σ2 H2 ∧ σ2.length = σ.length ∧ ∀ (i j : Nat), js[i]? = some (some j) → σ2[i]? = σ[i]?
theorem gown_name {js : List (Option Nat)} {k : Nat} (h : js[k]? = some none) : GOwn js (gName k) := fun x σ H Q q => by
  refine ⟨q, by simp, fun i j e => ?_⟩
  have : k ≠ i := fun z => by subst z; rw [h] at e; cases e
  rw [List.getElem?_set_ne this]
theorem gowns_nil {js : List (Option Nat)} : GOwns js gNil := fun xs σ H Q q => ⟨q.1, q.2, rfl, fun _ _ _ => rfl⟩
theorem gowns_cons {js : List (Option Nat)} {k : Nat} {u : TGs} (h : js[k]? = some none) (hu : GOwns js u) : GOwns js (gCons (gName k) u) := fun xs σ H Q q => by
  obtain ⟨v, r, e, q⟩ := q
  refine ⟨v, r, e, ?_⟩
  obtain ⟨_, h2⟩ := gown_name h v σ H (fun _ _ => True) trivial
  have q2 := hu r _ _ _ q
  have e2 : (fun σ2 H2 => Q σ2 H2 ∧ σ2.length = (σ.set k (some v)).length ∧ ∀ (i j : Nat), js[i]? = some (some j) → σ2[i]? = (σ.set k (some v))[i]?) = (fun σ2 (H2 : Hp) => Q σ2 H2 ∧ σ2.length = σ.length ∧ ∀ (i j : Nat), js[i]? = some (some j) → σ2[i]? = σ[i]?) := by
    funext σ2 H2
    have e3 : ∀ (i j : Nat), js[i]? = some (some j) → (σ.set k (some v))[i]? = σ[i]? := h2.2
    apply propext
    constructor
    · rintro ⟨a, b, c⟩
      exact ⟨a, by simpa using b, fun i j e => (c i j e).trans (e3 i j e)⟩
    · rintro ⟨a, b, c⟩
      exact ⟨a, by simpa using b, fun i j e => (c i j e).trans (e3 i j e).symm⟩
  show u r (σ.set k (some v)) H _
  rw [← e2]
  exact q2
theorem gown_tup {K : W.Frag} {n : Nat} {js : List (Option Nat)} {t : TGs} (h : GOwns js t) : GOwn js (gTup K n t) := fun x σ H Q q => by
  obtain ⟨a, xs, e, hq, hl, q⟩ := q
  exact ⟨a, xs, e, hq, hl, h xs σ H Q q⟩
section
variable {X : Cx} {pins : List (Addr × Obj)} {σ : St} {H H' : Hp} {s : Shared}
theorem Un.more {fs ex : List Addr} {H H' : Hp} {h h' : Heap} {D : Addr} {o : HO} (u : Un fs ex H H' h h') (hD : h.get? D = none) (hH : H D = none) : Un fs ex H (upd H' D o) h h' where
  keep := u.keep
  slot := u.slot
  free := fun b ob q n hx => by
    have : b ≠ D := fun z => by rw [z, hD] at q; cases q
    rw [upd_ne this]; exact u.free b ob q n hx
  there := u.there
  tups := fun b xs q => by rw [upd_ne (ne_of_none q hH)]; exact u.tups b xs q
  frzs := fun b ob xs q => by rw [upd_ne (ne_of_none q hH)]; exact u.frzs b ob xs q
  tbls := fun b ps q => by rw [upd_ne (ne_of_none q hH)]; exact u.tbls b ps q
theorem HOk.more {P : Program} {w : World} {h : Heap} {D : Addr} {o : HO} (k : HOk P w H h) (hH : H D = none) (new : ObjOk P w (upd H D o) h D o) : HOk P w (upd H D o) h := fun b u e => by
  by_cases hb : b = D
  · subst hb; rw [upd_same] at e; cases e; exact new
  · rw [upd_ne hb] at e
    exact (k b u e).stay (fun _ _ _ q => q) (fun c q => by rw [upd_ne (ne_of_none q hH)]; exact q) fun c xs q => by rw [upd_ne (ne_of_none q hH)]; exact q
theorem CompScope.ok {scope : Scope} {N : List Str} {js : List (Option Nat)} {C : Addr} {fp : List Addr} (S : CompScope X scope N js) (I : Inv X pins σ H s) (hC : s.heap.objs.size ≤ C) (hf : ∀ b ∈ fp, FpOk X pins H b) (hl : ∀ b ∈ fp, b < s.heap.objs.size) :
    (cxC X scope C N s H fp).Ok where
  mod := I.ok.mod
  kind := S.kind
  glob := I.ok.glob
  blt := I.ok.blt
  above := hC
  inj := fun x y c h1 h2 => I.ok.inj x y c (cl_lookup h1).1 (cl_lookup h2).1
  has := fun x hx => by
    have hm : (x, .free) ∈ scope.names := relabel_free S.nocell hx
    obtain ⟨c, h1, _⟩ := cl_some (env := X.env) hm fun y hy hk => I.ok.has y.1 (S.out y hy hk)
    exact ⟨c, h1⟩
  cab := fun x c z => nomatch z
  hd := I.ok.hd
  frames := I.ok.frames
  stk := .inl rfl
  exf := fun b hb => ⟨Nat.ne_of_lt (Nat.lt_of_lt_of_le (hl b hb) hC), fun x c e => (hf b hb).2.2.2.2.1 x c (cl_lookup e).1⟩
  bs := I.bs
  bsz := Nat.le_trans I.ok.bsz I.sz
  noex := fun b o e hb => by
    rcases (hf b hb).2.2.2.1 with z | z
    · exact I.ok.noex b o e z
    · exact absurd (Nat.lt_of_lt_of_le (Heap.lt_size e) (Nat.le_trans I.ok.bsz z)) (Nat.lt_irrefl _)
  exfs := fun b hb hm => by
    rcases List.mem_cons.mp (I.stkSub b hm) with z | z
    · exact (hf b hb).2.1 z
    · exact (hf b hb).2.2.1 z
  funs := I.stack
  frf := I.stkFree
theorem CompScope.start {scope : Scope} {N : List Str} {js : List (Option Nat)} {C D : Addr} {fp : List Addr} {ob : Obj} {h₁ : Heap} {m : Str → Option Value} {tk : Nat} (S : CompScope X scope N js) (I : Inv X pins σ H s) (hC : s.heap.objs.size ≤ C) (hD : s.heap.objs.size ≤ D) (hDC : D ≠ C)
    (hf : ∀ b ∈ fp, FpOk X pins H b) (hl : ∀ b ∈ fp, b < s.heap.objs.size) (k : ∀ b o, s.heap.get? b = some o → h₁.get? b = some o) (hns : h₁.Ns C m) (eD : h₁.get? D = some ob) (nc : ∀ v, ob.data ≠ .cell v) :
    Inv (cxC X scope C N s H fp) [(D, ob)] (stC js σ) H { s with heap := h₁, toks := tk } where
  ok := S.ok I hC hf hl
  os := rfl
  bare := I.bare
  base := Un.kept k
  loc := by
    refine ⟨m, hns, fun i x v h1 h2 h3 => ?_⟩
    have h1 : N[i]? = some x := h1
    unfold stC at h2
    rw [List.getElem?_map] at h2
    cases e : js[i]? with
    | none => rw [e] at h2; cases h2
    | some o =>
      rw [e] at h2
      cases o with
      | none => cases h2
      | some j =>
        have h2' : (σ[j]?).getD none = some v := Option.some.inj h2
        have hσ : σ[j]? = some (some v) := by
          cases q : σ[j]? with
          | none => rw [q] at h2'; cases h2'
          | some z => rw [q] at h2'; exact congrArg some h2'
        obtain ⟨y, e1, e2, e3⟩ := S.cap i j e
        rw [h1] at e1; cases e1
        have hfree : (x, .free) ∈ scope.names := PySem.mem_of_lookup e3
        have ho := S.out (x, .free) hfree rfl
        obtain ⟨mX, _, hlX⟩ := I.loc
        have hvX : Vis X.env.scope x := by
          rcases ho with z | z
          · exact .inr (.inl z)
          · exact .inr (.inr z)
        obtain ⟨u, r, l⟩ := hlX j x v e2 hσ hvX
        refine ⟨u, r, .inr ?_⟩
        rcases l with ⟨hk, _⟩ | ⟨hk, c, hc, hcell⟩
        · rcases ho with z | z
          · have z' : X.env.kindOf x = some .cell := z
            rw [hk] at z'; cases z'
          · have z' : X.env.kindOf x = some .free := z
            rw [hk] at z'; cases z'
        · obtain ⟨c', h1', h2''⟩ := cl_some (env := X.env) hfree fun y hy hk => I.ok.has y.1 (S.out y hy hk)
          rw [hc] at h2''; cases h2''
          refine ⟨relabel_some e3, c, h1', ?_⟩
          obtain ⟨oc, q1, q2⟩ := hcell
          exact ⟨oc, k c oc q1, q2⟩
  cell := fun x c e => by
    obtain ⟨v, oc, q1, q2⟩ := I.cell x c (cl_lookup e).1
    exact ⟨v, oc, k c oc q1, q2⟩
  free := I.hok.fresh hC
  freeC := fun x c e => I.freeC x c (cl_lookup e).1
  pin := fun p hp => by
    have e : p = (D, ob) := by
      rcases List.mem_append.mp hp with z | z
      · exact absurd (show p ∈ ([] : List (Addr × Obj)) from z) (by simp)
      · simpa using z
    subst e
    refine ⟨eD, I.hok.fresh hD, hDC, fun hm => ?_, nc⟩
    rcases List.mem_cons.mp (I.stkSub D hm) with z | z
    · have z : D = X.env.locals := z
      have := I.lt
      rw [← z] at this
      exact absurd (Nat.lt_of_lt_of_le this hD) (Nat.lt_irrefl _)
    · exact I.nofs hD z
  hok := I.hok.kept k
  len := by
    unfold stC
    rw [List.length_map]
    exact S.len
end
def PTs (X : Cx) (cs : List Expr) (t : TT) : Prop :=
  ∀ (pins : List (Addr × Obj)) (s : Shared) (σ : St) (H : Hp) (Q : Bool → Hp → Prop) (E : Value → Shared → Prop), Inv X pins σ H s → t σ H Q →
    wpAny (model X.prog X.w) X.A (forIn cs true fun c r => if r = true then do let ok ← isTrue c X.env (eval c X.env); pure (ForInStep.yield ok) else pure (ForInStep.yield r)) (TP X pins σ Q) E s
def tTrue : TT := fun _ H Q => Q true H
theorem pts_nil {X : Cx} : PTs X [] tTrue := fun pins s σ H Q E I h => wpAny_tests_nil ⟨H, I, h⟩
theorem pts_one {X : Cx} {c : Expr} {t : TT} (h : PT X c t) (hx : X.xe = fun _ _ => False := by rfl) : PTs X [c] t := fun pins s σ H Q E I q =>
  wpAny_tests_one (wpAny_mono (h pins s σ H Q I q) (fun _ _ z => z) fun e s' z => by rw [hx] at z; exact z.elim)
def wComp (js : List (Option Nat)) (g : TG) (tt : TT) (te : TE) (σ : St) (J : It) (H1 : Hp) (Q : List V → Hp → Prop) : Prop :=
  ∃ W : Nat → Nat → List V → Hp → Prop, (∃ m, W 0 m [] H1) ∧ ∀ i m ys H, W i m ys H →
    (J.stop i H ∧ Q ys H) ∨
    (J.go i H ∧ ys.length < sizeLine ∧ ∃ N : List V → Hp → Prop, (∀ ys' H', N ys' H' → ∃ m', m' < m ∧ W (i + 1) m' ys' H') ∧
      ∀ x H', J.yld i H x H' → g x (stC js σ) H' fun σ2 H2 => tt σ2 H2 fun b H3 => if b = true then te σ2 H3 fun y H4 => N (ys ++ [y]) H4 else N ys H3)
def tComp (wi : TI) (js : List (Option Nat)) (g : TG) (tt : TT) (te : TE) : TE := fun σ H Q => wi σ H fun J H1 =>
  wComp js g tt te σ J H1 fun ys H2 => ∀ p, H2 p = none → Q (.ref p) (upd H2 p (.lst ys))
def sComp (i : Nat) (wi : TI) (js : List (Option Nat)) (g : TG) (tt : TT) (te : TE) : TS := fun D σ H => wi σ H fun J H1 =>
  wComp js g tt te σ J H1 fun ys H2 => ∀ p, H2 p = none → D.nx (σ.set i (some (.ref p))) (upd H2 p (.lst ys))
section
variable {X : Cx} {tg iter elt : Expr} {ifs : List Expr} {scope : Scope} {N : List Str} {js : List (Option Nat)} {wi : TI} {g : TG} {tt : TT} {te : TE} {pos : Pos}
theorem comp_block {pins : List (Addr × Obj)} {σ : St} {H2 : Hp} {s2 : Shared} {it : Addr} {fp : List Addr} {tn : Nat → Heap → Prop} {J : It} {Qf : List V → Hp → Prop} {RR : Value → Addr → Result → Shared → Prop} {E : Value → Shared → Prop} (hc : X.calm = true) (S : CompScope X scope N js) (go : GOwn js g)
    (hb : ∀ (C : Addr) (s₂ : Shared) (H₂ : Hp) (fp : List Addr), PG (cxC X scope C N s₂ H₂ fp) tg g ∧ PTs (cxC X scope C N s₂ H₂ fp) ifs tt ∧ PE (cxC X scope C N s₂ H₂ fp) elt te)
    (I2 : Inv X pins σ H2 s2) (T : Turn X.prog X.w X.K tg J fp it tn) (st2 : tn 0 s2.heap) (f2 : ∀ b ∈ fp, FpOk X pins H2 b) (hw : wComp js g tt te σ J H2 Qf)
    (hRR : ∀ (C D : Addr) (ys : List V) (H3 : Hp) (s3 : Shared) (m : Str → Option Value), s2.heap.objs.size ≤ C → s2.heap.objs.size ≤ D → D ≠ C → Inv X pins σ (upd H3 D (.lst ys)) s3 → H3 C = none → H3 D = none → s3.heap.Ns C m → Qf ys H3 → RR (.ref D) C (.ok .next) s3) :
    wpAny (model X.prog X.w) X.A (newList []) (fun acc s₃ => wpAny (model X.prog X.w) X.A (newFunctionEnv scope X.env.globals (clOf X.env scope.names []) [] X.env.qual none .none (some X.env)) (fun cenv s₄ =>
      codeAny (model X.prog X.w) X.A (.compStart (.ListComp elt [⟨tg, iter, ifs, 0⟩] scope pos) 0 (.ref it) acc { cenv with scope := relabel scope X.env }) (RR acc cenv.locals) s₄) E s₃) E s2 := by
  obtain ⟨W, ⟨m0, w0⟩, turn⟩ := hw
  refine wpAny_newObj_type (wpAny_newFunctionEnv S.nocell (by intro y hy; simp at hy) (fun h₁ hns₁ hsb₁ => ?_) S.kind)
  dsimp only at hns₁ hsb₁ ⊢
  generalize hH2 : s2.heap.push { cls := .type "list", dict := none, data := .seq ([] : List Value).toArray } = HP at hns₁ hsb₁ ⊢
  have hC : HP.objs.size = s2.heap.objs.size + 1 := by rw [← hH2, Heap.size_push]
  have hDC : s2.heap.objs.size ≠ HP.objs.size := by rw [hC]; exact Nat.ne_of_lt (Nat.lt_succ_self _)
  have hCle : s2.heap.objs.size ≤ HP.objs.size := by rw [hC]; exact Nat.le_succ _
  have old : ∀ b o, s2.heap.get? b = some o → h₁.get? b = some o := fun b o e => hsb₁.extBut b o (by rw [hC]; exact Nat.ne_of_lt (Nat.lt_succ_of_lt (Heap.lt_size e))) (Heap.get?_push_of_some _ (hH2 ▸ Heap.get?_push_of_some _ e))
  have hacc : h₁.get? s2.heap.objs.size = some { cls := .type "list", data := .seq ([] : List Value).toArray 0 } := hsb₁.extBut _ _ hDC (Heap.get?_push_of_some _ (hH2 ▸ Heap.get?_push_size _ rfl))
  have hfl : ∀ b ∈ fp, b < s2.heap.objs.size := fun b hb => by
    obtain ⟨o, e, _⟩ := T.obj _ _ st2 b hb
    exact Heap.lt_size e
  generalize hDn : s2.heap.objs.size = D at hDC hCle hacc ⊢
  generalize hCn : HP.objs.size = C at hDC hCle hns₁ ⊢
  have hCs : s2.heap.objs.size ≤ C := by rw [hDn]; exact hCle
  have hDs : s2.heap.objs.size ≤ D := Nat.le_of_eq hDn
  obtain ⟨pg, pt, pe⟩ := hb C s2 H2 fp
  have I0 := S.start (D := D) (fp := fp) (tk := s2.toks + ([] : List (Str × Value)).length) I2 hCs hDs hDC f2 hfl old hns₁ hacc (fun v z => nomatch z)
  have fpY : ∀ {H' : Hp} {pl : List (Addr × Obj)}, (∀ b ∈ fp, H' b = none) → (∀ p ∈ pl, p.1 ∉ fp) → ∀ b ∈ fp, FpOk (cxC X scope C N s2 H2 fp) pl H' b := fun hn hp b hb =>
    ⟨hn b hb, Nat.ne_of_lt (Nat.lt_of_lt_of_le (hfl b hb) hCs), (S.ok I2 hCs f2 hfl).exfs b hb, .inl hb, fun x c e => (f2 b hb).2.2.2.2.1 x c (cl_lookup e).1, fun p hm z => by
      rcases List.mem_append.mp hm with q | q
      · exact absurd (show p ∈ ([] : List (Addr × Obj)) from q) (by simp)
      · exact hp p q (z ▸ hb)⟩
  have dfp : D ∉ fp := fun z => absurd (Nat.lt_of_lt_of_le (hfl D z) hDs) (Nat.lt_irrefl _)
  have one : ∀ {ob : Obj}, ∀ p ∈ [(D, ob)], p.1 ∉ fp := fun p hp => by
    have e := List.mem_singleton.mp hp
    subst e; exact dfp
  have loop : ∀ s₃ : Shared, s₃ = { s2 with heap := h₁, toks := s2.toks + ([] : List (Str × Value)).length } →
      codeAny (model X.prog X.w) X.A (.compLoop (.ListComp elt [⟨tg, iter, ifs, 0⟩] scope pos) 0 (.ref it) (.ref D) (compEnvC scope (clOf X.env scope.names []) C X.env)) (RR (.ref D) C) s₃ := by
    rintro s₃ rfl
    refine codeAny_loop rfl (fun n s' => ∃ (i : Nat) (ys : List V) (H' : Hp) (its : List Value) (k : Nat), Inv (cxC X scope C N s2 H2 fp) [(D, { cls := .type "list", data := .seq its.toArray k })] (stC js σ) H' s' ∧ Vals ys its ∧ ys.length ≤ sizeLine ∧ tn i s'.heap ∧ (∀ b ∈ fp, H' b = none) ∧ W i n ys H') ?_ m0 ?_
    · rintro n s3 ⟨i, ys, H3, its, k, I3, rv, hz, st3, fr3, w3⟩
      show wpAny _ X.A ((compTurn (.ListComp elt [⟨tg, iter, ifs, 0⟩] scope pos) 0 (.ref it) (.ref D) (compEnvC scope (clOf X.env scope.names []) C X.env)).onRaise (fun x => do noteFrame x _; theTreesLotGoes x)) _ _ s3
      refine wpAny_noted (wpAny_noRaise ?_)
      rw [compTurn_list]
      rcases turn i n ys H3 w3 with ⟨stop, qn⟩ | ⟨goes, hlt, Nx, hN, step⟩
      · refine wpAny_bind (wpAny_standAt (wpAny_bind (thn (T.done (cxC X scope C N s2 H2 fp) rfl rfl rfl hc i _ s3 (stC js σ) H3 (fun _ _ => False) I3 (fpY fr3 one) st3 stop) fun r s4 ⟨hr, I4⟩ => ?_)))
        subst hr
        refine wpAny_pure ?_
        have pD := I4.pin (D, { cls := .type "list", data := .seq its.toArray k }) (by simp [cxC])
        obtain ⟨mC, hnC, _⟩ := id I4.loc
        have IX : Inv X pins σ (upd H3 D (.lst ys)) s4 := by
          refine I2.call' (ch := fp) I4.os (Un.more I4.base (Heap.get?_none_of_le hDs) (I2.hok.fresh hDs)) (HOk.more I4.hok pD.2.1 ⟨hz, its, k, rv, pD.1⟩) I4.bare fun b hb => ?_
          obtain ⟨_, f1, _, f3, f4, f5⟩ := f2 b hb
          exact ⟨f3, f1, f4, f5⟩
        exact hRR C D ys H3 s4 mC hCs hDs hDC IX I4.free pD.2.1 hnC qn
      · refine wpAny_bind (wpAny_standAt (wpAny_bind (thn (T.item (cxC X scope C N s2 H2 fp) rfl rfl rfl hc i _ s3 (stC js σ) H3 (fun _ _ => False) I3 (fpY fr3 one) st3 goes) fun r s4 ⟨u, hr, h4⟩ => ?_)))
        subst hr
        refine wpAny_bind (thn h4 fun _ s5 ⟨x, H5, I5, r5, y5, st5, fr5⟩ => ?_)
        have I5' := I5.pinned (fpY fr5 one) (T.obj _ _ st5)
        refine wpAny_bind (thn (pg _ s5 (stC js σ) H5 x u _ I5' r5 (go _ _ _ _ (step x H5 y5))) fun _ s6 ⟨σ6, H6, I6, ⟨q6, l6, e6⟩⟩ => ?_)
        have weak : ∀ {pl : List (Addr × Obj)} {H7 : Hp} {s7 : Shared}, Inv (cxC X scope C N s2 H2 fp) pl σ6 H7 s7 → Inv (cxC X scope C N s2 H2 fp) pl (stC js σ) H7 s7 := fun {pl H7 s7} I7 => by
          refine I7.weak l6.symm fun j v hj => ?_
          cases e : js[j]? with
          | none => unfold stC at hj; rw [List.getElem?_map, e] at hj; cases hj
          | some o =>
            cases o with
            | none => unfold stC at hj; rw [List.getElem?_map, e] at hj; cases hj
            | some j' => rw [e6 j j' e]; exact hj
        have keepN : ∀ {H7 : Hp} {s7 : Shared} {pl : List (Addr × Obj)}, Inv (cxC X scope C N s2 H2 fp) (pl ++ pinsAt fp s5.heap) (stC js σ) H7 s7 → tn (i + 1) s7.heap ∧ ∀ b ∈ fp, H7 b = none := fun {H7 s7 pl} I7 => by
          refine ⟨T.keep _ _ _ st5 fun b hb o e => (I7.pin (b, o) (List.mem_append_right _ (List.mem_append_right _ (mem_pinsAt hb e)))).1, fun b hb => ?_⟩
          obtain ⟨o, e, d⟩ := T.obj _ _ st5 b hb
          exact (I7.pin (b, o) (List.mem_append_right _ (List.mem_append_right _ (mem_pinsAt hb e)))).2.1
        refine wpAny_bind (thn (pt _ s6 σ6 H6 _ _ I6 q6) fun ok s7 ⟨H7, I7, q7⟩ => ?_)
        cases ok with
        | false =>
          rw [if_neg Bool.false_ne_true] at q7
          refine wpAny_pure ⟨rfl, ?_⟩
          obtain ⟨m', hm, w7⟩ := hN ys H7 q7
          have I7' := weak I7
          obtain ⟨k1, k2⟩ := keepN I7'
          exact ⟨m', hm, i + 1, ys, H7, its, k, I7'.unpinned, rv, hz, k1, k2, w7⟩
        | true =>
          rw [if_pos rfl] at q7
          show wpAny _ _ ((eval elt _ >>= fun x => call (.builtin "list.append") [.ref D, x] >>= fun _ => pure ()) >>= fun _ => again _) _ _ _
          refine wpAny_bind (wpAny_bind (thn (pe _ s7 σ6 H7 _ I7 q7) fun y s8 ⟨yv, H8, I8, r8, q8⟩ => ?_))
          obtain ⟨m', hm, w8⟩ := hN (ys ++ [yv]) H8 q8
          have I8' := weak I8
          obtain ⟨k1, k2⟩ := keepN I8'
          have pD := I8'.pin (D, { cls := .type "list", data := .seq its.toArray k }) (by simp [cxC])
          have hln := rv.length
          refine wpAny_bind (call_meets F.slot_list_append ⟨_, pD.1, rfl⟩ F.entry_list_append (F.args_list_append_2 _ _) (PySem.list_append D its.toArray k y (by rw [List.size_toArray]; omega)) ⟨pD.1, ?_⟩)
          refine wpAny_pure (wpAny_pure ⟨rfl, m', hm, i + 1, ys ++ [yv], H8, its ++ [y], ?_⟩)
          have q := PySem.IsL.update pD.1 (fun z => z.push y)
          have eA : its.toArray.push y = (its ++ [y]).toArray := by simp
          rw [eA] at q
          have I9 : Inv (cxC X scope C N s2 H2 fp) [] (stC js σ) H8 s8 := I8'.pins_of fun p hp => absurd hp (by simp)
          have hob : ∀ b o, b ≠ D → s8.heap.get? b = some o → (s8.heap.update D (Obj.mapSeq fun z => z.push y)).get? b = some o := fun b o hb hu => (Heap.get?_update_other s8.heap _ (Ne.symm hb)).trans hu
          have I10 : Inv (cxC X scope C N s2 H2 fp) [] (stC js σ) H8 { s8 with heap := s8.heap.update D (Obj.mapSeq fun z => z.push y), toks := s8.toks } := I9.turned hob pD.2.1 pD.2.2.1 (.inr hDs)
            (fun x c e z => by
              obtain ⟨v, oc, q1, q2⟩ := I2.cell x c (cl_lookup e).1
              rw [z] at q1
              exact absurd (Nat.lt_of_lt_of_le (Heap.lt_size q1) hDs) (Nat.lt_irrefl _))
            (fun p hp => by
              rcases List.mem_append.mp hp with q | q
              · exact absurd (show p ∈ ([] : List (Addr × Obj)) from q) (by simp)
              · exact absurd q (by simp))
          refine ⟨(if ((its ++ [y]).toArray).size == its.toArray.size then k else k + 1), I10.pins_of fun p hp => ?_, rv.append (.cons r8 .nil), ?_, ?_, k2, w8⟩
          · have e := List.mem_singleton.mp hp
            subst e
            exact ⟨q, pD.2.1, pD.2.2.1, pD.2.2.2.1, fun v z => nomatch z⟩
          · rw [List.length_append, List.length_singleton]; omega
          · exact T.keep _ _ _ k1 fun b hb o e => hob b o (fun z => dfp (z ▸ hb)) e
    · exact ⟨0, [], H2, [], 0, I0, .nil, Nat.zero_le _, T.keep _ _ _ st2 fun b _ o e => old b o e, fun b hb => (f2 b hb).1, w0⟩
  exact codeAny_compStart_list (loop _ rfl) (T.self _ 0 _ _ _ (T.keep _ _ _ st2 fun b _ o e => old b o e) (loop _ rfl))
theorem pe_comp (hc : X.calm = true) (S : CompScope X scope N js) (go : GOwn js g) (hi : PI X tg iter wi)
    (hb : ∀ (C : Addr) (s₂ : Shared) (H₂ : Hp) (fp : List Addr), PG (cxC X scope C N s₂ H₂ fp) tg g ∧ PTs (cxC X scope C N s₂ H₂ fp) ifs tt ∧ PE (cxC X scope C N s₂ H₂ fp) elt te)
    (hs : ∀ x, foldedSetIterable iter X.env x = pure x := by intro _; rfl) : PE X (.ListComp elt [⟨tg, iter, ifs, 0⟩] scope pos) (tComp wi js g tt te) := by
  intro pins s σ H Q I h
  rw [eval_ListComp]
  refine wpAny_comprehension_free (use := none) rfl hs (closure_ok fun y hy hk => I.ok.has y.1 (S.out y hy hk)) S.kind S.loc (thn (hi pins s σ H _ I h) fun v s1 h1 => thn h1 fun itv s2 h2 => ?_)
  obtain ⟨it, fp, tn, J, H2, e, I2, T, st2, f2, hw⟩ := h2
  subst e
  refine comp_block (RR := fun acc C => compPost (model X.prog X.w) X.A X.xe none (EP X pins σ Q) acc C) hc S go hb I2 T st2 f2 hw ?_
  intro C D ys H3 s3 m hC hD hDC I3 fC fD hn q
  refine ⟨m, hn, fun h' hs' => ?_⟩
  refine ⟨.ref D, upd H3 D (.lst ys), I3.turned (it := C) (t' := s3.toks) (fun b o hb e => (hs'.2 b hb).trans e) (by rw [upd_ne (Ne.symm hDC)]; exact fC) ?_ (.inr (Nat.le_trans I2.sz hC)) ?_ ?_, rfl, q D fD⟩
  · exact Nat.ne_of_gt (Nat.lt_of_lt_of_le I2.lt hC)
  · intro x c e z
    obtain ⟨v, oc, q1, q2⟩ := I2.cell x c e
    rw [z] at q1
    exact absurd (Nat.lt_of_lt_of_le (Heap.lt_size q1) hC) (Nat.lt_irrefl _)
  · intro p hp z
    have := Heap.lt_size (I2.pin p hp).1
    rw [z] at this
    exact absurd (Nat.lt_of_lt_of_le this hC) (Nat.lt_irrefl _)
theorem ps_comp {i : Nat} {y : Str} {py spos : Pos} (hN : X.N.Nodup) (hy : X.N[i]? = some y) (hx : Loc X.env.scope y) (hc : X.calm = true) (S : CompScope X scope N js) (go : GOwn js g) (hi : PI X tg iter wi)
    (hb : ∀ (C : Addr) (s₂ : Shared) (H₂ : Hp) (fp : List Addr), PG (cxC X scope C N s₂ H₂ fp) tg g ∧ PTs (cxC X scope C N s₂ H₂ fp) ifs tt ∧ PE (cxC X scope C N s₂ H₂ fp) elt te)
    (hsw : swapsWith (.ListComp elt [⟨tg, iter, ifs, 0⟩] scope pos) (some (.Name y py)) spos.line X.env = pure true)
    (hs : ∀ x, foldedSetIterable iter X.env x = pure x := by intro _; rfl) (hf : X.fn y = true ∨ X.env.scope.names.lookup y = some .local := by first | exact .inl rfl | exact .inr rfl | assumption) :
    PS X (.Assign [.Name y py] (.ListComp elt [⟨tg, iter, ifs, 0⟩] scope pos) spos) (sComp i wi js g tt te) := by
  intro pins s σ H D I h
  rw [exec_Assign_Name_used _ _ _ _ hsw]
  refine wpAny_bind (wpAny_standAt (wpAny_bind ?_))
  show wpAny _ X.A (do let _ ← comprehension (.ListComp elt [⟨tg, iter, ifs, 0⟩] scope pos) scope X.env _ (newList []) false (eval iter X.env) (some (assign (.Name y py) X.env))) _ _ s
  refine wpAny_bind (thn (wpAny_comprehension_free (use := some (assign (.Name y py) X.env)) (Q := fun _ s' => SP X pins D .next s') rfl hs (closure_ok fun y hy hk => I.ok.has y.1 (S.out y hy hk)) S.kind S.loc
    (thn (hi pins s σ H _ I h) fun v s1 h1 => thn h1 fun itv s2 h2 => ?_)) fun _ s' hq => wpAny_pure (wpAny_pure hq))
  obtain ⟨it, fp, tn, J, H2, e, I2, T, st2, f2, hw⟩ := h2
  subst e
  refine comp_block (RR := fun acc C => compPost (model X.prog X.w) X.A X.xe (some (assign (.Name y py) X.env)) (fun _ s' => SP X pins D .next s') acc C) hc S go hb I2 T st2 f2 hw ?_
  intro C Da ys H3 s3 m hC hD hDC I3 fC fD hn q
  have cne : ∀ x c, X.env.cells.lookup x = some c → c ≠ C := fun x c e z => by
    obtain ⟨v, oc, q1, q2⟩ := I2.cell x c e
    rw [z] at q1
    exact absurd (Nat.lt_of_lt_of_le (Heap.lt_size q1) hC) (Nat.lt_irrefl _)
  have lne : C ≠ X.env.locals := Nat.ne_of_gt (Nat.lt_of_lt_of_le I2.lt hC)
  show wpAny _ X.A (assign (.Name y py) X.env (.ref Da)) _ _ _
  refine wpAny_assign_Name (store_ok2 (v := .ref Da) I3 hN hy hx rfl (fun s4 I4 hs4 => ?_) hf)
  obtain ⟨a, hsb, ha⟩ := hs4
  have aC : C ≠ a := by
    rcases ha with z | z
    · rw [z]; exact lne
    · exact Ne.symm (cne y a z)
  refine ⟨m, hn.sameBut hsb aC, fun h' hs' => ?_⟩
  refine ⟨_, _, I4.turned (it := C) (t' := s4.toks) (fun b o hb e => (hs'.2 b hb).trans e) (by rw [upd_ne (Ne.symm hDC)]; exact fC) lne (.inr (Nat.le_trans I2.sz hC)) cne ?_, q Da fD⟩
  intro p hp z
  have := Heap.lt_size (I2.pin p hp).1
  rw [z] at this
  exact absurd (Nat.lt_of_lt_of_le this hC) (Nat.lt_irrefl _)
end
end L2
namespace L2
open PySem PySem.Spec PyProof.Rows
section
variable {X : Cx} {tg : Expr}
end
abbrev tx (l : List Nat) : Str := ⟨l.toArray⟩
theorem tx_cps (x : Str) : tx x.cps.toList = x := by cases x; simp
theorem tx_len (l : List Nat) : (tx l).length = l.length := by simp [Str.length]
def cut {α : Type} (xs : List α) (lo hi : Option Int) : List α := (xs.drop (HT.sIx xs.length 0 lo)).take (HT.sIx xs.length xs.length hi - HT.sIx xs.length 0 lo)
section
variable {X : Cx}
theorem strsAre_of {ns : List Str} : ∀ {us : List Value}, Vals (ns.map V.str) us → StrsAre us ns := by
  induction ns with
  | nil => intro us r; rw [List.map_nil] at r; cases r; exact .nil
  | cons n ns ih =>
    intro us r
    rw [List.map_cons] at r
    cases r with
    | cons r1 r2 =>
      obtain ⟨t, e⟩ := r1
      subst e
      exact .cons n t (ih r2)
def rJoin (K : W.Frag) : V → List V → Hp → VK → Prop := fun x vs H Q => ∃ sep p ys, x = .str sep ∧ vs = [.ref p] ∧ SqL K H p (ys.map V.str) ∧ (ys.map (·.length)).sum + ys.length * sep.length ≤ 16777216 ∧ Q (.str (Txt.join sep ys)) H
theorem mt_join : MtR X "str.join" (rJoin X.K) := by
  intro pins s σ H x vs v us Q I rx rv h
  obtain ⟨sep, p, ys, rfl, rfl, hq, hz, q⟩ := h
  obtain ⟨t, rfl⟩ := rx
  obtain ⟨u, rfl, ru⟩ := rv.one
  cases ru
  obtain ⟨its, r, pl, _⟩ := I.list hq
  exact join_list pl.isList (by simpa using strsAre_of r) hz fun t' k => ⟨.str _, H, I.tok _, ⟨_, rfl⟩, q⟩
def rIsi (K : W.Frag) : List V → Hp → VK → Prop := fun vs H Q => ∃ x T t b, vs = [x, .ty T] ∧ TyOf K H x t ∧ W.kitOne K t (.type T) = some b ∧ Q (.bl b) H
theorem call_isi : CallR X (.builtin "isinstance") (rIsi X.K) := by
  intro pins s σ H xs us Q I r h
  obtain ⟨x, T, t, b, rfl, ty, e, q⟩ := h
  obtain ⟨u, c, rfl, ru, rc⟩ : ∃ u c, us = [u, c] ∧ RelV x u ∧ RelV (.ty T) c := by
    cases r with
    | cons p q =>
      cases q with
      | cons p' q' =>
        cases q'
        exact ⟨_, _, rfl, p, p'⟩
  cases (show c = Value.type T from rc)
  exact isinst_ok I ru ty e fun tk => ⟨.bl b, H, I.tok _, rfl, q⟩
theorem boolsAre_of {ns : List Bool} : ∀ {us : List Value}, Vals (ns.map V.bl) us → PyProof.Rows.LSm.BoolsAre us ns := by
  induction ns with
  | nil => intro us r; rw [List.map_nil] at r; cases r; exact .nil
  | cons n ns ih =>
    intro us r
    rw [List.map_cons] at r
    cases r with
    | cons r1 r2 =>
      have e := r1
      cases (show _ = Value.bool n from e)
      exact .cons n (ih r2)
def rAll (K : W.Frag) : List V → Hp → VK → Prop := fun vs H Q => ∃ (p : Addr) (bs : List Bool), vs = [.ref p] ∧ SqL K H p (bs.map V.bl) ∧ Q (.bl (bs.all id)) H
theorem call_all (hc : X.calm = true) : CallR X (.builtin "all") (rAll X.K) := by
  intro pins s σ H xs us Q I r h
  obtain ⟨p, bs, rfl, hq, q⟩ := h
  obtain ⟨u, rfl, ru⟩ := vals1 r
  cases ru
  obtain ⟨its, rv, pl, hz⟩ := I.list hq
  have hl := pl.isList
  have hb := boolsAre_of rv
  have hlt : p < s.heap.objs.size := by obtain ⟨_, e, _⟩ := hl; exact Heap.lt_size e
  refine call_all_walk (wpAny_pyIter_list hl ?_)
  refine ⟨s.heap.objs.size, [s.heap.objs.size, p], [s.heap.objs.size], its.toArray.size, _, _, fun i => (bs[i]?).getD true, rfl, Walks.list (A := X.A.in1) (I.ok.hd hc) _ p (Nat.ne_of_lt hlt) its.toArray,
    ⟨⟨_, Heap.get?_push_size _ rfl, rfl, rfl⟩, hl.push _⟩, fun i v s' Q' E' hP hQ => ?_, fun h' tk hk => ?_⟩
  · obtain ⟨b, e, rfl⟩ := hb.get i v (by simpa using hP)
    simp only [e, Option.getD_some] at hQ
    exact wpAny_truthy_bool hQ
  · have e : ((List.range its.toArray.size).all fun i => (bs[i]?).getD true) = bs.all id := by
      rw [List.size_toArray, hb.length]; exact PyProof.Rows.LSm.range_all bs
    rw [e]
    exact ⟨.bl _, H, I.kept (PyProof.Rows.LSm.kept_iter hk), rfl, q⟩
end
section
variable {prog : Program} {w : World} {A : Around} {E : Value → Shared → Prop} {s : Shared}
end
section
variable {X : Cx} {e : Expr} {te : TE} {p p2 pos pos2 : Pos}
end
section
variable {X : Cx}
end
end L2
namespace L2
open PySem PySem.Spec PyProof.Rows
def mB (x : V) (k : Bool → Prop) : Prop := match x with | .bl b => k b | _ => False
def mI (x : V) (k : Int → Prop) : Prop := match x with | .int b => k b | _ => False
def mS (x : V) (k : Str → Prop) : Prop := match x with | .str b => k b | _ => False
def mR (x : V) (k : Addr → Prop) : Prop := match x with | .ref b => k b | _ => False
theorem mB_eq (x : V) (k : Bool → Prop) : mB x k = ∃ b, x = .bl b ∧ k b := by
  cases x <;> simp [mB]
theorem mI_eq (x : V) (k : Int → Prop) : mI x k = ∃ b, x = .int b ∧ k b := by
  cases x <;> simp [mI]
theorem mS_eq (x : V) (k : Str → Prop) : mS x k = ∃ b, x = .str b ∧ k b := by
  cases x <;> simp [mS]
theorem mR_eq (x : V) (k : Addr → Prop) : mR x k = ∃ b, x = .ref b ∧ k b := by
  cases x <;> simp [mR]
theorem szl {n : Nat} (h : Nat.ble n 1000 = true) : n ≤ sizeLine := Nat.le_trans (Nat.le_of_ble_eq_true h) (by decide)
theorem szl' {n : Nat} (h : n ≤ 1000) : n ≤ sizeLine := Nat.le_trans h (by decide)
section
variable {X : Cx} {a b c e : Expr} {ta tb tc te : TE} {pos : Pos}
def vr (i : Nat) : TE := fun σ H Q => match σ[i]? with | some (some v) => Q v H | _ => False
theorem vr_eq (i : Nat) : vr i = tVar i := by
  funext σ H Q
  unfold vr tVar
  apply propext
  cases σ[i]? with
  | none => simp
  | some o => cases o <;> simp
theorem xv (i : Nat) {x : Str} {pos : Pos} (hN : X.N[i]? = some x := by rfl) (hv : Vis X.env.scope x := by first | exact Or.inl rfl | exact Or.inr (Or.inl rfl) | exact Or.inr (Or.inr rfl)) (hd : (x == ("__debug__" : Str)) = false := by decide)
    (hcd : (x == ("__classdict__" : Str)) = false := by decide) : PE X (.Name x pos) (vr i) := by
  rw [vr_eq]; exact pe_var hN hv hd hcd
theorem OpR.imp {f : Value → Value → Sem Value} {r r' : R2} (h : OpR X f r) (hi : ∀ x y H Q, r' x y H Q → r x y H Q) : OpR X f r' := fun pins s σ H x y v u Q I rx ry q => h pins s σ H x y v u Q I rx ry (hi x y H Q q)
theorem UnR.imp {f : Value → Sem Value} {r r' : V → Hp → VK → Prop} (h : UnR X f r) (hi : ∀ x H Q, r' x H Q → r x H Q) : UnR X f r' := fun pins s σ H x v Q I rx q => h pins s σ H x v Q I rx (hi x H Q q)
theorem CallR.imp {f : Value} {r r' : List V → Hp → VK → Prop} (h : CallR X f r) (hi : ∀ xs H Q, r' xs H Q → r xs H Q) : CallR X f r' := fun pins s σ H xs us Q I rs q => h pins s σ H xs us Q I rs (hi xs H Q q)
theorem IxR.imp {r r' : R2} (h : IxR X r) (hi : ∀ x y H Q, r' x y H Q → r x y H Q) : IxR X r' := fun value slice pins s σ H x y v u Q I rx ry q => h value slice pins s σ H x y v u Q I rx ry (hi x y H Q q)
theorem SlR.imp {r r' : V → Option Int → Option Int → Hp → VK → Prop} (h : SlR X r) (hi : ∀ x l u H Q, r' x l u H Q → r x l u H Q) : SlR X r' := fun pins s σ H x v vl vu lo hi' sl Q I rx hs pl pu q => h pins s σ H x v vl vu lo hi' sl Q I rx hs pl pu (hi x lo hi' H Q q)
def m2 (C : Int → Int → Prop) (g : Int → Int → V) : R2 := fun x y H Q => mI x fun i => mI y fun j => C i j ∧ Q (g i j) H
def m20 (g : Int → Int → V) : R2 := fun x y H Q => mI x fun i => mI y fun j => Q (g i j) H
theorem m20_imp {g : Int → Int → V} (x y : V) (H : Hp) (Q : VK) (h : m20 g x y H Q) : rI0 g x y H Q := by
  unfold m20 at h
  rw [mI_eq] at h
  obtain ⟨i, rfl, h⟩ := h
  rw [mI_eq] at h
  obtain ⟨j, rfl, h⟩ := h
  exact ⟨i, j, rfl, rfl, h⟩
theorem m2_imp {C : Int → Int → Prop} {g : Int → Int → V} (x y : V) (H : Hp) (Q : VK) (h : m2 C g x y H Q) : rI C g x y H Q := by
  unfold m2 at h
  rw [mI_eq] at h
  obtain ⟨i, rfl, h⟩ := h
  rw [mI_eq] at h
  obtain ⟨j, rfl, hc, h⟩ := h
  exact ⟨i, j, rfl, rfl, hc, h⟩
theorem o_add : OpR X (binaryOp .Add) (m20 fun i j => .int (i + j)) := op_add.imp m20_imp
theorem o_sub : OpR X (binaryOp .Sub) (m20 fun i j => .int (i - j)) := op_sub.imp m20_imp
theorem o_mul : OpR X (binaryOp .Mult) (m2 CMul fun i j => .int (i * j)) := op_mul.imp m2_imp
theorem o_mod : OpR X (binaryOp .Mod) (m2 (fun _ j => 0 < j) fun i j => .int (i % j)) := op_mod.imp m2_imp
theorem o_pow : OpR X (binaryOp .Pow) (m2 CPow fun i j => .int (i ^ j.toNat)) := op_pow.imp m2_imp
theorem o_lt : OpR X (compareOp .Lt) (m20 fun i j => .bl (decide (i < j))) := op_lt.imp m20_imp
theorem o_gt : OpR X (compareOp .Gt) (m20 fun i j => .bl (decide (j < i))) := op_gt.imp m20_imp
def mEq : R2 := fun x y H Q => match x, y with
  | .int i, .int j => Q (.bl (decide (i = j))) H
  | .str i, .str j => Q (.bl (decide (i = j))) H
  | .bl i, .bl j => Q (.bl (decide (i = j))) H
  | .non, .non => Q (.bl true) H
  | .int _, .non => Q (.bl false) H | .non, .int _ => Q (.bl false) H
  | .str _, .non => Q (.bl false) H | .non, .str _ => Q (.bl false) H
  | .bl _, .non => Q (.bl false) H | .non, .bl _ => Q (.bl false) H
  | .int _, .str _ => Q (.bl false) H | .str _, .int _ => Q (.bl false) H
  | .bl _, .str _ => Q (.bl false) H | .str _, .bl _ => Q (.bl false) H
  | _, _ => False
def mNe : R2 := fun x y H Q => match x, y with
  | .int i, .int j => Q (.bl (!decide (i = j))) H
  | .str i, .str j => Q (.bl (!decide (i = j))) H
  | .bl i, .bl j => Q (.bl (!decide (i = j))) H
  | .non, .non => Q (.bl false) H
  | .int _, .non => Q (.bl true) H | .non, .int _ => Q (.bl true) H
  | .str _, .non => Q (.bl true) H | .non, .str _ => Q (.bl true) H
  | .bl _, .non => Q (.bl true) H | .non, .bl _ => Q (.bl true) H
  | .int _, .str _ => Q (.bl true) H | .str _, .int _ => Q (.bl true) H
  | .bl _, .str _ => Q (.bl true) H | .str _, .bl _ => Q (.bl true) H
  | _, _ => False
theorem o_eq : OpR X (compareOp .Eq) mEq := op_eq.imp fun x y H Q h => by
  unfold mEq at h
  unfold rEq
  split at h <;> first | exact h.elim | (refine ⟨rfl, ?_⟩; first | simpa using h | exact h)
theorem o_ne : OpR X (compareOp .NotEq) mNe := op_ne.imp fun x y H Q h => by
  unfold mNe at h
  unfold rNe
  split at h <;> first | exact h.elim | (refine ⟨rfl, ?_⟩; first | simpa using h | exact h)
theorem o_isN : OpR X (compareOp .Is) (fun x y H Q => match y with | .non => Q (.bl (decide (x = .non))) H | _ => False) := op_isN.imp fun x y H Q h => by
  cases y <;> first | exact ⟨rfl, h⟩ | exact h.elim
theorem o_notN : OpR X (compareOp .IsNot) (fun x y H Q => match y with | .non => Q (.bl (!decide (x = .non))) H | _ => False) := op_notN.imp fun x y H Q h => by
  cases y <;> first | exact ⟨rfl, h⟩ | exact h.elim
def mT (t : TE) : TT := fun σ H Q => t σ H fun x H' => mB x fun k => Q k H'
theorem mT_eq (t : TE) : mT t = tTest t := by
  funext σ H Q
  unfold mT tTest
  congr 1
  funext x H'
  exact mB_eq x _
theorem mT_eqB (t : TE) : mT t = tB t := by
  funext σ H Q
  unfold mT tB
  congr 1
  funext x H'
  exact mB_eq x _
theorem t_cmp {op : CmpOp} {r : R2} (ho : OpR X (compareOp op) r) (ha : PE X a ta) (hb : PE X b tb) (hm : behindInMarks op b = false := by first | exact nomark _ | rfl) : PT X (.Compare a [op] [b] pos) (mT (tOp r ta tb)) := by
  rw [mT_eq]; exact pt_cmpR ho ha hb hm
theorem x_cmp {op : CmpOp} {r : R2} (ho : OpR X (compareOp op) r) (ha : PE X a ta) (hb : PE X b tb) (hm : behindInMarks op b = false := by first | exact nomark _ | rfl) : PE X (.Compare a [op] [b] pos) (tOp r ta tb) := pe_cmpR ho ha hb hm
theorem t_val {t : TE} (h : PE X e t) (he : ∀ whole, isTrue e X.env whole = (do let v ← whole; standAt e.pos; holding [v] (truthy v)) := by intro _; rfl) : PT X e (mT t) := by
  rw [mT_eqB]; exact pt_val h he
def mAndV (ta tb : TE) : TE := fun σ H Q => ta σ H fun x H1 => mB x fun c => if c = true then tb σ H1 Q else Q (.bl false) H1
def mNotV (ta : TE) : TE := fun σ H Q => ta σ H fun x H1 => mB x fun c => Q (.bl (!c)) H1
theorem x_and {rest : List Expr} (ha : PE X a ta) (hb : PE X (.BoolOp .And (b :: rest) pos) tb) : PE X (.BoolOp .And (a :: b :: rest) pos) (mAndV ta tb) := by
  have : mAndV ta tb = tAndV ta tb := by
    funext σ H Q; unfold mAndV tAndV; congr 1; funext x H1; exact mB_eq x _
  rw [this]; exact pe_and ha hb
theorem x_not (ha : PE X a ta) : PE X (.UnaryOp .Not a pos) (mNotV ta) := by
  have : mNotV ta = tNotV ta := by
    funext σ H Q; unfold mNotV tNotV; congr 1; funext x H1; exact mB_eq x _
  rw [this]; exact pe_not ha
theorem x_neg (ha : PE X a ta) : PE X (.UnaryOp .USub a pos) (tUn (fun x H Q => mI x fun i => Q (.int (-i)) H) ta) := pe_un (un_neg.imp fun x H Q h => by
  rw [mI_eq] at h
  obtain ⟨i, rfl, h⟩ := h
  exact ⟨i, rfl, h⟩) ha
def mIxL (K : W.Frag) : R2 := fun x y H Q => mR x fun p => mI y fun i => ∃ xs, SqL K H p xs ∧ ∃ v, atI xs i = some v ∧ Q v H
def mIxT (K : W.Frag) : R2 := fun x y H Q => mR x fun p => mI y fun i => ∃ xs, SqT K H p xs ∧ ∃ v, atI xs i = some v ∧ Q v H
def mIxS : R2 := fun x y H Q => mS x fun z => mI y fun i => z.length ≤ sizeLine ∧ ∃ c, atI z.cps.toList i = some c ∧ Q (.str (tx [c])) H
theorem i_list : IxR X (mIxL X.K) := ix_list.imp fun x y H Q h => by
  unfold mIxL at h
  rw [mR_eq] at h
  obtain ⟨p, rfl, h⟩ := h
  rw [mI_eq] at h
  obtain ⟨i, rfl, xs, hq, v, hv, h⟩ := h
  exact ⟨p, xs, i, v, rfl, rfl, hq, hv, h⟩
theorem i_tup : IxR X (mIxT X.K) := ix_tup.imp fun x y H Q h => by
  unfold mIxT at h
  rw [mR_eq] at h
  obtain ⟨p, rfl, h⟩ := h
  rw [mI_eq] at h
  obtain ⟨i, rfl, xs, hq, v, hv, h⟩ := h
  exact ⟨p, xs, i, v, rfl, rfl, hq, hv, h⟩
theorem i_str : IxR X mIxS := ix_str.imp fun x y H Q h => by
  unfold mIxS at h
  rw [mS_eq] at h
  obtain ⟨z, rfl, h⟩ := h
  rw [mI_eq] at h
  obtain ⟨i, rfl, hz, c, hc, h⟩ := h
  exact ⟨z, i, c, rfl, rfl, hz, hc, h⟩
theorem x_ix {r : R2} (hr : IxR X r) (ha : PE X a ta) (hb : PE X b tb) (hs : PlainIx b := by exact fun _ _ => rfl) : PE X (.Subscript a b pos) (tOp r ta tb) := pe_ix hr ha hb hs
def mPart (t : TE) : TO := fun σ H Q => t σ H fun x H1 => mI x fun i => Q (some i) H1
theorem p_some (h : PE X e te) : PO X (some e) (mPart te) := by
  have : mPart te = tPart te := by
    funext σ H Q; unfold mPart tPart; congr 1; funext x H1; exact mI_eq x _
  rw [this]; exact po_some h
def mSlL (K : W.Frag) : V → Option Int → Option Int → Hp → VK → Prop := fun x lo hi H Q => mR x fun a => ∃ xs, SqL K H a xs ∧ ∀ p, H p = none → Q (.ref p) (upd H p (.lst (cut xs lo hi)))
theorem s_list : SlR X (mSlL X.K) := sl_list.imp fun x l u H Q h => by
  unfold mSlL at h
  rw [mR_eq] at h
  obtain ⟨a, rfl, xs, hq, h⟩ := h
  exact ⟨a, xs, rfl, hq, h⟩
theorem c_lenS : CallR X (.builtin "len") (fun vs H Q => match vs with | [.str z] => z.length ≤ sizeLine ∧ Q (.int z.length) H | _ => False) := call_len_str.imp fun vs H Q h => by
  split at h
  · rename_i z
    exact ⟨z, rfl, h.1, h.2⟩
  · exact h.elim
theorem c_lenL : CallR X (.builtin "len") (fun vs H Q => match vs with | [.ref p] => ∃ ys, (SqL X.K H p ys ∨ SqT X.K H p ys) ∧ Q (.int ys.length) H | _ => False) := call_len_seq.imp fun vs H Q h => by
  split at h
  · rename_i p
    obtain ⟨ys, hq, h⟩ := h
    exact ⟨p, ys, rfl, hq, h⟩
  · exact h.elim
theorem c_int : CallR X (.type "int") (fun vs H Q => match vs with | [.bl k] => Q (.int (if k then 1 else 0)) H | _ => False) := call_int1.imp fun vs H Q h => by
  split at h
  · rename_i k
    exact .inr ⟨k, rfl, h⟩
  · exact h.elim
end
inductive Kd where | non | bl | int | str | lst | tup | dct
def kdT : Kd → String | .non => "NoneType" | .bl => "bool" | .int => "int" | .str => "str" | .lst => "list" | .tup => "tuple" | .dct => "dict"
def Kof (H : Hp) : V → Kd → Prop
  | .non, .non => True | .bl _, .bl => True | .int _, .int => True | .str _, .str => True
  | .ref a, .lst => (∃ xs, H a = some (.lst xs)) ∨ ∃ o xs, H a = some (.frz o (.lst xs))
  | .ref a, .tup => ∃ xs, H a = some (.tup xs)
  | .ref a, .dct => ∃ kvs, H a = some (.dK kvs)
  | _, _ => False
def isK : Kd → Kd → Bool | .non, .non => true | .bl, .bl => true | .int, .int => true | .int, .bl => true | .str, .str => true | .lst, .lst => true | .tup, .tup => true | .dct, .dct => true | _, _ => false
theorem kit_K (K : W.Frag) (want k : Kd) : W.kitOne K (.type (kdT k)) (.type (kdT want)) = some (isK want k) := by
  cases want <;> cases k <;> first | rfl | kernel_rfl
theorem ty_K {K : W.Frag} {H : Hp} {x : V} {k : Kd} (h : Kof H x k) : TyOf K H x (.type (kdT k)) := by
  cases x <;> cases k <;> first
    | exact h.elim
    | exact .non
    | exact .bl _
    | exact .int _
    | exact .str _
    | (obtain ⟨xs, e⟩ := h; exact .tup e)
    | (obtain ⟨xs, e⟩ := h; exact .dK e)
    | (rcases h with ⟨xs, e⟩ | ⟨o, xs, e⟩
       · exact .lst e
       · exact .frz e)
def mIsi (want : Kd) : List V → Hp → VK → Prop := fun vs H Q => match vs with
  | [x, y] => y = .ty (kdT want) ∧ ∃ k, Kof H x k ∧ Q (.bl (isK want k)) H
  | _ => False
section
variable {X : Cx}
theorem c_isi (want : Kd) : CallR X (.builtin "isinstance") (mIsi want) := call_isi.imp fun vs H Q h => by
  unfold mIsi at h
  split at h
  · rename_i x y
    obtain ⟨rfl, k, hk, h⟩ := h
    exact ⟨x, _, _, _, rfl, ty_K hk, kit_K X.K want k, h⟩
  · exact h.elim
variable {e : Expr} {te : TE} {p p2 pos : Pos} {T : Str}
def tIsi (want : Kd) (te : TE) : TE := fun σ H Q => te σ H fun x H1 => ∃ k, Kof H1 x k ∧ Q (.bl (isK want k)) H1
theorem x_isi (want : Kd) (he : PE X e te) (hg : Gl X "isinstance") (hm : X.mg "isinstance" = none) (hgT : Gl X T) (hmT : X.mg T = none) (hT : bootBuiltins T = some (.type (kdT want)))
    (hs : starEach [e, .Name T p2] X.env = (false, eval e X.env) :: starEach [.Name T p2] X.env := by rfl) (hs2 : starEach [.Name T p2] X.env = (false, eval (.Name T p2) X.env) :: starEach [] X.env := by rfl)
    (hn : T ≠ "__name__" := by decide) (hd : (T == ("__debug__" : Str)) = false := by decide) (hpl : (backTo pos (starEach [.Name T p2] X.env)).any (·.1) = false := by rfl) :
    PE X (.Call (.Name "isinstance" p) [e, .Name T p2] [] pos) (tIsi want te) := by
  have h := pe_callB (X := X) (x := "isinstance") (p := p) (pos := pos) (c_isi want) hg hm PyProof.Rows.boot_isinstance (pa_cons he (pa_cons (pe_bltn (v := .ty (kdT want)) (pos := p2) hgT hmT hT rfl hn hd) pa_nil hs2) hs) (by decide) (by decide) hs hpl
  intro pins s σ H Q I q
  exact h pins s σ H Q I (by
    show te σ H _
    have : (fun (x : V) (H1 : Hp) => mIsi want [x, .ty (kdT want)] H1 Q) = (fun x H1 => ∃ k, Kof H1 x k ∧ Q (.bl (isK want k)) H1) := by
      funext x H1
      apply propext
      constructor
      · rintro ⟨_, z⟩; exact z
      · intro z; exact ⟨rfl, z⟩
    exact this ▸ q)
end
structure Callee (P : Program) (w : World) (K : W.Frag) (mg : Str → Option Value) (base : Heap) (n : Nat) (x : Str) (ps : List Str) (sp : Sp) : Prop where
  ex : ∃ (f : Addr) (fd : FuncData), FnOk P w K mg base CX0 n f fd ps sp ∧ mg x = some (.ref f) ∧ W.keepIn K (.ref f) = true ∧ Binds K fd ps []
section
variable {X : Cx} {n : Nat} {x : Str} {ps : List Str} {sp : Sp} {p pos : Pos} {e : Expr} {es : List Expr} {t : TA}
def tFn (sp : Sp) (t : TA) : TE := fun σ H Q => t σ H fun vs H1 => sp vs H1 Q E0
theorem x_fn (c : Callee X.prog X.w X.K X.mg X.base n x ps sp) (hr : Room n X.A) (hg : Gl X x) (ha : PA X (e :: es) t) (hdb : (x == ("__debug__" : Str)) = false := by decide)
    (he : starEach (e :: es) X.env = (false, eval e X.env) :: starEach es X.env := by rfl) (hpl : (backTo pos (starEach es X.env)).any (·.1) = false := by rfl) : PE X (.Call (.Name x p) (e :: es) [] pos) (tFn sp t) := by
  obtain ⟨f, fd, F, hm, hk, hb⟩ := c.ex
  have h := pe_call (X := X) (p := p) (pos := pos) (E := E0) F hr hg hm hk hb (dvs := []) .nil pass0 ha hdb he hpl
  intro pins s σ H Q I q
  exact h pins s σ H Q I (by
    show t σ H _
    have : (fun (vs : List V) (H1 : Hp) => sp (vs ++ []) H1 Q E0) = (fun vs H1 => sp vs H1 Q E0) := by
      funext vs H1; rw [List.append_nil]
    rw [this]; exact q)
end
structure DefAt (K : W.Frag) (mg : Str → Option Value) (x : Str) (st : Stmt) (ps : List Str) : Prop where
  ex : ∃ (f : Addr) (fd : FuncData), Fun K x x st f fd ∧ mg x = some (.ref f) ∧ Binds K fd ps []
theorem DefAt.ok {P : Program} {w : World} {K : W.Frag} {mg : Str → Option Value} {base : Heap} {x : Str} {st : Stmt} {N ps : List Str} {k : Nat} {sp : Sp} (D : DefAt K mg x st ps) (S : FnScope N ps (defScope st)) (len : ∀ vs H Q E, sp vs H Q E → vs.length = ps.length)
    (hbody : ∀ (f : Addr) (cdv : Value) (A : Around) (outer : List Env) (s : Shared) (H : Hp) (vs : List V) (Q : VK) (E : XK), Room k (A.deeper (envOfC x (defScope st) s.heap.objs.size f cdv)) → sp vs H Q E →
      ∃ t, PSs (cxOf CX0 P w K mg base N x (defScope st) f cdv A outer s H E).nox (defBody st) t ∧ t { nx := fun _ H' => Q .non H', rt := Q } (start N vs) H) : Callee P w K mg base (k + 1) x ps sp := by
  obtain ⟨f, fd, F, hm, hb⟩ := D.ex
  exact ⟨f, fd, F.ok S len (hbody f), hm, F.kp, hb⟩
def compOk (sc0 : Scope) (N0 : List Str) (scope : Scope) (N : List Str) (js : List (Option Nat)) : Bool :=
  (scope.kind == .function) && scope.names.all (fun y => y.2 != .cell) && scope.names.all (fun y => y.2 != .local || scope.names.lookup y.1 == some .local) && (js.length == N.length) &&
  (List.range js.length).all (fun i => match js[i]? with | some (some j) => (match N[i]? with | some x => N0[j]? == some x && scope.names.lookup x == some .free | none => false) | _ => true) &&
  scope.names.all (fun y => y.2 != .free || sc0.names.lookup y.1 == some .cell || sc0.names.lookup y.1 == some .free)
theorem CompScope.by {X : Cx} {scope : Scope} {N : List Str} {js : List (Option Nat)} (sc0 : Scope) (N0 : List Str) (h0 : X.env.scope = sc0) (hN : X.N = N0) (ok : compOk sc0 N0 scope N js = true) : CompScope X scope N js := by
  unfold compOk at ok
  simp only [Bool.and_eq_true] at ok
  obtain ⟨⟨⟨⟨⟨h1, h2⟩, h3⟩, h4⟩, h5⟩, h6⟩ := ok
  refine ⟨by simpa using h1, fun y hy => ?_, fun y hy hk => ?_, by simpa using h4, fun i j e => ?_, fun y hy hk => ?_⟩
  · have := List.all_eq_true.mp h2 y hy
    simpa using this
  · have := List.all_eq_true.mp h3 y hy
    rw [hk] at this
    simpa using this
  · have hi : i < js.length := (List.getElem?_eq_some_iff.mp e).1
    have := List.all_eq_true.mp h5 i (List.mem_range.mpr hi)
    rw [e] at this
    cases q : N[i]? with
    | none => simp [q] at this
    | some x =>
      simp only [q, Bool.and_eq_true, beq_iff_eq] at this
      exact ⟨x, rfl, by rw [hN]; exact this.1, this.2⟩
  · have := List.all_eq_true.mp h6 y hy
    rw [hk] at this
    have z : (sc0.names.lookup y.1 == some .cell) = true ∨ (sc0.names.lookup y.1 == some .free) = true := by simpa using this
    have ek : X.env.kindOf y.1 = sc0.names.lookup y.1 := by rw [← h0]; rfl
    rw [ek]
    rcases z with z | z
    · exact .inl (by simpa using z)
    · exact .inr (by simpa using z)
end L2
namespace L2
open PySem PySem.Spec PyProof.Rows
def notStar : Expr → Bool | .Starred _ _ => false | _ => true
theorem star_cons {e : Expr} {es : List Expr} {env : Env} (h : notStar e = true) : starEach (e :: es) env = (false, eval e env) :: starEach es env := by
  cases e <;> first | rfl | cases h
theorem star_any {es : List Expr} {env : Env} {pos : Pos} (h : es.all notStar = true) : (backTo pos (starEach es env)).any (·.1) = false := by
  induction es with
  | nil => rfl
  | cons e es ih =>
    rw [List.all_cons, Bool.and_eq_true] at h
    rw [star_cons h.1]
    have := ih h.2
    show (false || (backTo pos (starEach es env)).any (·.1)) = false
    rw [this]; rfl
section
variable {X : Cx} {e o : Expr} {es : List Expr} {te to : TE} {t : TA} {x : Str} {p pos apos cpos : Pos} {id T : String} {r : List V → Hp → VK → Prop}
theorem a_cons (ha : PE X e te) (hr : PA X es t) (h : notStar e = true := by rfl) : PA X (e :: es) (tCons te t) := pa_cons ha hr (star_cons h)
theorem x_callB (hc : CallR X (.builtin id) r) (hg : Gl X x) (hm : X.mg x = none) (hv : bootBuiltins x = some (.builtin id)) (ha : PA X (e :: es) t) (hn : x ≠ "__name__" := by decide) (hdb : (x == ("__debug__" : Str)) = false := by decide)
    (h1 : notStar e = true := by rfl) (h2 : es.all notStar = true := by rfl) : PE X (.Call (.Name x p) (e :: es) [] pos) (tCB r t) := pe_callB hc hg hm hv ha hn hdb (star_cons h1) (star_any h2)
theorem x_callTy (hc : CallR X (.type T) r) (hg : Gl X x) (hm : X.mg x = none) (hv : bootBuiltins x = some (.type T)) (ha : PA X (e :: es) t) (hn : x ≠ "__name__" := by decide) (hdb : (x == ("__debug__" : Str)) = false := by decide)
    (h1 : notStar e = true := by rfl) (h2 : es.all notStar = true := by rfl) : PE X (.Call (.Name x p) (e :: es) [] pos) (tCB r t) := pe_callTy hc hg hm hv ha hn hdb (star_cons h1) (star_any h2)
theorem x_fnc {n : Nat} {ps : List Str} {sp : Sp} (c : Callee X.prog X.w X.K X.mg X.base n x ps sp) (hr : Room n X.A) (hg : Gl X x) (ha : PA X (e :: es) t) (hdb : (x == ("__debug__" : Str)) = false := by decide)
    (h1 : notStar e = true := by rfl) (h2 : es.all notStar = true := by rfl) : PE X (.Call (.Name x p) (e :: es) [] pos) (tFn sp t) := x_fn c hr hg ha hdb (star_cons h1) (star_any h2)
theorem star_few {es : List Expr} {env : Env} {cpos : Pos} (h : es.all notStar = true) : (backTo cpos (starEach es env)).all (fun x => !x.1) = true := by
  induction es with
  | nil => rfl
  | cons e es ih =>
    rw [List.all_cons, Bool.and_eq_true] at h
    rw [star_cons h.1]
    show (!false && (backTo cpos (starEach es env)).all (fun x => !x.1)) = true
    rw [ih h.2]; rfl
theorem x_bm {name : Str} {r : V → List V → Hp → VK → Prop} (pa : PlainAttrs T) (slot : Slot T name id) (hty : typeOf (.builtin id) = pure (.type "method_descriptor")) (hm : MtR X id r) (ho : PE X o to) (ha : PA X (e :: es) t)
    (hbase : attributeBase o name X.env (eval o X.env) = eval o X.env := by rfl) (hline : (apos.endLine == cpos.line) = true := by rfl) (h1 : notStar e = true := by rfl) (h2 : es.all notStar = true := by rfl) (hn : es.length + 1 < 30 := by decide) :
    PE X (.Call (.Attribute o name apos) (e :: es) [] cpos) (tBM X.K T r to t) := by
  refine pe_bm pa slot hty hm ho ha hbase ?_ hline (star_cons h1) (star_any h2)
  rw [star_few (by rw [List.all_cons, h1, h2]; rfl)]
  show (true && true && decide (es.length + 1 + 0 + 0 < 30)) = true
  simp
  omega
theorem x_isin {p2 : Pos} {T : Str} (want : Kd) (he : PE X e te) (hg : Gl X "isinstance") (hm : X.mg "isinstance" = none) (hgT : Gl X T) (hmT : X.mg T = none) (hT : bootBuiltins T = some (.type (kdT want)))
    (hn : T ≠ "__name__" := by decide) (hd : (T == ("__debug__" : Str)) = false := by decide) (h1 : notStar e = true := by rfl) : PE X (.Call (.Name "isinstance" p) [e, .Name T p2] [] pos) (tIsi want te) :=
  x_isi want he hg hm hgT hmT hT (star_cons h1) (star_cons rfl) hn hd (star_any rfl)
end
end L2
namespace L2
open PySem PySem.Spec PyProof.Rows
theorem bb_len : bootBuiltins "len" = some (.builtin "len") := by decide +kernel
theorem bb_isinstance : bootBuiltins "isinstance" = some (.builtin "isinstance") := by decide +kernel
theorem bb_all : bootBuiltins "all" = some (.builtin "all") := by decide +kernel
theorem bb_sorted : bootBuiltins "sorted" = some (.builtin "sorted") := by decide +kernel
theorem bb_max : bootBuiltins "max" = some (.builtin "max") := by decide +kernel
theorem bb_min : bootBuiltins "min" = some (.builtin "min") := by decide +kernel
theorem bb_list : bootBuiltins "list" = some (.type "list") := by decide +kernel
theorem bb_str : bootBuiltins "str" = some (.type "str") := by decide +kernel
theorem bb_int : bootBuiltins "int" = some (.type "int") := by decide +kernel
theorem bb_bool : bootBuiltins "bool" = some (.type "bool") := by decide +kernel
theorem bb_tuple : bootBuiltins "tuple" = some (.type "tuple") := by decide +kernel
end L2
namespace L2
theorem if_b {c : Bool} {A B : Prop} (ht : c = true → A) (hf : c = false → B) : if c = true then A else B := by
  cases h : c with
  | true => rw [if_pos rfl]; exact ht h
  | false => rw [if_neg Bool.false_ne_true]; exact hf h
end L2
namespace L2
open PySem PySem.Spec PyProof.Rows
structure Seqs (J : It) (xs : List V) (A : Hp → Prop) : Prop where
  go : ∀ i H, i < xs.length → A H → J.go i H
  yld : ∀ i H x H', i < xs.length → A H → J.yld i H x H' → H' = H ∧ xs[i]? = some x
  stop : ∀ H, A H → J.stop xs.length H
def rangeV (lo : Int) (n : Nat) : List V := (List.range n).map fun (i : Nat) => V.int (lo + (i : Int))
theorem seq_range (lo : Int) (n : Nat) : Seqs (Itr lo n) (rangeV lo n) (fun _ => True) := by
  have hl : (rangeV lo n).length = n := by simp [rangeV]
  refine ⟨fun i H hi _ => by rw [hl] at hi; exact hi, fun i H v H' hi _ ⟨e, ev⟩ => ⟨e, ?_⟩, fun H _ => by rw [hl]; exact Nat.le_refl _⟩
  subst ev
  rw [hl] at hi
  unfold rangeV
  rw [List.getElem?_map, List.getElem?_range hi]; rfl
theorem seq_list (K : W.Frag) (a : Addr) (xs : List V) : Seqs (Itl K a) xs (fun H => SqL K H a xs) :=
  ⟨fun i H hi h => ⟨xs, xs[i], h, by simp [hi]⟩, fun i H x H' _ h ⟨e, y⟩ => ⟨e, y xs h⟩, fun H h => ⟨xs, h, Nat.le_refl _⟩⟩
theorem comp_seq {J : It} {xs : List V} {A : Hp → Prop} {js : List (Option Nat)} {g : TG} {tt : TT} {te : TE} {σ : St} {H : Hp} {Q : List V → Hp → Prop} (S : Seqs J xs A) (hz : xs.length ≤ 100000) (Pv : Nat → List V → Hp → Prop) (hA : ∀ i ys H, Pv i ys H → A H ∧ ys.length ≤ i) (h0 : Pv 0 [] H)
    (hs : ∀ i x ys H, xs[i]? = some x → Pv i ys H → g x (stC js σ) H fun σ2 H2 => tt σ2 H2 fun b H3 => if b = true then te σ2 H3 fun y H4 => Pv (i + 1) (ys ++ [y]) H4 else Pv (i + 1) ys H3)
    (hd : ∀ ys H, Pv xs.length ys H → Q ys H) : wComp js g tt te σ J H Q := by
  refine ⟨fun i m ys H => m = xs.length - i ∧ i ≤ xs.length ∧ Pv i ys H, ⟨xs.length, by simp, Nat.zero_le _, h0⟩, ?_⟩
  rintro i m ys H ⟨rfl, hi, p⟩
  obtain ⟨pa, hy⟩ := hA i ys H p
  by_cases hlt : i < xs.length
  · refine .inr ⟨S.go i H hlt pa, Nat.lt_of_le_of_lt (m := 100000) (by omega) (by decide), Pv (i + 1), fun ys' H' p' => ⟨xs.length - (i + 1), by omega, rfl, hlt, p'⟩, fun x H' y => ?_⟩
    obtain ⟨rfl, hx⟩ := S.yld i H x H' hlt pa y
    exact hs i x ys H' hx p
  · have e : i = xs.length := by omega
    subst e
    exact .inl ⟨S.stop H pa, hd ys H p⟩
theorem comp_pure {J : It} {xs : List V} {A : Hp → Prop} {js : List (Option Nat)} {g : TG} {tt : TT} {te : TE} {σ : St} {H : Hp} {Q : List V → Hp → Prop} (S : Seqs J xs A) (hz : xs.length ≤ 100000) (p : V → Bool) (f : V → V) (hA : A H)
    (hs : ∀ (x : V) (ys : List V) (N : List V → Hp → Prop), x ∈ xs → (p x = true → N (ys ++ [f x]) H) → (p x = false → N ys H) → g x (stC js σ) H fun σ2 H2 => tt σ2 H2 fun b H3 => if b = true then te σ2 H3 fun y H4 => N (ys ++ [y]) H4 else N ys H3)
    (hd : Q ((xs.filter p).map f) H) : wComp js g tt te σ J H Q := by
  refine comp_seq S hz (fun i ys H' => ys = ((xs.take i).filter p).map f ∧ H' = H) (fun i ys H' ⟨e, e2⟩ => ⟨by rw [e2]; exact hA, ?_⟩) ⟨by simp, rfl⟩ (fun i x ys H' hx ⟨e, e2⟩ => ?_) (fun ys H' ⟨e, e2⟩ => ?_)
  · rw [e, List.length_map]
    exact Nat.le_trans (List.length_filter_le _ _) (by rw [List.length_take]; exact Nat.min_le_left _ _)
  · subst e2
    have key : (xs.take (i + 1)).filter p = (xs.take i).filter p ++ (if p x = true then [x] else []) := take_succ_filter p xs i x hx
    refine hs x ys (fun ys' H3 => ys' = ((xs.take (i + 1)).filter p).map f ∧ H3 = H') (List.mem_of_getElem? hx) (fun h => ⟨?_, rfl⟩) (fun h => ⟨?_, rfl⟩)
    · rw [key, if_pos h, List.map_append, e]; rfl
    · rw [key, if_neg (by rw [h]; exact Bool.false_ne_true), List.append_nil, e]
  · subst e2
    rw [e, List.take_of_length_le (Nat.le_refl _)]
    exact hd
theorem for_seq {J : It} {xs : List V} {A : Hp → Prop} {g : TG} {tb : TS} {D : Ends} {σ : St} {H : Hp} (S : Seqs J xs A) (Pv : Nat → St → Hp → Prop) (hA : ∀ i σ H, Pv i σ H → A H) (h0 : Pv 0 σ H)
    (hs : ∀ (i : Nat) (x : V) σ H, xs[i]? = some x → Pv i σ H → g x σ H fun σ2 H2 => tb { D with nx := Pv (i + 1), ct := Pv (i + 1), bk := D.nx } σ2 H2) (hd : ∀ σ H, Pv xs.length σ H → D.nx σ H) :
    ∃ W : Nat → Nat → St → Hp → Prop, (∃ m, W 0 m σ H) ∧ ∀ i m σ H, W i m σ H →
      (J.stop i H ∧ D.nx σ H) ∨ (J.go i H ∧ ∃ N : St → Hp → Prop, (∀ σ' H', N σ' H' → ∃ m', m' < m ∧ W (i + 1) m' σ' H') ∧ ∀ x H', J.yld i H x H' → g x σ H' fun σ2 H2 => tb { D with nx := N, ct := N, bk := D.nx } σ2 H2) := by
  refine ⟨fun i m σ H => m = xs.length - i ∧ i ≤ xs.length ∧ Pv i σ H, ⟨xs.length, by simp, Nat.zero_le _, h0⟩, ?_⟩
  rintro i m σ H ⟨rfl, hi, p⟩
  have pa := hA i σ H p
  by_cases hlt : i < xs.length
  · refine .inr ⟨S.go i H hlt pa, Pv (i + 1), fun σ' H' p' => ⟨xs.length - (i + 1), by omega, rfl, hlt, p'⟩, fun x H' y => ?_⟩
    obtain ⟨rfl, hx⟩ := S.yld i H x H' hlt pa y
    exact hs i x σ H' hx p
  · have e : i = xs.length := by omega
    subst e
    exact .inl ⟨S.stop H pa, hd σ H p⟩
end L2
namespace L2
open PySem
theorem same_upd {H : Hp} {p : Addr} {o : HO} (h : H p = none) : Same H (upd H p o) := fun b u q => by rw [upd_ne (ne_of_none q h)]; exact q
theorem cut_to {α : Type} (xs : List α) (k : Nat) : cut xs none (some (k : Int)) = xs.take k := by
  unfold cut
  rw [HT.sIx_none, HT.sIx_nat, List.drop_zero, Nat.sub_zero, ← List.take_take, List.take_of_length_le (Nat.le_refl _)]
theorem cut_map {α β : Type} (f : α → β) (xs : List α) (lo hi : Option Int) : cut (xs.map f) lo hi = (cut xs lo hi).map f := by
  unfold cut
  rw [List.length_map, ← List.map_drop, ← List.map_take]
end L2
namespace L2
open PySem PySem.Spec PyProof.Rows
theorem atI_some {α : Type} {xs : List α} {i : Int} (h0 : 0 ≤ i) (h1 : i < xs.length) : ∃ v, atI xs i = some v ∧ v ∈ xs := by
  obtain ⟨j, rfl⟩ := Int.eq_ofNat_of_zero_le h0
  have hj : j < xs.length := by omega
  exact ⟨xs[j], atI_nat (by simp [hj]), List.getElem_mem hj⟩
theorem glue_go (g : Array Nat) : ∀ (ps : List Str) (acc : Array Nat), (ps.foldl (fun acc p => acc ++ g ++ p.cps) acc).toList = acc.toList ++ (ps.map fun p => g.toList ++ p.cps.toList).flatten
  | [], acc => by simp
  | p :: ps, acc => by
    rw [List.foldl_cons, glue_go g ps]
    simp
theorem join_cps (ps : List Str) : (Txt.join (tx []) ps).cps.toList = (ps.map fun p => p.cps.toList).flatten := by
  unfold Txt.join Builtin.Str.glued
  rw [glue_go]
  cases ps with
  | nil => simp [Str.empty]
  | cons p ps => simp
theorem join_tx (ps : List Str) : Txt.join (tx []) ps = tx (ps.map fun p => p.cps.toList).flatten := by rw [← join_cps, tx_cps]
theorem join_signs (ts : List Nat) : Txt.join (tx []) (ts.map fun c => tx [c]) = tx ts := by
  rw [join_tx, List.map_map]
  congr 1
  congr 1
  induction ts with
  | nil => rfl
  | cons c r ih => rw [List.map_cons, List.flatten_cons, ih]; rfl
theorem emp_eq : ("" : Str) = tx [] := by decide +kernel
end L2
namespace L2
open PySem PySem.Spec PyProof.Rows
end L2
namespace L2
open PySem
end L2
namespace L2
open PySem
theorem sum_ones : ∀ ts : List Nat, ((ts.map fun c => tx [c]).map (·.length)).sum = ts.length
  | [] => rfl
  | c :: ts => by
    rw [List.map_cons, List.map_cons, List.sum_cons, sum_ones ts, List.length_cons]
    show 1 + ts.length = _
    omega
end L2
namespace L2
open PySem
theorem cutE {t : TE} {σ : St} {H : Hp} {Q : VK} (R : VK) (h : ∀ k : VK, (∀ v H', R v H' → k v H') → t σ H k) (h2 : ∀ v H', R v H' → Q v H') : t σ H Q := h Q h2
theorem cutS {t : TS} {D : Ends} {σ : St} {H : Hp} (R : St → Hp → Prop) (h : ∀ nx : St → Hp → Prop, (∀ σ' H', R σ' H' → nx σ' H') → t { D with nx := nx } σ H) (h2 : ∀ σ' H', R σ' H' → D.nx σ' H') : t D σ H := h D.nx h2
end L2
namespace L2
open PySem PySem.Spec PyProof.Rows
structure XE (X : Cx) (e : Expr) (t : TE) : Prop where
  h : PE X e t
structure XT (X : Cx) (e : Expr) (t : TT) : Prop where
  h : PT X e t
structure XW (X : Cx) (e : Expr) (t : TT) : Prop where
  h : PW X e t
structure XA (X : Cx) (es : List Expr) (t : TA) : Prop where
  h : PA X es t
structure XS (X : Cx) (st : Stmt) (t : TS) : Prop where
  h : PS X st t
structure XB (X : Cx) (st : List Stmt) (t : TS) : Prop where
  h : PSs X st t
structure XI (X : Cx) (tg iter : Expr) (t : TI) : Prop where
  h : PI X tg iter t
structure XG (X : Cx) (e : Expr) (t : TG) : Prop where
  h : PG X e t
structure XGs (X : Cx) (es : List Expr) (t : TGs) : Prop where
  h : PGs X es t
structure XO (X : Cx) (e : Option Expr) (t : TO) : Prop where
  h : PO X e t
structure XTs (X : Cx) (cs : List Expr) (t : TT) : Prop where
  h : PTs X cs t
structure XSet (X : Cx) (t : TSet) : Prop where
  h : PSet X t
structure XOp (X : Cx) (f : Value → Value → Sem Value) (r : R2) : Prop where
  h : OpR X f r
structure XIx (X : Cx) (r : R2) : Prop where
  h : IxR X r
structure XSl (X : Cx) (r : V → Option Int → Option Int → Hp → VK → Prop) : Prop where
  h : SlR X r
structure XC (X : Cx) (f : Value) (r : List V → Hp → VK → Prop) : Prop where
  h : CallR X f r
structure XM (X : Cx) (id : String) (r : V → List V → Hp → VK → Prop) : Prop where
  h : MtR X id r
namespace R
section
variable {X : Cx} {a b c e o i : Expr} {es rest : List Expr} {ta tb tc te to ti : TE} {tA tB' : TT} {t u : TA} {pos p p2 apos cpos pos' : Pos} {x : Str} {n : Nat} {r r' : R2}
theorem v (i : Nat) {x : Str} {pos : Pos} (hN : X.N[i]? = some x := by rfl) (hv : Vis X.env.scope x := by first | exact Or.inl rfl | exact Or.inr (Or.inl rfl) | exact Or.inr (Or.inr rfl)) (hd : (x == ("__debug__" : Str)) = false := by decide)
    (hcd : (x == ("__classdict__" : Str)) = false := by decide) : XE X (.Name x pos) (vr i) := ⟨xv i hN hv hd hcd⟩
theorem int {i j pos} : XE X (.Constant (.int i) j pos) (tC (.int i)) := ⟨pe_int⟩
theorem bl {b j pos} : XE X (.Constant (.bool b) j pos) (tC (.bl b)) := ⟨pe_bl⟩
theorem non {j pos} : XE X (.Constant .none j pos) (tC .non) := ⟨pe_non⟩
theorem str {x j pos} : XE X (.Constant (.str x) j pos) (tC (.str x)) := ⟨pe_str⟩
theorem op {op : Operator} (ho : XOp X (binaryOp op) r) (ha : XE X a ta) (hb : XE X b tb) : XE X (.BinOp a op b pos) (tOp r ta tb) := ⟨pe_op ho.h ha.h hb.h⟩
theorem add : XOp X (binaryOp .Add) (m20 fun i j => .int (i + j)) := ⟨o_add⟩
theorem sub : XOp X (binaryOp .Sub) (m20 fun i j => .int (i - j)) := ⟨o_sub⟩
theorem mul : XOp X (binaryOp .Mult) (m2 CMul fun i j => .int (i * j)) := ⟨o_mul⟩
theorem mod : XOp X (binaryOp .Mod) (m2 (fun _ j => 0 < j) fun i j => .int (i % j)) := ⟨o_mod⟩
theorem pow : XOp X (binaryOp .Pow) (m2 CPow fun i j => .int (i ^ j.toNat)) := ⟨o_pow⟩
theorem lt : XOp X (compareOp .Lt) (m20 fun i j => .bl (decide (i < j))) := ⟨o_lt⟩
theorem gt : XOp X (compareOp .Gt) (m20 fun i j => .bl (decide (j < i))) := ⟨o_gt⟩
theorem eq : XOp X (compareOp .Eq) mEq := ⟨o_eq⟩
theorem ne : XOp X (compareOp .NotEq) mNe := ⟨o_ne⟩
theorem inQ : XOp X (compareOp .In) (rIn X.K false) := ⟨op_in_seq⟩
theorem isN : XOp X (compareOp .Is) (fun x y H Q => match y with | .non => Q (.bl (decide (x = .non))) H | _ => False) := ⟨o_isN⟩
theorem notN : XOp X (compareOp .IsNot) (fun x y H Q => match y with | .non => Q (.bl (!decide (x = .non))) H | _ => False) := ⟨o_notN⟩
theorem cmp {op : CmpOp} (ho : XOp X (compareOp op) r) (ha : XE X a ta) (hb : XE X b tb) (hm : behindInMarks op b = false := by first | exact nomark _ | rfl) : XE X (.Compare a [op] [b] pos) (tOp r ta tb) := ⟨x_cmp ho.h ha.h hb.h hm⟩
theorem tcmp {op : CmpOp} (ho : XOp X (compareOp op) r) (ha : XE X a ta) (hb : XE X b tb) (hm : behindInMarks op b = false := by first | exact nomark _ | rfl) : XT X (.Compare a [op] [b] pos) (mT (tOp r ta tb)) := ⟨t_cmp ho.h ha.h hb.h hm⟩
theorem neg (ha : XE X a ta) : XE X (.UnaryOp .USub a pos) (tUn (fun x H Q => mI x fun i => Q (.int (-i)) H) ta) := ⟨x_neg ha.h⟩
theorem val {t : TE} (h : XE X e t) (he : ∀ whole, isTrue e X.env whole = (do let v ← whole; standAt e.pos; holding [v] (truthy v)) := by intro _; rfl) : XT X e (mT t) := ⟨t_val h.h he⟩
theorem tnot (ha : XT X a tA) : XT X (.UnaryOp .Not a pos) (tNot tA) := ⟨pt_not ha.h⟩
theorem wand1 (ha : XT X a tA) : XW X (.BoolOp .And [a] pos) tA := ⟨pw_and1 ha.h⟩
theorem wor1 (ha : XT X a tA) : XW X (.BoolOp .Or [a] pos) tA := ⟨pw_or1 ha.h⟩
theorem wand (ha : XT X a tA) (hb : XW X (.BoolOp .And (b :: rest) pos) tB') : XW X (.BoolOp .And (a :: b :: rest) pos) (tAnd tA tB') := ⟨pw_and ha.h hb.h⟩
theorem wor (ha : XT X a tA) (hb : XW X (.BoolOp .Or (b :: rest) pos) tB') : XW X (.BoolOp .Or (a :: b :: rest) pos) (tOr tA tB') := ⟨pw_or ha.h hb.h⟩
theorem tw (h : XW X e tA) : XT X e tA := ⟨h.h.pt⟩
theorem one {op} (h : XE X a ta) : XE X (.BoolOp op [a] pos) ta := ⟨pe_one h.h⟩
theorem and (ha : XE X a ta) (hb : XE X (.BoolOp .And (b :: rest) pos) tb) : XE X (.BoolOp .And (a :: b :: rest) pos) (mAndV ta tb) := ⟨x_and ha.h hb.h⟩
theorem not (ha : XE X a ta) : XE X (.UnaryOp .Not a pos) (mNotV ta) := ⟨x_not ha.h⟩
theorem ix (hr : XIx X r) (ha : XE X a ta) (hb : XE X b tb) (hs : PlainIx b := by exact fun _ _ => rfl) : XE X (.Subscript a b pos) (tOp r ta tb) := ⟨x_ix hr.h ha.h hb.h hs⟩
theorem iL : XIx X (mIxL X.K) := ⟨i_list⟩
theorem iT : XIx X (mIxT X.K) := ⟨i_tup⟩
theorem iS : XIx X mIxS := ⟨i_str⟩
theorem pn : XO X none tNoPart := ⟨po_none⟩
theorem ps (h : XE X e te) : XO X (some e) (mPart te) := ⟨p_some h.h⟩
theorem sl {r : V → Option Int → Option Int → Hp → VK → Prop} {lo hi : Option Expr} {tl th : TO} (hr : XSl X r) (he : XE X e te) (hl : XO X lo tl) (hu : XO X hi th) : XE X (.Subscript e (.Slice lo hi none p2) pos) (tSl r te tl th) := ⟨pe_slice hr.h he.h hl.h hu.h⟩
theorem sL : XSl X (mSlL X.K) := ⟨s_list⟩
theorem nil : XA X [] tNil := ⟨pa_nil⟩
theorem cons (ha : XE X e te) (hr : XA X es t) (h : notStar e = true := by rfl) : XA X (e :: es) (tCons te t) := ⟨a_cons ha.h hr.h h⟩
theorem lst (h : XA X es t) : XE X (.List es pos) (tLst t) := ⟨pe_lst h.h⟩
theorem callB {id : String} {r : List V → Hp → VK → Prop} (hc : XC X (.builtin id) r) (hg : Gl X x) (hm : X.mg x = none) (hv : bootBuiltins x = some (.builtin id)) (ha : XA X (e :: es) t) (hn : x ≠ "__name__" := by decide) (hdb : (x == ("__debug__" : Str)) = false := by decide)
    (h1 : notStar e = true := by rfl) (h2 : es.all notStar = true := by rfl) : XE X (.Call (.Name x p) (e :: es) [] pos) (tCB r t) := ⟨x_callB hc.h hg hm hv ha.h hn hdb h1 h2⟩
theorem callTy {T : String} {r : List V → Hp → VK → Prop} (hc : XC X (.type T) r) (hg : Gl X x) (hm : X.mg x = none) (hv : bootBuiltins x = some (.type T)) (ha : XA X (e :: es) t) (hn : x ≠ "__name__" := by decide) (hdb : (x == ("__debug__" : Str)) = false := by decide)
    (h1 : notStar e = true := by rfl) (h2 : es.all notStar = true := by rfl) : XE X (.Call (.Name x p) (e :: es) [] pos) (tCB r t) := ⟨x_callTy hc.h hg hm hv ha.h hn hdb h1 h2⟩
theorem lenS : XC X (.builtin "len") (fun vs H Q => match vs with | [.str z] => z.length ≤ sizeLine ∧ Q (.int z.length) H | _ => False) := ⟨c_lenS⟩
theorem lenL : XC X (.builtin "len") (fun vs H Q => match vs with | [.ref p] => ∃ ys, (SqL X.K H p ys ∨ SqT X.K H p ys) ∧ Q (.int ys.length) H | _ => False) := ⟨c_lenL⟩
theorem toInt : XC X (.type "int") (fun vs H Q => match vs with | [.bl k] => Q (.int (if k then 1 else 0)) H | _ => False) := ⟨c_int⟩
theorem all (hc : X.calm = true) : XC X (.builtin "all") (rAll X.K) := ⟨call_all hc⟩
theorem fn {n : Nat} {ps : List Str} {sp : Sp} (c : Callee X.prog X.w X.K X.mg X.base n x ps sp) (hr : Room n X.A) (hg : Gl X x) (ha : XA X (e :: es) t) (hdb : (x == ("__debug__" : Str)) = false := by decide)
    (h1 : notStar e = true := by rfl) (h2 : es.all notStar = true := by rfl) : XE X (.Call (.Name x p) (e :: es) [] pos) (tFn sp t) := ⟨x_fnc c hr hg ha.h hdb h1 h2⟩
theorem bm {T id : String} {name : Str} {r : V → List V → Hp → VK → Prop} (pa : PlainAttrs T) (slot : Slot T name id) (hty : typeOf (.builtin id) = pure (.type "method_descriptor")) (hm : XM X id r) (ho : XE X o to) (ha : XA X (e :: es) t)
    (hbase : attributeBase o name X.env (eval o X.env) = eval o X.env := by rfl) (hline : (apos.endLine == cpos.line) = true := by rfl) (h1 : notStar e = true := by rfl) (h2 : es.all notStar = true := by rfl) (hn : es.length + 1 < 30 := by decide) :
    XE X (.Call (.Attribute o name apos) (e :: es) [] cpos) (tBM X.K T r to t) := ⟨x_bm pa slot hty hm.h ho.h ha.h hbase hline h1 h2 hn⟩
theorem append : XM X "list.append" rAppend := ⟨mt_append⟩
theorem join : XM X "str.join" (rJoin X.K) := ⟨mt_join⟩
theorem isi {T : Str} (want : Kd) (he : XE X e te) (hg : Gl X "isinstance") (hm : X.mg "isinstance" = none) (hgT : Gl X T) (hmT : X.mg T = none) (hT : bootBuiltins T = some (.type (kdT want)))
    (hn : T ≠ "__name__" := by decide) (hd : (T == ("__debug__" : Str)) = false := by decide) (h1 : notStar e = true := by rfl) : XE X (.Call (.Name "isinstance" p) [e, .Name T p2] [] pos) (tIsi want te) := ⟨x_isin want he.h hg hm hgT hmT hT hn hd h1⟩
variable {tg : Expr}
theorem wL (hl : XE X e te) : XI X tg e (iList X.K te) := ⟨pi_list hl.h⟩
theorem range1 (hg : Gl X "range") (hm : X.mg "range" = none) (ha : XA X [a] t) (h1 : notStar a = true := by rfl) : XI X tg (.Call (.Name "range" p) [a] [] pos) (iRng1 t) := ⟨pi_range1 hg hm ha.h (star_cons h1)⟩
theorem gn {i : Nat} (hN : X.N.Nodup) (hi : X.N[i]? = some x := by rfl) (hx : Loc X.env.scope x := by first | exact Or.inl rfl | exact Or.inr rfl) (hf : X.fn x = true ∨ X.env.scope.names.lookup x = some .local := by first | exact .inl rfl | exact .inr rfl | assumption) : XG X (.Name x pos) (gName i) := ⟨pg_name hN hi hx hf⟩
theorem gsn : XGs X [] gNil := ⟨pgs_nil⟩
theorem gsc {tg1 : TG} {tgs : TGs} (h1 : XG X e tg1) (h2 : XGs X es tgs) (hs : (assignEach (e :: es) X.env).map (·.2) = assign e X.env :: (assignEach es X.env).map (·.2) := by rfl) : XGs X (e :: es) (gCons tg1 tgs) := ⟨pgs_cons h1.h h2.h hs⟩
theorem gt' {k : Nat} {tgs : TGs} (hc : X.calm = true) (h : XGs X es tgs) (hn : (assignEach es X.env).length = n := by rfl) (hst : (assignEach es X.env).findIdx? (·.1) = none := by rfl) : XG X (.Tuple es k pos) (gTup X.K n tgs) := ⟨pg_tup hc h.h hn hst⟩
theorem setL : XSet X rSetL := ⟨set_list⟩
theorem gsub {ts : TSet} (ho : XE X o to) (hi : XE X i ti) (hs : XSet X ts) (ha : ∀ v, assign (.Subscript o i pos) X.env v = (do
      let ov ← holding [v] (eval o X.env)
      let iv ← holding [v, ov] (eval i X.env)
      standAt pos
      holding [v, ov, iv] (setItem ov iv v)
      release [v, ov, iv] []) := by intro _; rfl) : XG X (.Subscript o i pos) (gSub to ti ts) := ⟨pg_sub ho.h hi.h hs.h ha⟩
end
section
variable {X : Cx} {c e tg iter elt : Expr} {ifs : List Expr} {te : TE} {tc tt : TT} {g : TG} {wi : TI} {st : Stmt} {ss sa sb : List Stmt} {t u : TS} {pos pos' spos py : Pos} {x y : Str} {scope : Scope} {N : List Str} {js : List (Option Nat)}
theorem ts0 : XTs X [] tTrue := ⟨pts_nil⟩
theorem ts1 (h : XT X c tt) (hx : X.xe = fun _ _ => False := by rfl) : XTs X [c] tt := ⟨pts_one h.h hx⟩
theorem comp (hc : X.calm = true) (S : CompScope X scope N js) (go : GOwn js g) (hi : XI X tg iter wi)
    (hb : ∀ (C : Addr) (s₂ : Shared) (H₂ : Hp) (fp : List Addr), XG (cxC X scope C N s₂ H₂ fp) tg g ∧ XTs (cxC X scope C N s₂ H₂ fp) ifs tt ∧ XE (cxC X scope C N s₂ H₂ fp) elt te)
    (hs : ∀ x, foldedSetIterable iter X.env x = pure x := by intro _; rfl) : XE X (.ListComp elt [⟨tg, iter, ifs, 0⟩] scope pos) (tComp wi js g tt te) :=
  ⟨pe_comp hc S go hi.h (fun C s₂ H₂ fp => let ⟨a, b, c⟩ := hb C s₂ H₂ fp; ⟨a.h, b.h, c.h⟩) hs⟩
theorem scomp {i : Nat} (hN : X.N.Nodup) (hy : X.N[i]? = some y) (hx : Loc X.env.scope y) (hc : X.calm = true) (S : CompScope X scope N js) (go : GOwn js g) (hi : XI X tg iter wi)
    (hb : ∀ (C : Addr) (s₂ : Shared) (H₂ : Hp) (fp : List Addr), XG (cxC X scope C N s₂ H₂ fp) tg g ∧ XTs (cxC X scope C N s₂ H₂ fp) ifs tt ∧ XE (cxC X scope C N s₂ H₂ fp) elt te)
    (hsw : swapsWith (.ListComp elt [⟨tg, iter, ifs, 0⟩] scope pos) (some (.Name y py)) spos.line X.env = pure true)
    (hs : ∀ x, foldedSetIterable iter X.env x = pure x := by intro _; rfl) (hf : X.fn y = true ∨ X.env.scope.names.lookup y = some .local := by first | exact .inl rfl | exact .inr rfl | assumption) :
    XS X (.Assign [.Name y py] (.ListComp elt [⟨tg, iter, ifs, 0⟩] scope pos) spos) (sComp i wi js g tt te) :=
  ⟨ps_comp hN hy hx hc S go hi.h (fun C s₂ H₂ fp => let ⟨a, b, c⟩ := hb C s₂ H₂ fp; ⟨a.h, b.h, c.h⟩) hsw hs hf⟩
theorem snil : XB X [] tNext := ⟨pss_nil⟩
theorem sone (h1 : XS X st t) : XB X [st] t := ⟨pss_one h1.h⟩
theorem scons (h1 : XS X st t) (h2 : XB X ss u) : XB X (st :: ss) (tSeq t u) := ⟨pss_cons h1.h h2.h⟩
theorem ret (he : XE X e te) : XS X (.Return (some e) pos) (tRet te) := ⟨ps_ret he.h⟩
theorem expr (he : XE X e te) (hs : swapsWith e none pos.line X.env = pure false := by rfl) : XS X (.Expr e pos) (tDrop te) := ⟨ps_expr he.h hs⟩
theorem ife (hc : XT X c tc) (ha : XB X sa t) (hb : XB X sb u) : XS X (.If c sa sb pos) (tIfS tc t u) := ⟨ps_if hc.h ha.h hb.h⟩
theorem set {i : Nat} (hN : X.N.Nodup) (he : XE X e te) (hi : X.N[i]? = some x := by rfl) (hx : Loc X.env.scope x := by first | exact Or.inl rfl | exact Or.inr rfl) (hs : swapsWith e (some (.Name x pos')) pos.line X.env = pure false := by rfl)
    (hf : X.fn x = true ∨ X.env.scope.names.lookup x = some .local := by first | exact .inl rfl | exact .inr rfl | assumption) : XS X (.Assign [.Name x pos'] e pos) (tAsg te (gName i)) := ⟨ps_set hN hi hx he.h hs hf⟩
theorem asg (he : XE X e te) (hg : XG X tg g) (hs : swapsWithSole [tg] e pos.line X.env = pure false := by rfl) (hw : swappedStores [tg] e X.env = pure none := by rfl) (h1 : (assignEach [tg] X.env).map (·.2) = [assign tg X.env] := by rfl) :
    XS X (.Assign [tg] e pos) (tAsg te g) := ⟨ps_asg he.h hg.h hs hw h1⟩
theorem for_ (hp : PassesOwn (model X.prog X.w) X.A X.env X.xe) (hc : X.calm = true) (hi : XI X tg iter wi) (hg : XG X tg g) (hb : XB X ss t) (hs : ∀ x, foldedSetIterable iter X.env x = pure x := by intro _; rfl) : XS X (.For tg iter ss [] pos) (tFor wi g t) := ⟨ps_for hp hc hi.h hg.h hb.h hs⟩
end
end R
theorem DefAt.go {P : Program} {w : World} {K : W.Frag} {mg : Str → Option Value} {base : Heap} {x : Str} {st : Stmt} {N ps : List Str} {k : Nat} {sp : Sp} (D : DefAt K mg x st ps) (S : FnScope N ps (defScope st)) (len : ∀ vs H Q E, sp vs H Q E → vs.length = ps.length)
    (hbody : ∀ (f : Addr) (cdv : Value) (A : Around) (outer : List Env) (s : Shared) (H : Hp) (vs : List V) (Q : VK) (E : XK), Room k (A.deeper (envOfC x (defScope st) s.heap.objs.size f cdv)) → sp vs H Q E →
      ∃ t, XB (cxOf CX0 P w K mg base N x (defScope st) f cdv A outer s H E).nox (defBody st) t ∧ t { nx := fun _ H' => Q .non H', rt := Q } (start N vs) H) : Callee P w K mg base (k + 1) x ps sp :=
  D.ok S len fun f cdv A outer s H vs Q E hr h => let ⟨t, h1, h2⟩ := hbody f cdv A outer s H vs Q E hr h; ⟨t, h1.h, h2⟩
theorem Fun.go {P : Program} {w : World} {K : W.Frag} {mg : Str → Option Value} {base : Heap} {x qual : Str} {st : Stmt} {f : Addr} {fd : FuncData} {N ps : List Str} {k : Nat} {sp : Sp} (F : Fun K x qual st f fd) (S : FnScope N ps (defScope st)) (len : ∀ vs H Q E, sp vs H Q E → vs.length = ps.length)
    (hbody : ∀ (cdv : Value) (A : Around) (outer : List Env) (s : Shared) (H : Hp) (vs : List V) (Q : VK) (E : XK), Room k (A.deeper (envOfC qual (defScope st) s.heap.objs.size f cdv)) → sp vs H Q E →
      ∃ t, XB (cxOf CX0 P w K mg base N qual (defScope st) f cdv A outer s H E).nox (defBody st) t ∧ t { nx := fun _ H' => Q .non H', rt := Q } (start N vs) H) : FnOk P w K mg base CX0 (k + 1) f fd ps sp :=
  F.ok S len fun cdv A outer s H vs Q E hr h => let ⟨t, h1, h2⟩ := hbody cdv A outer s H vs Q E hr h; ⟨t, h1.h, h2⟩
theorem def_at {K : W.Frag} {h : Heap} {mg : Str → Option Value} {x : Str} {st : Stmt} {ps : List Str} {f : Addr} {od an : Option Addr} {sl : Array (Option Value)} {oc kV dc pm cd ct : Value} (X : K.In h) (G : h.Ns mainGlobals mg)
    (a : W.nsIn K mainGlobals x = some (some (.ref f))) (l : K.lookup f = some ⟨oc, od, .func (W.fnOf x x (defArgs st) (defBody st) (defScope st) .none kV dc pm an cd ct), sl⟩) (c : W.codeIn K cd x = true) (k : W.keepIn K (.ref f) = true)
    (hb : ∀ (kV doc pm : Value) (an : Option Addr) (cdv ct : Value) (us : List Value), us.length = ps.length → bindArgs (W.fnOf x x (defArgs st) (defBody st) (defScope st) .none kV doc pm an cdv ct) ⟨us, []⟩ = pure (ps.zip us)) : DefAt K mg x st ps :=
  ⟨f, _, fun_mk l c k, W.mg_of X G a, (fun_mk (st := st) l c k).binds hb⟩
namespace R
section
variable {X : Cx} {K : W.Frag} {a b c e o i tg : Expr} {es rest : List Expr} {te to : TE} {t : TA} {pos p p2 apos cpos : Pos} {x : Str} {n : Nat}
theorem kiL (hK : X.K = K := by rfl) : XIx X (mIxL K) := hK ▸ iL
theorem kiT (hK : X.K = K := by rfl) : XIx X (mIxT K) := hK ▸ iT
theorem ksL (hK : X.K = K := by rfl) : XSl X (mSlL K) := hK ▸ sL
theorem kinQ (hK : X.K = K := by rfl) : XOp X (compareOp .In) (rIn K false) := hK ▸ inQ
theorem klenL (hK : X.K = K := by rfl) : XC X (.builtin "len") (fun vs H Q => match vs with | [.ref p] => ∃ ys, (SqL K H p ys ∨ SqT K H p ys) ∧ Q (.int ys.length) H | _ => False) := hK ▸ lenL
theorem kall (hc : X.calm = true) (hK : X.K = K := by rfl) : XC X (.builtin "all") (rAll K) := hK ▸ all hc
theorem kjoin (hK : X.K = K := by rfl) : XM X "str.join" (rJoin K) := hK ▸ join
theorem kbm {T id : String} {name : Str} {r : V → List V → Hp → VK → Prop} (pa : PlainAttrs T) (slot : Slot T name id) (hty : typeOf (.builtin id) = pure (.type "method_descriptor")) (hm : XM X id r) (ho : XE X o to) (ha : XA X (e :: es) t) (hK : X.K = K := by rfl)
    (hbase : attributeBase o name X.env (eval o X.env) = eval o X.env := by rfl) (hline : (apos.endLine == cpos.line) = true := by rfl) (h1 : notStar e = true := by rfl) (h2 : es.all notStar = true := by rfl) (hn : es.length + 1 < 30 := by decide) :
    XE X (.Call (.Attribute o name apos) (e :: es) [] cpos) (tBM K T r to t) := hK ▸ bm pa slot hty hm ho ha hbase hline h1 h2 hn
theorem kwL (hl : XE X e te) (hK : X.K = K := by rfl) : XI X tg e (iList K te) := hK ▸ wL hl
theorem kgt {k : Nat} {tgs : TGs} (hc : X.calm = true) (h : XGs X es tgs) (hK : X.K = K := by rfl) (hn : (assignEach es X.env).length = n := by rfl) (hst : (assignEach es X.env).findIdx? (·.1) = none := by rfl) : XG X (.Tuple es k pos) (gTup K n tgs) := hK ▸ gt' hc h hn hst
end
end R
end L2
namespace L2
open PySem PySem.Spec PyProof.Rows
section
variable {X : Cx}
end
namespace R
variable {X : Cx}
end R
def LET : List Nat := [97, 98, 99, 100, 101, 102, 103, 104, 105, 106, 107, 108, 109, 110, 111, 112, 113, 114, 115, 116, 117, 118, 119, 120, 121, 122]
def FIG : List Nat := [48, 49, 50, 51, 52, 53, 54, 55, 56, 57]
theorem let_eq : (("abcdefghijklmnopqrstuvwxyz" : Str)).cps.toList = LET := by decide +kernel
end L2
namespace L2
open PySem PySem.Spec PyProof.Rows
def isNm (z : Str) : Prop := 1 ≤ z.length ∧ z.length ≤ 8 ∧ ∀ c ∈ z.cps.toList, c ∈ LET
theorem six {r : Int} (h0 : 0 ≤ r) (h1 : r < 6) : r = 0 ∨ r = 1 ∨ r = 2 ∨ r = 3 ∨ r = 4 ∨ r = 5 := by omega
namespace R
variable {X : Cx}
theorem max (hc : X.calm = true) : XC X (.builtin "max") (fun vs H Q => match vs with | [.int i, .int j] => Q (.int (if j > i then j else i)) H | _ => False) := ⟨(call_max2 hc).imp fun vs H Q h => by
  split at h
  · rename_i i j
    exact ⟨i, j, rfl, h⟩
  · exact h.elim⟩
end R
end L2
namespace L2
open PySem PySem.Spec PyProof.Rows
section
variable {prog : Program} {w : World} {A : Around} {E : Value → Shared → Prop} {s : Shared}
theorem tupExact_ {t : Addr} {items : Array Value} {Q : Bool → Shared → Prop} (ht : IsTup s.heap t items) (h : Q true s) : wpAny (model prog w) A (Builtin.Tuple.tupleIsExact (.ref t)) Q E s := by
  unfold Builtin.Tuple.tupleIsExact
  refine wpAny_bind (wpAny_typeOf ht.typeIs ?_)
  exact wpAny_pure h
theorem getItem_tuple_whole {t sl : Addr} {items : Array Value} {vl vu : Value} {lo hi : Option Int} {Q : Value → Shared → Prop} (ht : IsTup s.heap t items) (hs : s.heap.IsSliceOf sl vl vu .none) (pl : IsPart vl lo) (pu : IsPart vu hi)
    (hw : HT.sIx items.size 0 lo = 0 ∧ HT.sIx items.size items.size hi = items.size) (h : Q (.ref t) s) : wpAny (model prog w) A (getItem (.ref t) (.ref sl)) Q E s := by
  obtain ⟨os, hos, hcs, hds⟩ := id hs
  have hTs : s.TypeIs (.ref sl) "slice" := ⟨os, hos, hcs⟩
  unfold getItem
  try with_reducible refine wpAny_holding ?_
  first | refine wpAny_bind (wpAny_pure ?_) | skip
  refine wpAny_bind (wpAny_sequenceKey ht.typeIs (by decide) ?_)
  refine wpAny_bind (wpAny_callSpecial?_slot (name := Str.ofString "__getitem__") ht.typeIs PyProof.Rows.slot_tuple_getitem
    (wpAny_call_entry PyProof.Rows.slot_tuple_getitem ht.typeIs entry_tuple_getitem ?_ (args_tuple_getitem _ _)))
  show wpAny _ _ (Builtin.Tuple.tupleItemsOf (.ref t) >>= _) _ _ s
  refine wpAny_bind (tupleItemsOf_ ht ?_)
  refine wpAny_bind (wpAny_typeOf hTs ?_)
  rw [if_pos (by decide)]
  refine wpAny_bind (HT.sliceApplied_gen hs pl pu ?_)
  have hyes : (((HT.sIx items.size 0 lo : Nat) : Int) == 0 && (1 : Int) == 1 && (HT.sIx items.size items.size hi - HT.sIx items.size 0 lo) == items.size) = true := by
    rw [hw.1, hw.2]; simp
  show wpAny _ _ (if (((HT.sIx items.size 0 lo : Nat) : Int) == 0 && (1 : Int) == 1 && (HT.sIx items.size items.size hi - HT.sIx items.size 0 lo) == items.size) = true then _ else _) _ _ s
  rw [if_pos hyes]
  refine wpAny_bind (tupExact_ ht ?_)
  rw [if_pos rfl]
  exact wpAny_bind (wpAny_rule (wpAny_pure ⟨_, rfl, wpAny_pure h⟩))
theorem cat_tup0 {t b : Addr} {ws : List Value} {Q : Value → Shared → Prop} (ht : IsTup s.heap t ([] : List Value).toArray) (hb : IsTup s.heap b ws.toArray) (h1 : Q (.ref b) s) : wpAny (model prog w) A (binaryOp .Add (.ref t) (.ref b)) Q E s := by
  obtain ⟨⟨cls, dd, data, sl⟩, ho, hc, n, hd⟩ := id ht
  obtain ⟨⟨cls2, dd2, data2, sl2⟩, ho2, hc2, n2, hd2⟩ := id hb
  simp only at hc hd hc2 hd2
  subst hc hd hc2 hd2
  exact concat_meets ⟨_, ho, rfl⟩ ⟨_, ho2, rfl⟩ noFill_tuple_add seq_tuple_add PySem.F.slot_tuple_add PySem.F.entry_tuple_add (PySem.F.args_tuple_add_2 _ _)
      (tuple_addW0 t b _ ws.toArray n n2 dd dd2 sl sl2 (by simp)) ⟨ho, ho2, h1⟩
end
section
variable {X : Cx} {e o e1 e2 : Expr} {te : TE} {pos p2 p3 : Pos}
def mSlT : V → Option Int → Option Int → Hp → VK → Prop := fun x lo hi H Q => mR x fun a => ∃ xs, H a = some (.tup xs) ∧ ∀ p H', Same H H' → H' p = some (.tup (cut xs lo hi)) → Q (.ref p) H'
theorem s_tup : SlR X mSlT := by
  intro pins s σ H x v vl vu lo hi sl Q I rx hs pl pu h
  unfold mSlT at h
  rw [mR_eq] at h
  obtain ⟨a, rfl, xs, hx, q⟩ := h
  by_cases hw : HT.sIx xs.length 0 lo = 0 ∧ HT.sIx xs.length xs.length hi = xs.length
  · cases rx
    obtain ⟨its, r, ht, hz⟩ := I.tuple (SqT.of hx)
    have hlen : its.toArray.size = xs.length := by rw [List.size_toArray]; exact r.length.symm
    refine ⟨"tuple", _, PyProof.Rows.slot_tuple_getitem.lookup, ht.typeIs, ?_⟩
    refine getItem_tuple_whole ht hs pl pu (by rw [hlen]; exact hw) ⟨.ref a, H, I, rfl, q a H (Same.refl H) ?_⟩
    rw [hx]
    unfold cut
    rw [hw.1, hw.2, List.drop_zero, Nat.sub_zero, List.take_of_length_le (Nat.le_refl _)]
  · exact sl_tup pins s σ H (.ref a) v vl vu lo hi sl Q I rx hs pl pu ⟨a, xs, rfl, SqT.of hx, hw, fun p hp => q p _ (same_upd hp) upd_same⟩
def mCatT : R2 := fun x y H Q => mR x fun a => mR y fun b => ∃ xs ys, H a = some (.tup xs) ∧ H b = some (.tup ys) ∧ xs.length + ys.length ≤ 1000 ∧ ∀ p H', Same H H' → H' p = some (.tup (xs ++ ys)) → Q (.ref p) H'
theorem o_catT : OpR X (binaryOp .Add) mCatT := by
  intro pins s σ H x y v u Q I rx ry h
  unfold mCatT at h
  rw [mR_eq] at h
  obtain ⟨a, rfl, h⟩ := h
  rw [mR_eq] at h
  obtain ⟨b, rfl, xs, ys, ha, hb, hz, q⟩ := h
  by_cases h0 : xs = []
  · subst h0
    cases rx
    cases ry
    obtain ⟨its, r1, p1, _⟩ := I.tuple (SqT.of ha)
    obtain ⟨its2, r2, p2, _⟩ := I.tuple (SqT.of hb)
    cases r1
    exact cat_tup0 p1 p2 ⟨.ref b, H, I, rfl, q b H (Same.refl H) (by rw [hb]; rfl)⟩
  · exact op_catT pins s σ H _ _ v u Q I rx ry ⟨a, b, xs, ys, rfl, rfl, SqT.of ha, SqT.of hb, h0, Nat.le_trans hz (by decide), (fun h1 => q a H (Same.refl H) (by rw [ha, h1, List.append_nil])), fun _ p hp => q p _ (same_upd hp) upd_same⟩
end
def Tab (P : Params) : List DictEntry → List (Str × Int) → Prop
  | [], [] => True
  | e :: r, (x, i) :: q => (∃ t, e.key = .str x t) ∧ e.hash = PyData.keyHash P x ∧ (∃ t, e.val = .int i t) ∧ Tab P r q
  | _, _ => False
section
variable {X : Cx}
end
namespace R
section
variable {X : Cx} {K : W.Frag} {P : Params} {e e1 k v o f : Expr} {te t1 tk tv td ty tx' : TE} {pos p2 apos cpos : Pos} {ks : List (Option Expr)} {vs : List Expr} {trs : List (TE × TE)}
theorem sT : XSl X mSlT := ⟨s_tup⟩
theorem catT : XOp X (binaryOp .Add) mCatT := ⟨o_catT⟩
theorem ktoList (hK : X.K = K := by rfl) : XC X (.type "list") (fun vs H Q => match vs with | [.ref p] => ∃ ys, (SqL K H p ys ∨ SqT K H p ys) ∧ ∀ l, H l = none → Q (.ref l) (upd H l (.lst ys)) | _ => False) := hK ▸ ⟨call_list_of.imp fun vs H Q h => by
  split at h
  · rename_i p
    obtain ⟨ys, hq, h⟩ := h
    exact ⟨p, ys, rfl, hq, h⟩
  · exact h.elim⟩
end
end R
end L2
namespace L2
open PySem PySem.Spec PyProof.Rows
end L2
namespace L2
open PySem PySem.Spec PyProof.Rows
def mCat : R2 := fun x y H Q => mR x fun l => mR y fun b => ∃ xs zs, H l = some (.lst xs) ∧ H b = some (.lst zs) ∧ xs.length + zs.length ≤ sizeLine ∧ ∀ p, H p = none → Q (.ref p) (upd H p (.lst (xs ++ zs)))
theorem R.cat {X : Cx} : XOp X (binaryOp .Add) mCat := ⟨op_cat.imp fun x y H Q h => by
  unfold mCat at h
  rw [mR_eq] at h
  obtain ⟨a, rfl, h⟩ := h
  rw [mR_eq] at h
  obtain ⟨b, rfl, xs, zs, h⟩ := h
  exact ⟨a, b, xs, zs, rfl, rfl, h⟩⟩
end L2
namespace L2
open PySem PySem.Spec PyProof.Rows
section
variable {d b : Addr} {H : Hp}
end
end L2
namespace L2
open PySem PySem.Spec PyProof.Rows
inductive TV where
  | sc (v : V)
  | tp (xs : List TV)
  | ls (xs : List TV)
def isSc : V → Bool | .non => true | .bl _ => true | .int _ => true | .str _ => true | _ => false
def Rep (H : Hp) : Nat → TV → V → Prop
  | 0, .sc v, x => x = v ∧ isSc v = true
  | _ + 1, .sc v, x => x = v ∧ isSc v = true
  | n + 1, .tp ts, x => ∃ a xs, x = .ref a ∧ H a = some (.tup xs) ∧ Paired (Rep H n) ts xs
  | n + 1, .ls ts, x => ∃ a xs, x = .ref a ∧ H a = some (.lst xs) ∧ Paired (Rep H n) ts xs
  | 0, _, _ => False
theorem Paired.map' {α β : Type} {R S : α → β → Prop} (f : ∀ a b, R a b → S a b) {xs : List α} {ys : List β} (h : Paired R xs ys) : Paired S xs ys := by
  induction h with
  | nil => exact .nil
  | cons h t ih => exact .cons (f _ _ h) ih
theorem Rep.same {H H' : Hp} (s : Same H H') : ∀ {n : Nat} {t : TV} {x : V}, Rep H n t x → Rep H' n t x
  | 0, .sc v, x, h => h
  | n + 1, .sc v, x, h => h
  | n + 1, .tp ts, x, ⟨a, xs, e, g, p⟩ => ⟨a, xs, e, s _ _ g, Paired.map' (fun _ _ => Rep.same s) p⟩
  | n + 1, .ls ts, x, ⟨a, xs, e, g, p⟩ => ⟨a, xs, e, s _ _ g, Paired.map' (fun _ _ => Rep.same s) p⟩
theorem Paired.get' {α β : Type} {R : α → β → Prop} : ∀ {xs : List α} {ys : List β} {j : Nat}, Paired R xs ys → ∀ (h : j < ys.length), ∃ h' : j < xs.length, R xs[j] ys[j]
  | _, _, 0, .cons h t, _ => ⟨Nat.succ_pos _, h⟩
  | _, _, j + 1, .cons h t, hj => let ⟨h', r⟩ := Paired.get' (j := j) t (by simpa using hj); ⟨by simpa using h', by simpa using r⟩
section
variable {X : Cx} {pins : List (Addr × Obj)} {s : Shared} {σ : St} {H : Hp}
end
section
variable {X : Cx}
end
end L2
namespace L2
open PySem PySem.Spec PyProof.Rows PySem.Builtin PySem.Builtin.Str
section
variable {X : Cx}
end
end L2
namespace L2
open PySem PySem.Spec PyProof.Rows
end L2
namespace L2
open PySem PySem.Spec PyProof.Rows
section
variable {prog : Program} {w : World} {A : Around} {E : Value → Shared → Prop} {s : Shared}
end
section
variable {X : Cx}
end
section
variable {X : Cx} {pos : Pos}
end
end L2
namespace L2
open PySem PySem.Spec PyProof.Rows
section
variable {X : Cx} {es : List Expr} {t : TA} {pos : Pos}
def tTupW (t : TA) : TE := fun σ H Q => t σ H fun xs H1 => xs.length ≤ 1000 ∧ ∀ p H', Same H1 H' → H' p = some (.tup xs) → Q (.ref p) H'
theorem pe_tupW {x1} (h : PA X es t) : PE X (.Tuple es x1 pos) (tTupW t) := by
  intro pins s σ H Q I hq
  refine wpAny_Tuple_spliced (thn (h pos pins s σ H _ I hq) fun us s1 ⟨xs, H1, I1, r, z, q⟩ => ⟨by rw [← r.length]; exact szl' z, ?_⟩)
  have hf : H1 s1.heap.objs.size = none := I1.hok.fresh (Nat.le_refl _)
  refine ⟨.ref s1.heap.objs.size, upd H1 s1.heap.objs.size (.tup xs), I1.laid (t' := s1.toks) (fun b u e => Heap.get?_push_of_some _ e) (Nat.le_refl _) ?_, rfl, q _ _ (same_upd hf) upd_same⟩
  exact ⟨szl' z, us, r, ⟨_, Heap.get?_push_size _ rfl, rfl, _, rfl⟩⟩
theorem R.wtup {x1} (h : XA X es t) : XE X (.Tuple es x1 pos) (tTupW t) := ⟨pe_tupW h.h⟩
end
end L2
namespace L2
open PySem PySem.Spec PyProof.Rows
section
def Ask (lt : Nat → Nat → Bool) (n : Nat) {α : Type} : W.KasT α → (α → Prop) → Prop
  | .ret a, Q => Q a
  | .ask i j k, Q => i < n ∧ j < n ∧ Ask lt n (k (lt i j)) Q
theorem Ask.bind {lt : Nat → Nat → Bool} {n : Nat} {α β : Type} {f : α → W.KasT β} {Q : β → Prop} : ∀ (t : W.KasT α), Ask lt n t (fun a => Ask lt n (f a) Q) → Ask lt n (t.bind f) Q
  | .ret _, h => h
  | .ask i j k, h => ⟨h.1, h.2.1, Ask.bind (k (lt i j)) h.2.2⟩
theorem Ask.wp {lt : Nat → Nat → Bool} {n : Nat} {α : Type} {cmp : Nat → Nat → (Bool → Shared → Prop) → Shared → Prop} {s : Shared} {G : α → Shared → Prop} (hc : ∀ i j C, i < n → j < n → C (lt i j) s → cmp i j C s) :
    ∀ (t : W.KasT α), Ask lt n t (fun a => G a s) → t.kasWp cmp G s
  | .ret _, h => h
  | .ask i j k, h => hc i j _ h.1 h.2.1 (Ask.wp hc (k (lt i j)) h.2.2)
variable {O : KeyOrd} {key : Nat → O.α} {n : Nat}
abbrev kg (key : Nat → O.α) (p : Array Nat) (i : Nat) : O.α := key (p.getD i 0)
abbrev klt' (key : Nat → O.α) (i j : Nat) : Bool := O.blt (key i) (key j)
def Prm (n : Nat) (p : Array Nat) : Prop := p.Perm (List.range n).toArray
theorem Prm.size {p : Array Nat} (h : Prm n p) : p.size = n := by
  have := h.size_eq
  simpa using this
theorem Prm.lt {p : Array Nat} (h : Prm n p) {i : Nat} (hi : i < n) : p.getD i 0 < n := by
  have hs : i < p.size := by rw [h.size]; exact hi
  have e : p.getD i 0 = p[i] := by simp [Array.getD, hs]
  rw [e]
  have hm : p[i] ∈ (List.range n).toArray.toList := (Array.perm_iff_toList_perm.mp h).mem_iff.mp (by simp)
  simpa using hm
theorem gd {p q : Array Nat} {i j : Nat} (h : p[i]? = q[j]?) : p.getD i 0 = q.getD j 0 := by
  rw [Array.getD_eq_getD_getElem?, Array.getD_eq_getD_getElem?, h]
theorem kg_rev {p : Array Nat} {i j : Nat} (hj : j ≤ p.size) (k : Nat) : kg key (W.kas_rev p i j) k = if i ≤ k ∧ k < j then kg key p (i + j - 1 - k) else kg key p k := by
  have e := getElem?_mirror_all (xs := p) (i := i) hj k
  unfold kg W.kas_rev
  by_cases h1 : i ≤ k ∧ k < j
  · rw [if_pos h1] at e ⊢
    rw [gd e]
  · rw [if_neg h1] at e ⊢
    rw [gd e]
theorem kg_same {p : Array Nat} {i j : Nat} (hj : j ≤ p.size) (heq : ∀ k, i ≤ k → k < j → kg key p k = kg key p (j - 1)) (k : Nat) : kg key (W.kas_rev p i j) k = kg key p k := by
  rw [kg_rev hj]
  split
  · rename_i h
    rw [heq (i + j - 1 - k) (by omega) (by omega), heq k h.1 h.2]
  · rfl
theorem kg_bub {p : Array Nat} {a d : Nat} (hs : a < p.size) (hd : d ≤ a) (k : Nat) : kg key (bubble p a d) k = if k = a - d then kg key p a else if a - d < k ∧ k ≤ a then kg key p (k - 1) else kg key p k := by
  have e := getElem?_bubble (xs := p) hs d hd k
  unfold kg
  by_cases h1 : k = a - d
  · rw [if_pos h1] at e ⊢
    rw [gd e]
  · rw [if_neg h1] at e ⊢
    by_cases h2 : a - d < k ∧ k ≤ a
    · rw [if_pos h2] at e ⊢
      rw [gd e]
    · rw [if_neg h2] at e ⊢
      rw [gd e]
theorem Prm.rev {p : Array Nat} (h : Prm n p) (i j : Nat) : Prm n (W.kas_rev p i j) := (mirror_perm _ _ _ _).trans h
theorem Prm.bub {p : Array Nat} (h : Prm n p) (i j : Nat) : Prm n (bubble p i j) := (bubble_perm _ _ _).trans h
def Up (key : Nat → O.α) (p : Array Nat) (m : Nat) : Prop := ∀ i j, i ≤ j → j < m → O.kle (kg key p i) (kg key p j)
def Dn (key : Nat → O.α) (p : Array Nat) (m : Nat) : Prop := ∀ i j, i ≤ j → j < m → O.kle (kg key p j) (kg key p i)
theorem Up.one {p : Array Nat} : Up key p 1 := fun i j h1 h2 => by
  have e : i = j := by omega
  subst e
  exact KeyOrd.kle_refl _
theorem Up.more {p : Array Nat} {m : Nat} (h : Up key p m) (hm : 1 ≤ m) (hs : O.kle (kg key p (m - 1)) (kg key p m)) : Up key p (m + 1) := fun i j h1 h2 => by
  by_cases hj : j < m
  · exact h i j h1 hj
  · obtain rfl : j = m := by omega
    by_cases hi : i = j
    · subst hi; exact KeyOrd.kle_refl _
    · exact KeyOrd.kle_trans (h i (j - 1) (by omega) (by omega)) hs
theorem Dn.more {p : Array Nat} {m : Nat} (h : Dn key p m) (hm : 1 ≤ m) (hs : O.kle (kg key p m) (kg key p (m - 1))) : Dn key p (m + 1) := fun i j h1 h2 => by
  by_cases hj : j < m
  · exact h i j h1 hj
  · obtain rfl : j = m := by omega
    by_cases hi : i = j
    · subst hi; exact KeyOrd.kle_refl _
    · exact KeyOrd.kle_trans hs (h i (j - 1) (by omega) (by omega))
theorem ask_asc {p : Array Nat} (hp : Prm n p) {Q : Nat → Prop} : ∀ (f a : Nat), 1 ≤ a → a + f ≤ n → Up key p a →
    (∀ m, a ≤ m → m ≤ a + f → Up key p m → (m = a + f ∨ O.klt (kg key p m) (kg key p (m - 1))) → Q m) → Ask (klt' key) n (W.kas_asc p f a) Q
  | 0, a, _, _, hu, h => h a (Nat.le_refl _) (Nat.le_refl _) hu (.inl rfl)
  | f + 1, a, h1, hn, hu, h => by
    refine ⟨hp.lt (by omega), hp.lt (by omega), ?_⟩
    show Ask (klt' key) n (if O.blt (kg key p a) (kg key p (a - 1)) = true then _ else _) Q
    cases hb : O.blt (kg key p a) (kg key p (a - 1)) with
    | true => exact h a (Nat.le_refl _) (by omega) hu (.inr hb)
    | false =>
      refine ask_asc hp f (a + 1) (by omega) (by omega) (hu.more h1 hb) fun m m1 m2 m3 m4 => h m (by omega) (by omega) m3 (m4.imp (fun e => by omega) id)
theorem ask_desc {Q : Array Nat × Nat × Nat → Prop} : ∀ (f : Nat) (p : Array Nat) (a q : Nat), Prm n p → 1 ≤ a → a + f ≤ n → Dn key p a → q + 1 ≤ a → (∀ i, a - (q + 1) ≤ i → i < a → kg key p i = kg key p (a - 1)) →
    (∀ p' m q', Prm n p' → 1 ≤ m → m ≤ a + f → Dn key p' m → q' + 1 ≤ m → (∀ i, m - (q' + 1) ≤ i → i < m → kg key p' i = kg key p' (m - 1)) → Q (p', m, q')) → Ask (klt' key) n (W.kas_desc f p a q) Q
  | 0, p, a, q, hp, h1, _, hd, hq, he, h => h p a q hp h1 (Nat.le_refl _) hd hq he
  | f + 1, p, a, q, hp, h1, hn, hd, hq, he, h => by
    have hsz : a ≤ p.size := by rw [hp.size]; omega
    have one : ∀ p' : Array Nat, ∀ i, a + 1 - (0 + 1) ≤ i → i < a + 1 → kg key p' i = kg key p' (a + 1 - 1) := fun p' i x y => by
      have e : i = a + 1 - 1 := by omega
      rw [e]
    refine ⟨hp.lt (by omega), hp.lt (by omega), ?_⟩
    show Ask (klt' key) n (if O.blt (kg key p a) (kg key p (a - 1)) = true then _ else _) Q
    cases hb : O.blt (kg key p a) (kg key p (a - 1)) with
    | true =>
      rw [if_pos rfl]
      have hd' := hd.more h1 (KeyOrd.kle_of_klt hb)
      by_cases q0 : q > 0
      · rw [if_pos q0]
        have hs := kg_same (key := key) hsz he
        refine ask_desc f _ (a + 1) 0 (hp.rev _ _) (by omega) (by omega) (fun i j x y => by rw [hs, hs]; exact hd' i j x y) (by omega) (one _) fun p' m q' x1 x2 x3 => h p' m q' x1 x2 (by omega)
      · rw [if_neg q0]
        exact ask_desc f _ (a + 1) 0 hp (by omega) (by omega) hd' (by omega) (one _) fun p' m q' x1 x2 x3 => h p' m q' x1 x2 (by omega)
    | false =>
      rw [if_neg (by decide)]
      refine ⟨hp.lt (by omega), hp.lt (by omega), ?_⟩
      show Ask (klt' key) n (if O.blt (kg key p (a - 1)) (kg key p a) = true then _ else _) Q
      cases hc : O.blt (kg key p (a - 1)) (kg key p a) with
      | true => exact h p a q hp h1 (by omega) hd hq he
      | false =>
        rw [if_neg (by decide)]
        have hx : kg key p a = kg key p (a - 1) := KeyOrd.kle_antisymm hc hb
        refine ask_desc f p (a + 1) (q + 1) hp (by omega) (by omega) (hd.more h1 hc) (by omega) (fun i x y => ?_) fun p' m q' x1 x2 x3 => h p' m q' x1 x2 (by omega)
        rw [show a + 1 - 1 = a from rfl]
        by_cases hi : i = a
        · rw [hi]
        · rw [hx]; exact he i (by omega) (by omega)
theorem ask_tail3 {p : Array Nat} {a r : Nat} {Q : Nat × Array Nat → Prop} (hp : Prm n p) (h1 : 1 ≤ a) (hr : a ≤ r) (hn : r ≤ n) (hd : Dn key p a) (h : ∀ m p', Prm n p' → 1 ≤ m → m ≤ r → Up key p' m → Q (m, p')) :
    Ask (klt' key) n (W.kas_tail3 a r p) Q := by
  have hsz : a ≤ p.size := by rw [hp.size]; omega
  refine Ask.bind _ (ask_asc (hp.rev 0 a) (r - a) a h1 (by omega) (fun i j x y => ?_) fun m m1 m2 m3 _ => h m _ (hp.rev 0 a) (by omega) (by omega) m3)
  rw [kg_rev hsz, kg_rev hsz, if_pos (by omega), if_pos (by omega)]
  exact hd _ _ (by omega) (by omega)
theorem ask_descPart {p : Array Nat} {a r : Nat} {Q : Nat × Array Nat → Prop} (hp : Prm n p) (ha : a + 1 ≤ r) (hn : r ≤ n) (hd : Dn key p (a + 1)) (h : ∀ m p', Prm n p' → 1 ≤ m → m ≤ r → Up key p' m → Q (m, p')) :
    Ask (klt' key) n (W.kas_descPart a r p) Q := by
  refine Ask.bind _ (ask_desc (r - (a + 1)) p (a + 1) 0 hp (by omega) (by omega) hd (by omega) (fun i x y => by rw [show i = a + 1 - 1 by omega]) fun p' m q x1 x2 x3 x4 x5 x6 => ?_)
  have hsz : m ≤ p'.size := by rw [x1.size]; omega
  dsimp only
  by_cases q0 : q > 0
  · rw [if_pos q0]
    have hs := kg_same (key := key) hsz x6
    exact ask_tail3 (x1.rev _ _) x2 (by omega) hn (fun i j x y => by rw [hs, hs]; exact x4 i j x y) h
  · rw [if_neg q0]
    exact ask_tail3 x1 x2 (by omega) hn x4 h
theorem ask_count {p : Array Nat} {r : Nat} {Q : Nat × Array Nat → Prop} (hp : Prm n p) (h1 : 1 ≤ r) (hn : r ≤ n) (h : ∀ m p', Prm n p' → 1 ≤ m → m ≤ r → Up key p' m → Q (m, p')) :
    Ask (klt' key) n (W.kas_count r p) Q := by
  refine Ask.bind _ (ask_asc hp (r - 1) 1 (Nat.le_refl _) (by omega) Up.one fun a a1 a2 hu ho => ?_)
  by_cases e : a = r
  · rw [if_pos (by simpa using e)]
    exact h a p hp a1 (by omega) hu
  · rw [if_neg (by simpa using e)]
    have hlt : O.klt (kg key p a) (kg key p (a - 1)) := ho.resolve_left (by omega)
    by_cases g : a > 1
    · rw [if_pos g]
      refine ⟨hp.lt (by omega), hp.lt (by omega), ?_⟩
      show Ask (klt' key) n (if O.blt (kg key p 0) (kg key p (a - 1)) = true then _ else _) Q
      cases hb : O.blt (kg key p 0) (kg key p (a - 1)) with
      | true => exact h a p hp a1 (by omega) hu
      | false =>
        rw [if_neg (by decide)]
        have hsz : a ≤ p.size := by rw [hp.size]; omega
        have hall : ∀ k, 0 ≤ k → k < a → kg key p k = kg key p (a - 1) := fun k _ hk => KeyOrd.kle_antisymm (hu k (a - 1) (by omega) (by omega)) (KeyOrd.kle_trans hb (hu 0 k (by omega) hk))
        have hs := kg_same (key := key) hsz hall
        refine ask_descPart (hp.rev _ _) (by omega) hn (fun i j x y => ?_) h
        rw [hs, hs]
        by_cases hj : j < a
        · rw [hall i (by omega) (by omega), hall j (by omega) hj]; exact KeyOrd.kle_refl _
        · obtain rfl : j = a := by omega
          by_cases hi : i = j
          · subst hi; exact KeyOrd.kle_refl _
          · rw [hall i (by omega) (by omega)]; exact KeyOrd.kle_of_klt hlt
    · rw [if_neg g]
      obtain rfl : a = 1 := by omega
      refine ask_descPart hp (by omega) hn (fun i j x y => ?_) h
      by_cases hi : i = j
      · subst hi; exact KeyOrd.kle_refl _
      · obtain rfl : i = 0 := by omega
        obtain rfl : j = 1 := by omega
        exact KeyOrd.kle_of_klt hlt
theorem ask_place {p : Array Nat} {k : Nat} {Q : Nat → Prop} (hp : Prm n p) (hk : k < n) (hu : Up key p k) : ∀ (f l r : Nat), l ≤ r → r ≤ k → r - l ≤ f → (∀ i, i < l → O.kle (kg key p i) (kg key p k)) → (∀ i, r ≤ i → i < k → O.klt (kg key p k) (kg key p i)) →
    (∀ l, l ≤ k → (∀ i, i < l → O.kle (kg key p i) (kg key p k)) → (∀ i, l ≤ i → i < k → O.klt (kg key p k) (kg key p i)) → Q l) → Ask (klt' key) n (W.kas_place p k f l r) Q
  | 0, l, r, h1, h2, h3, h4, h5, h => by
    obtain rfl : l = r := by omega
    exact h l h2 h4 h5
  | f + 1, l, r, h1, h2, h3, h4, h5, h => by
    unfold W.kas_place
    by_cases g : l ≥ r
    · rw [if_pos g]
      obtain rfl : l = r := by omega
      exact h l h2 h4 h5
    · rw [if_neg g]
      refine ⟨hp.lt hk, hp.lt (by omega), ?_⟩
      show Ask (klt' key) n (if O.blt (kg key p k) (kg key p ((l + r) / 2)) = true then _ else _) Q
      cases hb : O.blt (kg key p k) (kg key p ((l + r) / 2)) with
      | true =>
        rw [if_pos rfl]
        exact ask_place hp hk hu f l _ (by omega) (by omega) (by omega) h4 (fun i x y => KeyOrd.klt_of_klt_of_kle hb (hu _ _ x y)) h
      | false =>
        rw [if_neg (by decide)]
        exact ask_place hp hk hu f _ r (by omega) h2 (by omega) (fun i x => KeyOrd.kle_trans (hu i ((l + r) / 2) (by omega) (by omega)) hb) h5 h
theorem ask_bin {Q : Array Nat → Prop} : ∀ (f : Nat) (p : Array Nat) (k : Nat), Prm n p → k + f = n → Up key p k → (∀ p', Prm n p' → Up key p' n → Q p') → Ask (klt' key) n (W.kas_bin f p k) Q
  | 0, p, k, hp, e, hu, h => h p hp (by
    obtain rfl : k = n := by omega
    exact hu)
  | f + 1, p, k, hp, e, hu, h => by
    refine Ask.bind _ (ask_place hp (by omega) hu k 0 k (by omega) (by omega) (by omega) (fun i x => by omega) (fun i x y => by omega) fun l hl lo hi => ?_)
    have hks : k < p.size := by rw [hp.size]; omega
    refine ask_bin f _ (k + 1) (hp.bub _ _) (by omega) (fun i j x y => ?_) h
    rw [kg_bub hks (by omega), kg_bub hks (by omega), show k - (k - l) = l by omega]
    by_cases i1 : i = l
    · rw [if_pos i1]
      by_cases j1 : j = l
      · rw [if_pos j1]; exact KeyOrd.kle_refl _
      · rw [if_neg j1, if_pos (by omega)]
        exact KeyOrd.kle_of_klt (hi _ (by omega) (by omega))
    · rw [if_neg i1]
      by_cases j1 : j = l
      · rw [if_pos j1, if_neg (by omega)]
        exact lo _ (by omega)
      · rw [if_neg j1]
        by_cases i2 : l < i ∧ i ≤ k
        · rw [if_pos i2, if_pos (by omega)]
          exact hu _ _ (by omega) (by omega)
        · rw [if_neg i2]
          by_cases j2 : l < j ∧ j ≤ k
          · rw [if_pos j2]
            exact hu _ _ (by omega) (by omega)
          · rw [if_neg j2]
            exact hu _ _ x (by omega)
theorem ask_sort {Q : Array Nat → Prop} (h1 : 1 ≤ n) (h : ∀ p, Prm n p → Up key p n → Q p) : Ask (klt' key) n (W.kas_sort n) Q := by
  refine Ask.bind _ (ask_count (p := (List.range n).toArray) (Array.Perm.refl _) h1 (Nat.le_refl _) fun m p hp m1 m2 hu => ?_)
  dsimp only
  by_cases hm : m < n
  · rw [if_pos hm]
    rw [show max m 1 = m by omega]
    exact ask_bin _ p m hp (by omega) hu h
  · rw [if_neg hm]
    obtain rfl : m = n := by omega
    exact h p hp hu
end
section
variable {prog : Program} {w : World} {A : Around} {E : Value → Shared → Prop} {s : Shared}
end
end L2
namespace L2
open PySem PySem.Spec PyProof.Rows
section
variable {prog : Program} {w : World} {A : Around} {E : Value → Shared → Prop} {s : Shared}
end
section
variable {X : Cx} {pins : List (Addr × Obj)} {σ : St} {H : Hp} {s : Shared}
theorem vals_getD : ∀ {xs : List V} {vs : List Value} (i : Nat), Vals xs vs → i < xs.length → ∀ x, xs[i]? = some x → RelV x (vs.getD i Value.none)
  | x :: xs, v :: vs, 0, .cons r rs, _, y, hy => by
    cases hy
    exact r
  | x :: xs, v :: vs, i + 1, .cons r rs, hi, y, hy => by
    have := vals_getD i rs (by simpa using hi) y (by simpa using hy)
    simpa using this
theorem vals_map {α : Type} {f : α → V} {g : α → Value} : ∀ {l : List α}, (∀ a ∈ l, RelV (f a) (g a)) → Vals (l.map f) (l.map g)
  | [], _ => .nil
  | a :: l, h => .cons (h a List.mem_cons_self) (vals_map fun b hb => h b (List.mem_cons_of_mem _ hb))
end
section
variable {prog : Program} {w : World} {A : Around} {E : Value → Shared → Prop} {s : Shared}
end
section
variable {X : Cx}
end
end L2
namespace L2
open PySem PySem.Spec PyProof.Rows
section
variable {prog : Program} {w : World} {A : Around} {E : Value → Shared → Prop} {s : Shared}
end
section
variable {X : Cx}
end
end L2
namespace L2
open PySem PySem.Spec PyProof.Rows
section
variable {X : Cx} {pins : List (Addr × Obj)} {σ : St} {H : Hp} {s : Shared} {a : Addr} {o : Obj} {kvs : List (Key × V)}
end
def mFld (K : W.Frag) (te : TE) (f : Str) : TE := fun σ H Q => te σ H fun x H1 => mR x fun a => ∃ C dx fs v, H1 a = some (.ins C dx fs) ∧ Cls K C ∧ NoAttr K C f ∧ fs.lookup f = some v ∧ Q v H1
def mSFld (K : W.Frag) (ta tv : TE) (f : Str) : TS := fun D σ H => tv σ H fun y H1 => ta σ H1 fun x H2 => mR x fun a => ∃ C dx fs, H2 a = some (.ins C dx fs) ∧ Cls K C ∧ NoAttr K C f ∧ fs.length < 1000 ∧ D.nx σ (upd H2 a (.ins C dx (putF f y fs)))
section
variable {X : Cx} {e o value : Expr} {f : Str} {pos pos' : Pos} {te ta tv : TE} {K : W.Frag}
theorem pe_mfld (he : PE X e te) (hb : attributeBase e f X.env (eval e X.env) = eval e X.env) : PE X (.Attribute e f pos) (mFld X.K te f) := by
  intro pins s σ H Q I h
  refine attr_of hb (thn (he pins s σ H _ I h) fun u s1 ⟨x, H1, I1, rx, q1⟩ => ?_)
  dsimp only at q1
  rw [mR_eq] at q1
  obtain ⟨a, rfl, C, dx, fs, v, ea, c, n, l, q⟩ := q1
  obtain rfl : u = Value.ref a := rx
  exact getattr_ok I1 ea c n l fun u' s2 I2 ru => ⟨v, H1, I2, ru, q⟩
theorem ps_mfld (ha : PE X o ta) (hv : PE X value tv) (hs : swapsWith value (some (.Attribute o f pos')) pos.line X.env = pure false) : PS X (.Assign [.Attribute o f pos'] value pos) (mSFld X.K ta tv f) := by
  intro pins s σ H D I h
  refine plainObj_wpAny_Assign_Attribute (thn (hv pins s σ H _ I h) fun u s1 ⟨y, H1, I1, ry, q⟩ => thn (ha pins s1 σ H1 _ I1 q) fun ov s2 ⟨x, H2, I2, rx, q1⟩ => ?_) hs
  dsimp only at q1
  rw [mR_eq] at q1
  obtain ⟨a, rfl, C, dx, fs, ea, c, n, l, q2⟩ := q1
  obtain rfl : ov = Value.ref a := rx
  exact setattr_ok I2 ea c n l ry fun s3 I3 => ⟨σ, _, I3, q2⟩
end
structure Mth (P : Program) (w : World) (K : W.Frag) (mg : Str → Option Value) (base : Heap) (n : Nat) (C : Addr) (m : Str) (ps : List Str) (sp : Sp) : Prop where
  ex : ∃ f fd, Cls K C ∧ Meth K C m f ∧ FnOk P w K mg base CX0 n f fd ps sp ∧ Binds K fd ps []
structure Mkr (P : Program) (w : World) (K : W.Frag) (mg : Str → Option Value) (base : Heap) (n : Nat) (x : Str) (C : Addr) (ps : List Str) (dvs : List V) (sp : Sp) : Prop where
  ex : ∃ f fd ds, mg x = some (.ref C) ∧ Mk K C f ∧ FnOk P w K mg base CX0 n f fd ps sp ∧ Binds K fd ps ds ∧ Vals dvs ds
def mMeth (C : Addr) (m : Str) (sp : Sp) (ta : TE) (t : TA) : TE := fun σ H Q => ta σ H fun x H1 => mR x fun a => ∃ dx fs, H1 a = some (.ins C dx fs) ∧ fs.lookup m = none ∧ t σ H1 fun vs H2 => sp (.ref a :: vs) H2 Q E0
section
variable {X : Cx} {e o : Expr} {es : List Expr} {m x : Str} {p pos apos : Pos} {ta : TE} {t : TA} {C : Addr} {n : Nat} {ps : List Str} {sp : Sp} {dvs : List V}
theorem pe_mmeth {pl : Sem Bool} (he : PE X o ta) (c : Mth X.prog X.w X.K X.mg X.base n C m ps sp) (hr : Room n X.A) (ha : PA X (e :: es) t) (hs : notStar e = true) (hpl : (backTo pos (starEach es X.env)).any (·.1) = false)
    (ht : eval (.Call (.Attribute o m apos) (e :: es) [] pos) X.env = (do
      let ov ← eval o X.env
      standAt apos.atName
      let (f, first) ← holding [ov] (getMethod ov m pl)
      callWith pos f first (backTo pos (starEach (e :: es) X.env)) (backToKw pos (keywordEach [] X.env)))) :
    PE X (.Call (.Attribute o m apos) (e :: es) [] pos) (mMeth C m sp ta t) := by
  obtain ⟨f, fd, cl, hm, F, hb⟩ := c.ex
  intro pins s σ H Q I h
  refine W.methodCall_KW (pl := pl) (thn (he pins s σ H _ I h) fun u s1 ⟨x, H1, I1, rx, q1⟩ => ?_) ht
  dsimp only at q1
  rw [mR_eq] at q1
  obtain ⟨a, rfl, dx, fs, ea, l, q⟩ := q1
  obtain rfl : u = Value.ref a := rx
  refine getmeth_ok I1 ea cl hm l ?_
  refine W.callWith_K (first := [.ref a]) (h₀ := X.base) I.ok.mod.kin hm.kp (thn (ha pos pins s1 σ H1 _ I1 q) fun us s2 ⟨vs, H2, I2, r, q2⟩ => ⟨I2.kIn, ?_⟩) (star_cons hs) hpl
  exact run_fn (us := .ref a :: us) (vs := .ref a :: vs) (dvs := []) (ds := []) F hr hb .nil pass0 I2 (.cons rfl r) (by rw [List.append_nil]; exact q2)
theorem pe_mmeth0 {pl : Sem Bool} (he : PE X o ta) (c : Mth X.prog X.w X.K X.mg X.base n C m ps sp) (hr : Room n X.A)
    (ht : eval (.Call (.Attribute o m apos) [] [] pos) X.env = (do
      let ov ← eval o X.env
      standAt apos.atName
      let (f, first) ← holding [ov] (getMethod ov m pl)
      callWith pos f first (backTo pos (starEach [] X.env)) (backToKw pos (keywordEach [] X.env)))) :
    PE X (.Call (.Attribute o m apos) [] [] pos) (mMeth C m sp ta tNil) := by
  obtain ⟨f, fd, cl, hm, F, hb⟩ := c.ex
  intro pins s σ H Q I h
  refine W.methodCall_KW (pl := pl) (thn (he pins s σ H _ I h) fun u s1 ⟨x, H1, I1, rx, q1⟩ => ?_) ht
  dsimp only at q1
  rw [mR_eq] at q1
  obtain ⟨a, rfl, dx, fs, ea, l, q⟩ := q1
  obtain rfl : u = Value.ref a := rx
  refine getmeth_ok I1 ea cl hm l ?_
  exact W.callWith_K0 (first := [.ref a]) I1.kIn hm.kp (run_fn (us := [.ref a]) (vs := [.ref a]) (dvs := []) (ds := []) F hr hb .nil pass0 I1 (.cons rfl .nil) (by rw [List.append_nil]; exact q))
end
structure FunD (K : W.Frag) (x qual : Str) (st : Stmt) (dv : Value) (f : Addr) (fd : FuncData) : Prop where
  ex : ∃ (oc : Value) (od : Option Addr) (kV doc pm : Value) (an : Option Addr) (cdv ct : Value) (osl : Array (Option Value)),
    fd = W.fnOf x qual (defArgs st) (defBody st) (defScope st) dv kV doc pm an cdv ct ∧ K.lookup f = some ⟨oc, od, .func fd, osl⟩ ∧ W.codeIn K cdv qual = true
section
variable {P : Program} {w : World} {K : W.Frag} {mg : Str → Option Value} {base : Heap} {x qual : Str} {st : Stmt} {dv : Value} {f C : Addr} {fd : FuncData} {N ps : List Str} {k : Nat} {sp : Sp}
theorem FunD.go (F : FunD K x qual st dv f fd) (S : FnScope N ps (defScope st)) (len : ∀ vs H Q E, sp vs H Q E → vs.length = ps.length)
    (hbody : ∀ (cdv : Value) (A : Around) (outer : List Env) (s : Shared) (H : Hp) (vs : List V) (Q : VK) (E : XK), Room k (A.deeper (envOfC qual (defScope st) s.heap.objs.size f cdv)) → sp vs H Q E →
      ∃ t, XB (cxOf CX0 P w K mg base N qual (defScope st) f cdv A outer s H E).nox (defBody st) t ∧ t { nx := fun _ H' => Q .non H', rt := Q } (start N vs) H) : FnOk P w K mg base CX0 (k + 1) f fd ps sp := by
  obtain ⟨oc, od, kV, doc, pm, an, cdv, ct, osl, rfl, lk, hcd⟩ := F.ex
  refine fn_of lk hcd S len fun A outer s H vs Q E hr hsp => ?_
  obtain ⟨t, h, q⟩ := hbody cdv A outer s H vs Q E hr hsp
  exact ⟨t, h.h.nox, q⟩
structure MethAt (K : W.Frag) (C : Addr) (m qual : Str) (st : Stmt) (ps : List Str) : Prop where
  cl : Cls K C
  ex : ∃ f fd, Fun K m qual st f fd ∧ Meth K C m f ∧ Binds K fd ps []
theorem MethAt.go {m : Str} (D : MethAt K C m qual st ps) (S : FnScope N ps (defScope st)) (len : ∀ vs H Q E, sp vs H Q E → vs.length = ps.length)
    (hbody : ∀ (f : Addr) (cdv : Value) (A : Around) (outer : List Env) (s : Shared) (H : Hp) (vs : List V) (Q : VK) (E : XK), Room k (A.deeper (envOfC qual (defScope st) s.heap.objs.size f cdv)) → sp vs H Q E →
      ∃ t, XB (cxOf CX0 P w K mg base N qual (defScope st) f cdv A outer s H E).nox (defBody st) t ∧ t { nx := fun _ H' => Q .non H', rt := Q } (start N vs) H) : Mth P w K mg base (k + 1) C m ps sp := by
  obtain ⟨f, fd, F, hm, hb⟩ := D.ex
  exact ⟨f, fd, D.cl, hm, F.go S len (hbody f), hb⟩
structure ClsAt (K : W.Frag) (mg : Str → Option Value) (x : Str) (C : Addr) (qual : Str) (st : Stmt) (ps : List Str) (dvs : List (List V)) : Prop where
  ex : ∃ f fd dv, mg x = some (.ref C) ∧ FunD K "__init__" qual st dv f fd ∧ Mk K C f ∧ ∀ d ∈ dvs, ∃ ds, Binds K fd ps ds ∧ Vals d ds
theorem ClsAt.go {dvs : List (List V)} (D : ClsAt K mg x C qual st ps dvs) (S : FnScope N ps (defScope st)) (len : ∀ vs H Q E, sp vs H Q E → vs.length = ps.length)
    (hbody : ∀ (f : Addr) (cdv : Value) (A : Around) (outer : List Env) (s : Shared) (H : Hp) (vs : List V) (Q : VK) (E : XK), Room k (A.deeper (envOfC qual (defScope st) s.heap.objs.size f cdv)) → sp vs H Q E →
      ∃ t, XB (cxOf CX0 P w K mg base N qual (defScope st) f cdv A outer s H E).nox (defBody st) t ∧ t { nx := fun _ H' => Q .non H', rt := Q } (start N vs) H) : ∀ d ∈ dvs, Mkr P w K mg base (k + 1) x C ps d sp := by
  intro d hd
  obtain ⟨f, fd, dv, e, F, M, hb⟩ := D.ex
  obtain ⟨ds, b, v⟩ := hb d hd
  exact ⟨f, fd, ds, e, M, F.go S len (hbody f), b, v⟩
end
namespace R
section
variable {X : Cx} {e o i value : Expr} {es : List Expr} {m x f : Str} {p pos pos' apos : Pos} {te ta tv td ty : TE} {t : TA} {C : Addr} {n : Nat} {ps : List Str} {sp : Sp} {dvs : List V} {K : W.Frag} {tg : Expr}
theorem kfld (he : XE X e te) (hK : X.K = K := by rfl) (hb : attributeBase e f X.env (eval e X.env) = eval e X.env := by rfl) : XE X (.Attribute e f pos) (mFld K te f) := hK ▸ ⟨pe_mfld he.h hb⟩
theorem ksfld (ha : XE X o ta) (hv : XE X value tv) (hK : X.K = K := by rfl) (hs : swapsWith value (some (.Attribute o f pos')) pos.line X.env = pure false := by rfl) : XS X (.Assign [.Attribute o f pos'] value pos) (mSFld K ta tv f) := hK ▸ ⟨ps_mfld ha.h hv.h hs⟩
theorem dix (hu : X.A.units + 1 < cLine) (ho : XE X o td) (hi : XE X i ty) (hs : NoSl i := by exact fun _ _ => rfl) : XE X (.Subscript o i pos) (tDGet td ty) := ⟨pe_dget hu ho.h hi.h hs⟩
theorem meth {pl : Sem Bool} (c : Mth X.prog X.w X.K X.mg X.base n C m ps sp) (hr : Room n X.A) (he : XE X o ta) (ha : XA X (e :: es) t) (hs : notStar e = true := by rfl) (h2 : es.all notStar = true := by rfl)
    (ht : eval (.Call (.Attribute o m apos) (e :: es) [] pos) X.env = (do
      let ov ← eval o X.env
      standAt apos.atName
      let (f, first) ← holding [ov] (getMethod ov m pl)
      callWith pos f first (backTo pos (starEach (e :: es) X.env)) (backToKw pos (keywordEach [] X.env))) := by rfl) : XE X (.Call (.Attribute o m apos) (e :: es) [] pos) (mMeth C m sp ta t) := ⟨pe_mmeth he.h c hr ha.h hs (star_any h2) ht⟩
theorem meth0 {pl : Sem Bool} (c : Mth X.prog X.w X.K X.mg X.base n C m ps sp) (hr : Room n X.A) (he : XE X o ta)
    (ht : eval (.Call (.Attribute o m apos) [] [] pos) X.env = (do
      let ov ← eval o X.env
      standAt apos.atName
      let (f, first) ← holding [ov] (getMethod ov m pl)
      callWith pos f first (backTo pos (starEach [] X.env)) (backToKw pos (keywordEach [] X.env))) := by rfl) : XE X (.Call (.Attribute o m apos) [] [] pos) (mMeth C m sp ta tNil) := ⟨pe_mmeth0 he.h c hr ht⟩
theorem make (c : Mkr X.prog X.w X.K X.mg X.base n x C ps [] sp) (hr : Room (n + 1) X.A) (hg : Gl X x) (ha : XA X (e :: es) t) (hdb : (x == ("__debug__" : Str)) = false := by decide) (hs : notStar e = true := by rfl) (h2 : es.all notStar = true := by rfl) :
    XE X (.Call (.Name x p) (e :: es) [] pos) (tMake C sp [] E0 t) := by
  obtain ⟨f, fd, ds, hm, M, F, hb, hd⟩ := c.ex
  exact ⟨pe_make M F hr hg hm hb hd pass0 ha.h hdb (star_cons hs) (star_any h2)⟩
end
end R
end L2
namespace L2
open PySem PySem.Spec PyProof.Rows
end L2
namespace L2
open PySem PySem.Spec PyProof.Rows
section
variable {M : Model} {A : Around} {E : Value → Shared → Prop} {s : Shared}
def SameD (e : Addr) (oe : Obj) (h' : Heap) : Prop := ∃ oe', h'.get? e = some oe' ∧ oe'.dict = oe.dict
theorem entryD {base : Heap} {env : Env} {outer : List Env} {L e : Addr} {oe : Obj} {vs : Array Value} {head a0 : Value} {hadNext : Bool} {Q : Unit → Shared → Prop}
    (hfr : A.frames = some (env :: outer)) (hl : s.heap.FunFrames base (env :: outer)) (hf : env.frame = some L) (he : s.heap.get? e = some oe) (hkb : base.StaysIn s.heap) (hen : base.get? e = none) (hd : oe.data = .fields vs) (hsz : 1 < vs.size) (h0 : vs[0]? = some a0)
    (h : ∀ h', Heap.NotedW base (env :: outer) e oe.cls a0 (rawInt L) s.heap h' → SameD e oe h' → Q () { s with heap := h' }) :
    wpAny M A (do let a ← frameOf env; let pl ← entryPlaceOf L hadNext; let b ← EntryCells.newEntry head a .none (rawInt L) .none pl; setField (.ref e) 1 b) Q E s := by
  have hene : e ∉ (env :: outer).filterMap (·.frame) := fun hm => by
    obtain ⟨_, o, ho, hnf⟩ := hl.mem hm
    rw [he] at ho; cases ho; exact hnf vs hd
  refine wpAny_bind (wpAny_frameOf_fun hfr hl hf fun k1 s1 => wpAny_bind (wpAny_entryPlaceOf fun pl hpl => ?_))
  unfold EntryCells.newEntry newFields; refine wpAny_bind (wpAny_newObj_type ?_ (hpl.sizeOk5 _ _ _ _ _))
  have e1 : k1.get? e = some oe := (s1.2.1 e hene).trans he
  have b1 : base.StaysIn k1 := fun b o hbo => (s1.2.1 b fun hm => by rw [(hl.mem hm).1] at hbo; cases hbo).trans (hkb b o hbo)
  have e2 := Heap.get?_push_of_some (h := k1) { cls := .type "traceback", dict := none, data := .fields ([head, .ref L, .none, rawInt L, .none] ++ (if pl.isEmpty then List.replicate 6 Value.none else pl)).toArray } e1
  have nTe : k1.objs.size ≠ e := Nat.ne_of_gt (Heap.lt_size e1); have d3 := Obj.data_mapFields hd (·.setIfInBounds 1 (Value.ref k1.objs.size))
  have e3 := Heap.get?_update_self (Obj.mapFields (·.setIfInBounds 1 (Value.ref k1.objs.size))) e2 (Obj.isFreed_of_fields d3)
  have t3 := (Heap.get?_update_other (k1.push { cls := .type "traceback", dict := none, data := .fields ([head, .ref L, .none, rawInt L, .none] ++ (if pl.isEmpty then List.replicate 6 Value.none else pl)).toArray }) (Obj.mapFields (·.setIfInBounds 1 (Value.ref k1.objs.size))) (Ne.symm nTe)).trans (Heap.get?_push_size k1 rfl)
  have kp : ∀ b o, b ≠ e → k1.get? b = some o → ((k1.push { cls := .type "traceback", dict := none, data := .fields ([head, .ref L, .none, rawInt L, .none] ++ (if pl.isEmpty then List.replicate 6 Value.none else pl)).toArray }).update e (Obj.mapFields (·.setIfInBounds 1 (Value.ref k1.objs.size)))).get? b = some o := fun b o hbe hb => by rw [Heap.get?_update_other _ _ (Ne.symm hbe)]; exact Heap.get?_push_of_some _ hb
  have nr : ∀ b o, s.heap.get? b = some o → (∀ vs, o.data ≠ .fields vs) → b ≠ e := fun b o hb hnf q => by rw [q, he] at hb; cases hb; exact hnf vs hd
  refine wpAny_setField e2 hd hsz (h _ ⟨fun b o hbo => kp b o (fun q => by rw [q, hen] at hbo; cases hbo) (b1 b o hbo), hl.of_keeps fun b o hb hnf => ?_, ?_, fun b o hb hnf => ?_⟩ ⟨_, e3, ?_⟩)
  · obtain ⟨sl, hs⟩ := s1.2.2 b o hb; exact ⟨_, kp b _ (nr b o hb hnf) hs, rfl⟩
  · exact ⟨_, _, k1.objs.size, _, _, e3, ⟨Obj.cls_mapFields _ _, by rw [Array.getElem?_setIfInBounds_ne (by decide)]; exact h0⟩, d3, by simp [hsz], b1.fresh, nTe, t3, rfl, by first | (simp; done) | (rcases hpl with rfl | ⟨_, _, _, _, _, _, _, rfl⟩ <;> simp)⟩
  · obtain ⟨sl, hs⟩ := s1.2.2 b o hb; exact ⟨sl, kp b _ (nr b o hb hnf) hs⟩
  · obtain ⟨oc, od, odt, osl⟩ := oe; cases hd; rfl
theorem noteD {base : Heap} {env : Env} {outer : List Env} {L e : Addr} {oe : Obj} {cls a0 : Value} {Q : Unit → Shared → Prop} (hfr : A.frames = some (env :: outer)) (hl : s.heap.FunFrames base (env :: outer)) (hf : env.frame = some L) (he : s.heap.get? e = some oe) (ht : s.heap.TracedW base e cls a0) (hkb : base.StaysIn s.heap) (hen : base.get? e = none)
    (h : ∀ h', Heap.NotedW base (env :: outer) e cls a0 (rawInt L) s.heap h' → SameD e oe h' → Q () { s with heap := h' }) : wpAny M A (noteFrame (.ref e) env) Q E s := by
  obtain ⟨oe', vs, T, oT, ts, he', ⟨hcls, h0⟩, hd, h1, hnT, hTe, hT, hdT, h3⟩ := ht
  rw [he] at he'; cases he'; subst hcls
  unfold noteFrame; simp only [hf]; refine wpAny_bind (wpAny_field he hd h1 ?_); rw [if_pos (show (Value.ref T != Value.none) = true from by simp)]
  refine wpAny_bind (wpAny_field hT hdT h3 ?_); rw [if_neg (show ¬ ((Value.none == rawInt L) = true) from by simp [rawInt])]; refine wpAny_bind (wpAny_setField hT hdT (Array.getElem?_eq_some_iff.mp h3).1 ?_)
  have ot : ∀ b, b ≠ T → (s.heap.update T (Obj.mapFields (·.setIfInBounds 3 Value.none))).get? b = s.heap.get? b := fun b hb => Heap.get?_update_other _ _ (Ne.symm hb)
  have nr : ∀ b o, s.heap.get? b = some o → (∀ vs, o.data ≠ .fields vs) → b ≠ T := fun b o hb hnf q => by rw [q, hT] at hb; cases hb; exact hnf ts hdT
  refine entryD hfr (hl.of_keeps fun b o hb hnf => ⟨o, (ot b (nr b o hb hnf)).trans hb, rfl⟩) hf ((ot e (Ne.symm hTe)).trans he) (fun b o hbo => (ot b fun q => by rw [q, hnT] at hbo; cases hbo).trans (hkb b o hbo)) hen hd (Array.getElem?_eq_some_iff.mp h1).1 h0
    fun h' ⟨x1, x2, x3, x4⟩ hD => h h' ⟨x1, x2, x3, fun b o hb hnf => x4 b o ((ot b (nr b o hb hnf)).trans hb) hnf⟩ hD
theorem landD {base : Heap} {l : List Env} {e : Addr} {oe : Obj} {cls a0 fl : Value} {Q : Unit → Shared → Prop} (hkb : base.StaysIn s.heap) (hl : s.heap.FunFrames base l) (he : s.heap.get? e = some oe) (ht : s.heap.TracedAtW base e cls a0 fl)
    (h : ∀ h', base.StaysIn h' → h'.FunFrames base l → h'.TracedW base e cls a0 → (∀ b o, s.heap.get? b = some o → (∀ vs, o.data ≠ .fields vs) → h'.get? b = some o) → h'.get? e = some oe → Q () { s with heap := h' }) : wpAny M A (setFlight (.ref e) none) Q E s := by
  obtain ⟨oe', vs, T, oT, ts, he', hcls, hd, h1, hnT, hTe, hT, hdT, h3⟩ := ht
  rw [he] at he'; cases he'
  have z3 : 3 < ts.size := (Array.getElem?_eq_some_iff.mp h3).1
  have ot : ∀ b, b ≠ T → (s.heap.update T (Obj.mapFields (·.setIfInBounds 3 ((none : Option Addr).elim Value.none fun f => rawInt f)))).get? b = s.heap.get? b := fun b hb => Heap.get?_update_other _ _ (Ne.symm hb)
  have nr : ∀ b o, s.heap.get? b = some o → (∀ vs, o.data ≠ .fields vs) → b ≠ T := fun b o hb hnf q => by rw [q, hT] at hb; cases hb; exact hnf ts hdT
  unfold setFlight; refine wpAny_bind (wpAny_field he hd h1 ?_); rw [if_pos (show (Value.ref T != Value.none) = true from by simp)]
  refine wpAny_setField hT hdT z3 (h _ (fun b o hbo => (ot b fun q => by rw [q, hnT] at hbo; cases hbo).trans (hkb b o hbo)) (hl.of_keeps fun b o hb hnf => ⟨o, (ot b (nr b o hb hnf)).trans hb, rfl⟩) ?_ (fun b o hb hnf => (ot b (nr b o hb hnf)).trans hb) ((ot e (Ne.symm hTe)).trans he))
  exact ⟨oe, vs, T, _, _, (ot e (Ne.symm hTe)).trans he, hcls, hd, h1, hnT, hTe, Heap.get?_update_self _ hT (Obj.isFreed_of_fields (Obj.data_mapFields hdT _)), Obj.data_mapFields hdT _, by simp [z3]⟩
theorem leaveD {base : Heap} {env : Env} {outer : List Env} {L e : Addr} {oe : Obj} {vs : Array Value} {a0 : Value} {Q : Unit → Shared → Prop} (hfr : A.frames = some (env :: outer)) (hl : s.heap.FunFrames base (env :: outer)) (hf : env.frame = some L) (he : s.heap.get? e = some oe) (hkb : base.StaysIn s.heap) (hen : base.get? e = none) (hd : oe.data = .fields vs) (h1 : vs[1]? = some .none) (h0 : vs[0]? = some a0)
    (h : ∀ h', Heap.LeftW base (env :: outer) e oe.cls a0 s.heap h' → SameD e oe h' → Q () { s with heap := h' }) : wpAny M A (leaving env (.ref e)) Q E s := by
  unfold leaving noteFrame; simp only [hf]; refine wpAny_bind (wpAny_bind (wpAny_field he hd h1 ?_)); rw [if_neg (by decide)]
  refine entryD hfr hl hf he hkb hen hd (Array.getElem?_eq_some_iff.mp h1).1 h0 fun k ⟨x1, x2, x3, x4⟩ ⟨oe', y1, y2⟩ => ?_
  exact landD (s := { s with heap := k }) x1 x2 y1 x3 fun h' z1 z2 z3 z4 z5 => h h' ⟨z1, z2, z3, fun b o hb hnf => let ⟨sl, q⟩ := x4 b o hb hnf; ⟨sl, z4 b _ q hnf⟩⟩ ⟨oe', z5, y2⟩
end
section
variable {P : Program} {w : World} {H H0 : Hp} {h h1 h2 : Heap} {a : Addr} {o : HO}
theorem ObjOk.has (x : ObjOk P w H h a o) : ∃ ob, h.get? a = some ob := by
  cases o with
  | lst xs => obtain ⟨_, _, _, _, e⟩ := x; exact ⟨_, e⟩
  | tup xs => obtain ⟨_, _, _, ob, e, _⟩ := x; exact ⟨_, e⟩
  | dK kvs => obtain ⟨_, _, _, _, ob, _, _, e, _⟩ := x; exact ⟨_, e⟩
  | dT kvs => obtain ⟨_, _, _, _, ob, _, _, e, _⟩ := x; exact ⟨_, e⟩
  | set S n => obtain ⟨ob, _, _, _, e, _⟩ := x; exact ⟨_, e⟩
  | ins C dx fs => obtain ⟨_, _, _, e, _⟩ := x; exact ⟨_, e⟩
  | own y => exact x
  | xd fs => obtain ⟨_, ⟨ob, _, _, e, _⟩, _⟩ := x; exact ⟨_, e⟩
  | rng lo hi => obtain ⟨_, _, _, e⟩ := x; exact ⟨_, e⟩
  | frz ob u => exact ⟨_, x.1⟩
  | tbl ps => exact ⟨_, x⟩
  | met f y => exact ⟨_, x⟩
  | ext φ => exact x.2.1
theorem HOk.none_of (x : HOk P w H h) (e : h.get? a = none) : H a = none := by
  cases q : H a with
  | none => rfl
  | some u =>
    obtain ⟨ob, z⟩ := (x a u q).has
    rw [e] at z
    cases z
theorem hid_un {fs hid : List Addr} {s0 : Heap} (un : Un fs [] H0 H s0 h1) (hok : HOk P w H h1) (hh : ∀ b ∈ hid, b ∈ fs ∨ (s0.get? b = none ∧ H b = none)) (hsub : ∀ b ∈ fs, b ∈ hid) (hfr : ∀ b ∈ fs, H0 b = none ∧ ∃ o, s0.get? b = some o ∧ ∀ vs, o.data ≠ .fields vs)
    (hB : (W.hideAll h1 hid).StaysIn h2) (hS : ∀ b o, h1.get? b = some o → (∀ vs, o.data ≠ .fields vs) → ∃ sl, h2.get? b = some { o with slots := sl }) : Un fs [] H0 H s0 h2 ∧ HOk P w H h2 := by
  have kp : ∀ b ob, h1.get? b = some ob → b ∉ hid → h2.get? b = some ob := fun b ob q n => hB b ob (W.hideAll_get _ q n)
  have nh : ∀ b ob, s0.get? b = some ob → b ∉ fs → b ∉ hid := fun b ob q n z => by
    rcases hh b z with y | y
    · exact n y
    · rw [y.1] at q; cases q
  have sl : ∀ b ob, s0.get? b = some ob → b ∈ fs → ∃ sl, h2.get? b = some { ob with slots := sl } := fun b ob q hb => by
    obtain ⟨h0, o', q', nf⟩ := hfr b hb
    rw [q] at q'
    cases q'
    obtain ⟨sl, e⟩ := un.slot b ob q h0 hb (by simp)
    obtain ⟨sl2, e2⟩ := hS b { ob with slots := sl } e nf
    exact ⟨sl2, e2⟩
  refine ⟨⟨fun b ob q n hb hx => kp b ob (un.keep b ob q n hb hx) (nh b ob q hb), fun b ob q n hb hx => sl b ob q hb, un.free, fun b ob q hx => ?_, un.tups, un.frzs, un.tbls⟩, fun b u e => ?_⟩
  · by_cases hb : b ∈ fs
    · obtain ⟨_, z⟩ := sl b ob q hb
      exact ⟨_, z⟩
    · obtain ⟨o', z⟩ := un.there b ob q hx
      exact ⟨o', kp b o' z (nh b ob q hb)⟩
  · have nt : ∀ c v, H c = some v → c ∉ hid := fun c v hc z => by
      rcases hh c z with y | y
      · obtain ⟨h0, o', q', _⟩ := hfr c y
        rw [un.free c o' q' h0 (by simp)] at hc
        cases hc
      · rw [y.2] at hc; cases hc
    refine (hok b u e).stay (fun c v hc q => kp c v q ?_) (fun _ q => q) fun _ _ q => q
    rcases hc with z | z
    · rw [z]; exact nt b u e
    · exact nt c _ z
theorem hid_rec {fs hid : List Addr} {s0 : Heap} {T : Addr} {oT : Obj} {ts : Array Value} (un : Un fs [] H0 H s0 h1) (hok : HOk P w H h1) (hh : ∀ b ∈ hid, b ∈ fs ∨ (s0.get? b = none ∧ H b = none)) (hfr : ∀ b ∈ fs, H0 b = none ∧ ∃ o, s0.get? b = some o ∧ ∀ vs, o.data ≠ .fields vs)
    (hS : ∀ b o, h1.get? b = some o → (∀ vs, o.data ≠ .fields vs) → ∃ sl, h2.get? b = some { o with slots := sl }) (hn : (W.hideAll h1 hid).get? T = none) (hT : h2.get? T = some oT) (hd : oT.data = .fields ts) : s0.get? T = none ∧ H T = none := by
  by_cases hm : T ∈ hid
  · rcases hh T hm with y | y
    · obtain ⟨h0, o', q', nf⟩ := hfr T y
      obtain ⟨sl, e⟩ := un.slot T o' q' h0 y (by simp)
      obtain ⟨sl2, e2⟩ := hS T _ e nf
      rw [hT] at e2
      cases e2
      exact absurd hd (nf ts)
    · exact y
  · have z : h1.get? T = none := by
      cases q : h1.get? T with
      | none => rfl
      | some ob =>
        rw [W.hideAll_get _ q hm] at hn
        cases hn
    refine ⟨?_, hok.none_of z⟩
    cases q : s0.get? T with
    | none => rfl
    | some ob =>
      obtain ⟨o', e⟩ := un.there T ob q (by simp)
      rw [z] at e
      cases e
end
def Trc (h : Heap) (a : Addr) (cls fl : Value) (T : Addr) : Prop :=
  ∃ oe vs a0 oT ts, h.get? a = some oe ∧ oe.cls = cls ∧ vs[0]? = some a0 ∧ oe.data = .fields vs ∧ vs[1]? = some (.ref T) ∧ T ≠ a ∧ h.get? T = some oT ∧ oT.data = .fields ts ∧ ts[3]? = some fl
def DOf (h : Heap) (a : Addr) (od : Option Addr) : Prop := ∀ dx, od = some dx → ∃ oe, h.get? a = some oe ∧ oe.dict = some dx
structure Fly (P : Program) (w : World) (l : List Env) (H0 : Hp) (s0 : Shared) (H : Hp) (a : Addr) (cls : Value) (od : Option Addr) (fl : Value) (s : Shared) : Prop where
  na : s0.heap.get? a = none
  os : s.os = s0.os
  bare : AllBare s.gens
  un : Un (frs l) [] H0 H s0.heap s.heap
  hok : HOk P w H s.heap
  ha : H a = none
  tr : ∃ T, Trc s.heap a cls fl T ∧ s0.heap.get? T = none ∧ H T = none
  dd : DOf s.heap a od
def CXf (P : Program) (w : World) : CXT := fun outer H s E e s' => ∃ a cls od H', e = Value.ref a ∧ Fly P w outer H s H' a cls od .none s' ∧ E cls od H'
section
variable {X : Cx} {pins : List (Addr × Obj)} {σ : St} {H H0 : Hp} {s s0 : Shared} {a : Addr} {cls fl : Value} {od : Option Addr} {M : Model} {A : Around} {E : Value → Shared → Prop} {Q : Unit → Shared → Prop}
theorem frs_mem {l : List Env} {env : Env} {b : Addr} (he : env ∈ l) (hb : env.frame = some b) : b ∈ frs l := List.mem_filterMap.mpr ⟨env, he, hb⟩
theorem Inv.frms (I : Inv X pins σ H s) : ∀ b ∈ frs X.stack, H b = none ∧ ∃ o, s.heap.get? b = some o ∧ ∀ vs, o.data ≠ .fields vs := fun b hb =>
  ⟨I.stkFree b hb, (I.stack.mem hb).2⟩
theorem Fly.inv (F : Fly X.prog X.w X.stack H0 s0 H a cls od fl s) (I0 : Inv X pins σ H0 s0) : Inv X pins σ H s := I0.call' F.os F.un F.hok F.bare (fun _ z => nomatch z)
theorem fly_note (I0 : Inv X pins σ H0 s0) (F : Fly X.prog X.w X.stack H0 s0 H a cls od .none s) (hA : A.frames = some X.stack) (hst : X.stack = X.env :: X.outer) (hf : X.env.frame = some X.env.locals)
    (k : ∀ s', Fly X.prog X.w X.stack H0 s0 H a cls od (rawInt X.env.locals) s' → Q () s') : wpAny M A (noteFrame (.ref a) X.env) Q E s := by
  have I := F.inv I0
  obtain ⟨T, ⟨oe, vs, a0, oT, ts, e1, e2, e3, e4, e5, e6, e7, e8, e9⟩, nT, hT⟩ := F.tr
  have hin : ∀ env ∈ X.stack, ∀ b, env.frame = some b → b ∈ frs X.stack ++ [a, T] := fun env he b hb => List.mem_append_left _ (frs_mem he hb)
  have hh : ∀ b ∈ frs X.stack ++ [a, T], b ∈ frs X.stack ∨ (s0.heap.get? b = none ∧ H b = none) := fun b hb => by
    rcases List.mem_append.mp hb with z | z
    · exact .inl z
    · rcases List.mem_cons.mp z with y | y
      · rw [y]; exact .inr ⟨F.na, F.ha⟩
      · rw [List.mem_singleton.mp y]; exact .inr ⟨nT, hT⟩
  have hm1 : a ∈ frs X.stack ++ [a, T] := List.mem_append_right _ List.mem_cons_self
  have hm2 : T ∈ frs X.stack ++ [a, T] := List.mem_append_right _ (List.mem_cons_of_mem _ List.mem_cons_self)
  have ff := W.funFrames_hide I.stack hin
  have go := noteD (M := M) (A := A) (E := E) (Q := Q) (s := s) (base := W.hideAll s.heap (frs X.stack ++ [a, T])) (env := X.env) (outer := X.outer) (L := X.env.locals) (e := a) (cls := cls) (a0 := a0) (by rw [hA, hst]) (by rw [← hst]; exact ff) hf e1
    ⟨oe, vs, T, oT, ts, e1, ⟨e2, e3⟩, e4, e5, W.hideAll_none _ hm2, e6, e7, e8, e9⟩ (fun b o q => W.of_hideAll _ q) (W.hideAll_none _ hm1) ?_
  · exact go
  · rintro h' ⟨k1, k2, ⟨oe', vs', T', oT', ts', q1, ⟨q2, q3⟩, q4, q5, q6, q7, q8, q9, q10⟩, k4⟩ ⟨od', d1, d2⟩
    obtain ⟨u2, ok2⟩ := hid_un F.un F.hok hh (fun b hb => List.mem_append_left _ hb) I0.frms k1 k4
    obtain ⟨n1, n2⟩ := hid_rec F.un F.hok hh I0.frms k4 q6 q8 q9
    refine k _ ⟨F.na, F.os, F.bare, u2, ok2, F.ha, ⟨T', ⟨oe', vs', a0, oT', ts', q1, q2, q3, q4, q5, q7, q8, q9, q10⟩, n1, n2⟩, fun dx hdx => ?_⟩
    obtain ⟨o1, z1, z2⟩ := F.dd dx hdx
    rw [e1] at z1
    cases z1
    exact ⟨od', d1, d2.trans z2⟩
theorem fly_land (I0 : Inv X pins σ H0 s0) (F : Fly X.prog X.w X.stack H0 s0 H a cls od fl s) (k : ∀ s', Fly X.prog X.w X.stack H0 s0 H a cls od .none s' → Q () s') : wpAny M A (setFlight (.ref a) none) Q E s := by
  have I := F.inv I0
  obtain ⟨T, ⟨oe, vs, a0, oT, ts, e1, e2, e3, e4, e5, e6, e7, e8, e9⟩, nT, hT⟩ := F.tr
  have hin : ∀ env ∈ X.stack, ∀ b, env.frame = some b → b ∈ frs X.stack ++ [a, T] := fun env he b hb => List.mem_append_left _ (frs_mem he hb)
  have hh : ∀ b ∈ frs X.stack ++ [a, T], b ∈ frs X.stack ∨ (s0.heap.get? b = none ∧ H b = none) := fun b hb => by
    rcases List.mem_append.mp hb with z | z
    · exact .inl z
    · rcases List.mem_cons.mp z with y | y
      · rw [y]; exact .inr ⟨F.na, F.ha⟩
      · rw [List.mem_singleton.mp y]; exact .inr ⟨nT, hT⟩
  have hm2 : T ∈ frs X.stack ++ [a, T] := List.mem_append_right _ (List.mem_cons_of_mem _ List.mem_cons_self)
  refine landD (base := W.hideAll s.heap (frs X.stack ++ [a, T])) (l := X.stack) (cls := cls) (a0 := a0) (fl := fl) (fun b o q => W.of_hideAll _ q) (W.funFrames_hide I.stack hin) e1 ⟨oe, vs, T, oT, ts, e1, ⟨e2, e3⟩, e4, e5, W.hideAll_none _ hm2, e6, e7, e8, e9⟩ ?_
  rintro h' k1 k2 ⟨oe', vs', T', oT', ts', q1, ⟨q2, q3⟩, q4, q5, q6, q7, q8, q9, q10⟩ k4 kE
  have k5 : ∀ b o, s.heap.get? b = some o → (∀ vs, o.data ≠ .fields vs) → ∃ sl, h'.get? b = some { o with slots := sl } := fun b o q n => ⟨o.slots, k4 b o q n⟩
  obtain ⟨u2, ok2⟩ := hid_un F.un F.hok hh (fun b hb => List.mem_append_left _ hb) I0.frms k1 k5
  obtain ⟨n1, n2⟩ := hid_rec F.un F.hok hh I0.frms k5 q6 q8 q9
  refine k _ ⟨F.na, F.os, F.bare, u2, ok2, F.ha, ⟨T', ⟨oe', vs', a0, oT', ts', q1, q2, q3, q4, q5, q7, q8, q9, q10⟩, n1, n2⟩, fun dx hdx => ?_⟩
  obtain ⟨o1, z1, z2⟩ := F.dd dx hdx
  rw [e1] at z1
  cases z1
  exact ⟨oe, kE, z2⟩
theorem fly_made {P : Program} {w : World} {K : W.Frag} {mg : Str → Option Value} {base : Heap} {N : List Str} {qual : Str} {scope : Scope} {f : Addr} {cd : Value} {A : Around} {outer : List Env} {s s1 : Shared} {H H1 : Hp} {E : XK} {e : Addr} {h' : Heap} {args : List Value}
    (I : Inv (cxOf (CXf P w) P w K mg base N qual scope f cd A outer s H E) pins σ H1 s1) (hf : (envOfC qual scope s.heap.objs.size f cd).frame = some (envOfC qual scope s.heap.objs.size f cd).locals) (hx : Heap.MadeExcOf s1.heap h' e cls args) (q : E cls none H1) :
    (cxOf (CXf P w) P w K mg base N qual scope f cd A outer s H E).xe (.ref e) { s1 with heap := h' } := by
  obtain ⟨t, he, htn, ht⟩ := hx.there
  have und : Un (frs outer) [] H H1 s.heap s1.heap := I.base
  have fr0 : ∀ b ∈ frs outer, H b = none ∧ ∃ o, s.heap.get? b = some o ∧ ∀ vs, o.data ≠ .fields vs := fun b hb => ⟨I.ok.frf b hb, (I.ok.funs.mem hb).2⟩
  have st : (cxOf (CXf P w) P w K mg base N qual scope f cd A outer s H E).stack = envOfC qual scope s.heap.objs.size f cd :: outer := rfl
  have nL : s.heap.get? (envOfC qual scope s.heap.objs.size f cd).locals = none := Heap.get?_none_of_le I.ok.above
  have ne0 : s.heap.get? e = none := by
    cases z : s.heap.get? e with
    | none => rfl
    | some ob =>
      obtain ⟨o', y⟩ := und.there e ob z (by simp)
      rw [hx.new] at y
      cases y
  have he1 : H1 e = none := I.hok.none_of hx.new
  have un1 : Un (frs outer) [] H H1 s.heap h' := ⟨fun b ob q n hb hx' => hx.keeps b _ (und.keep b ob q n hb hx'), fun b ob q n hb hx' => let ⟨sl, y⟩ := und.slot b ob q n hb hx'; ⟨sl, hx.keeps b _ y⟩, und.free, fun b ob q hx' => let ⟨o', y⟩ := und.there b ob q hx'; ⟨o', hx.keeps b _ y⟩, und.tups, und.frzs, und.tbls⟩
  have ok1 : HOk P w H1 h' := HOk.kept (show HOk P w H1 s1.heap from I.hok) hx.keeps
  have hin : ∀ env ∈ (envOfC qual scope s.heap.objs.size f cd :: outer), ∀ b, env.frame = some b → b ∈ frs (envOfC qual scope s.heap.objs.size f cd :: outer) ++ [e] := fun env he b hb => List.mem_append_left _ (frs_mem he hb)
  have hh : ∀ b ∈ frs (envOfC qual scope s.heap.objs.size f cd :: outer) ++ [e], b ∈ frs outer ∨ (s.heap.get? b = none ∧ H1 b = none) := fun b hb => by
    rcases List.mem_append.mp hb with z | z
    · unfold frs at z
      rw [List.filterMap_cons, hf] at z
      rcases List.mem_cons.mp z with y | y
      · rw [y]; exact .inr ⟨nL, I.free⟩
      · exact .inl y
    · rw [List.mem_singleton.mp z]; exact .inr ⟨ne0, he1⟩
  have hsub : ∀ b ∈ frs outer, b ∈ frs (envOfC qual scope s.heap.objs.size f cd :: outer) ++ [e] := fun b hb => by
    refine List.mem_append_left _ ?_
    unfold frs
    rw [List.filterMap_cons, hf]
    exact List.mem_cons_of_mem _ hb
  have hm1 : e ∈ frs (envOfC qual scope s.heap.objs.size f cd :: outer) ++ [e] := List.mem_append_right _ List.mem_cons_self
  have ff0 : h'.FunFrames base (envOfC qual scope s.heap.objs.size f cd :: outer) := Heap.FunFrames.of_keeps (fun b o q _ => ⟨o, hx.keeps b o q, rfl⟩) (show s1.heap.FunFrames base (envOfC qual scope s.heap.objs.size f cd :: outer) from I.stack)
  have go := wpAny_leaving_firstW (M := model P w) (A := A.deeper (envOfC qual scope s.heap.objs.size f cd)) (E := fun e' s'' => CXf P w outer H s E e' s'') (Q := fun _ s'' => CXf P w outer H s E (.ref e) s'') (s := { s1 with heap := h' }) (base := W.hideAll h' (frs (envOfC qual scope s.heap.objs.size f cd :: outer) ++ [e])) (env := envOfC qual scope s.heap.objs.size f cd) (outer := outer) (e := e) (a0 := .ref t)
    I.ok.frames (W.funFrames_hide ff0 hin) hf he (fun b o q => W.of_hideAll _ q) (W.hideAll_none _ hm1) rfl rfl rfl ?_
  · exact go
  · rintro h2 ⟨k1, k2, ⟨oe', vs', T', oT', ts', q1, ⟨q2, q3⟩, q4, q5, q6, q7, q8, q9, q10⟩, k4⟩
    obtain ⟨u2, ok2⟩ := hid_un un1 ok1 hh hsub fr0 k1 k4
    obtain ⟨n1, n2⟩ := hid_rec un1 ok1 hh fr0 k4 q6 q8 q9
    exact ⟨e, cls, none, H1, rfl, ⟨ne0, I.os, I.bare, u2, ok2, he1, ⟨T', ⟨oe', vs', _, oT', ts', q1, q2, q3, q4, q5, q7, q8, q9, q10⟩, n1, n2⟩, fun dx h => (by cases h)⟩, q⟩
end
end L2
namespace L2
open PySem PySem.Spec PyProof.Rows
abbrev mroVE : List Value := [.type "ValueError", .type "Exception", .type "BaseException", .type "object"]
structure XCls (K : W.Frag) (mg : Str → Option Value) (x : Str) (C : Addr) : Prop where
  at_ : mg x = some (.ref C)
  ok : W.excIn K C mroVE "ValueError.__new__" = true
theorem XCls.obj {K : W.Frag} {mg : Str → Option Value} {x : Str} {C : Addr} {h : Heap} (c : XCls K mg x C) (X : K.In h) :
    ∃ bm N nm q bs hdct sn sub ab col dd k0 k1 k2 k3 k5 mN, h.get? C = some (excClassObj nm q C N bs bm hdct sn sub ab col dd k0 k1 k2 k3 k5 "ValueError.__new__") ∧ h.Ns N mN ∧ mN "__init__" = none ∧ OwnTail h mroVE bm := by
  have q := c.ok
  unfold W.excIn at q
  split at q
  · rename_i dd cd sl ho
    split at q
    · rename_i C' bm k0 k1 k2 k3 n k5 hm hs
      simp only [Bool.and_eq_true, beq_iff_eq, Bool.not_eq_true'] at q
      obtain ⟨⟨⟨⟨⟨e1, e2⟩, hdel⟩, ht⟩, hok⟩, hni⟩ := q
      subst e1 e2
      obtain ⟨nm, bs, mro, ns, qn, hd, sn, sub, ab, col, del⟩ := cd
      dsimp only at hm hdel hok hni
      subst hm hdel
      have hsl : sl = #[k0, k1, k2, k3, some (.builtin "ValueError.__new__"), k5] := by
        obtain ⟨l⟩ := sl
        simp only at hs
        rw [hs]
      subst hsl
      exact ⟨bm, ns, nm, qn, bs, hd, sn, sub, ab, col, dd, k0, k1, k2, k3, k5, _, X _ _ ho, .of_isNs (W.isNs_of_in X hok), W.nsMap_none_of_in X hok hni, W.tail_of_in X ht⟩
    · cases q
  · cases q
def tRaise (C : Addr) (E : XK) (t : TA) : TS := fun _ σ H => t σ H fun vs H1 => vs.length ≤ sizeLine ∧ E (.ref C) none H1
def Leaves (X : Cx) (E : XK) : Prop := ∀ (pins : List (Addr × Obj)) (σ : St) (H : Hp) (s : Shared) (h' : Heap) (e : Addr) (cls : Value) (args : List Value), Inv X pins σ H s → Heap.MadeExcOf s.heap h' e cls args → E cls none H → X.xe (.ref e) { s with heap := h' }
theorem leaves_cx {P : Program} {w : World} {K : W.Frag} {mg : Str → Option Value} {base : Heap} {N : List Str} {qual : Str} {scope : Scope} {f : Addr} {cd : Value} {A : Around} {outer : List Env} {s : Shared} {H : Hp} {E : XK}
    (hf : (envOfC qual scope s.heap.objs.size f cd).frame = some (envOfC qual scope s.heap.objs.size f cd).locals := by rfl) : Leaves (cxOf (CXf P w) P w K mg base N qual scope f cd A outer s H E) E :=
  fun pins σ H1 s1 h' e cls args I hx q => fly_made I hf hx q
section
variable {X : Cx} {x : Str} {C : Addr} {E : XK} {e : Expr} {es : List Expr} {t : TA} {np cpos pos : Pos}
theorem ps_raise (c : XCls X.K X.mg x C) (hl : Leaves X E) (hc : X.calm = true) (hg : Gl X x) (ha : PA X (e :: es) t) (hs : notStar e = true) (h2 : es.all notStar = true) (hdb : (x == ("__debug__" : Str)) = false) :
    PS X (.Raise (some (.Call (.Name x np) (e :: es) [] cpos)) none pos) (tRaise C E t) := by
  intro pins s σ H D I h
  obtain ⟨tl, N, nm, q, bs, hdct, sn, sub, ab, col, dd, k0, k1, k2, k3, k5, mN, hC, hN, hni, T⟩ := c.obj I.mod.kin
  have he : starEach (e :: es) X.env = (false, eval e X.env) :: starEach es X.env := star_cons hs
  refine wpAny_Raise_call_subT (C := C) (nm := nm) (q := q) (N := N) (bs := bs) (bm := tl) (hdct := hdct) (sn := sn) (sub := sub) (ab := ab) (col := col) (dd := dd) (k0 := k0) (k1 := k1) (k2 := k2) (k3 := k3) (k5 := k5)
    PySem.F.excBase_ValueError (mN := mN) (T.hasType PySem.F.excBase_ValueError.hasBase) (I.ok.hd hc) (by rw [he]; show (false || (backTo cpos (starEach es X.env)).any (·.1)) = false; rw [star_any h2]; rfl) hni (ld_glob I hg c.at_ ⟨rfl, ?_⟩ hdb)
  have hp := ha cpos pins s σ H _ I h
  rw [he] at hp ⊢
  refine Calls.evalArgs_plain (thn hp fun us s1 ⟨vs, H1, I1, r, z, q⟩ => ⟨rfl, by rw [← r.length]; exact z, I1.bk _ _ hC, hN.keeps I1.bk, T.keeps I1.bk, fun h' e' hm => hl pins σ H1 s1 h' e' _ _ I1 hm q⟩)
end
structure CalleeX (P : Program) (w : World) (K : W.Frag) (mg : Str → Option Value) (base : Heap) (n : Nat) (x : Str) (ps : List Str) (sp : Sp) : Prop where
  ex : ∃ f fd, mg x = some (.ref f) ∧ W.keepIn K (.ref f) = true ∧ FnOk P w K mg base (CXf P w) n f fd ps sp ∧ Binds K fd ps []
theorem DefAt.goX {P : Program} {w : World} {K : W.Frag} {mg : Str → Option Value} {base : Heap} {x : Str} {st : Stmt} {N ps : List Str} {k : Nat} {sp : Sp} (D : DefAt K mg x st ps) (S : FnScope N ps (defScope st)) (len : ∀ vs H Q E, sp vs H Q E → vs.length = ps.length)
    (hbody : ∀ (f : Addr) (cdv : Value) (A : Around) (outer : List Env) (s : Shared) (H : Hp) (vs : List V) (Q : VK) (E : XK), Room k (A.deeper (envOfC x (defScope st) s.heap.objs.size f cdv)) → sp vs H Q E →
      ∃ t, XB (cxOf (CXf P w) P w K mg base N x (defScope st) f cdv A outer s H E) (defBody st) t ∧ t { nx := fun _ H' => Q .non H', rt := Q } (start N vs) H) : CalleeX P w K mg base (k + 1) x ps sp := by
  obtain ⟨f, fd, F, hm, hb⟩ := D.ex
  refine ⟨f, fd, hm, F.kp, ?_, hb⟩
  obtain ⟨oc, od, kV, doc, pm, an, cdv, ct, osl, rfl, lk, hcd⟩ := F.ex
  refine fn_of lk hcd S len fun A outer s H vs Q E hr hsp => ?_
  obtain ⟨t, h, q⟩ := hbody f cdv A outer s H vs Q E hr hsp
  exact ⟨t, h.h, q⟩
def Takes (X : Cx) (Ex : St → Value → Option Addr → Hp → Prop) : Prop := ∀ (pins : List (Addr × Obj)) (σ : St) (H : Hp) (s : Shared) (e : Value) (s' : Shared), Inv X pins σ H s → CXf X.prog X.w X.stack H s (fun cls od H' => Ex σ cls od H') e s' → X.xe e s'
def tFnX (sp : Sp) (Ex : St → Value → Option Addr → Hp → Prop) (t : TA) : TE := fun σ H Q => t σ H fun vs H1 => sp vs H1 Q (fun cls od H' => Ex σ cls od H')
section
variable {X : Cx} {x : Str} {n : Nat} {ps : List Str} {sp : Sp} {Ex : St → Value → Option Addr → Hp → Prop} {e : Expr} {es : List Expr} {t : TA} {p pos : Pos}
theorem pe_fnX (c : CalleeX X.prog X.w X.K X.mg X.base n x ps sp) (hr : Room n X.A) (hg : Gl X x) (hx : Takes X Ex) (ha : PA X (e :: es) t) (hs : notStar e = true) (h2 : es.all notStar = true) (hdb : (x == ("__debug__" : Str)) = false) :
    PE X (.Call (.Name x p) (e :: es) [] pos) (tFnX sp Ex t) := by
  obtain ⟨f, fd, hm, hk, F, hb⟩ := c.ex
  intro pins s σ H Q I h
  refine wpAny_Call_Name_kw (ld_glob I hg hm ?_ hdb)
  refine W.callWith_K (h₀ := X.base) I.ok.mod.kin hk (thn (ha pos pins s σ H _ I h) fun us s1 ⟨vs, H1, I1, r, q⟩ => ⟨I1.kIn, ?_⟩) (star_cons hs) (star_any h2)
  have hl : us.length = ps.length := by rw [← r.length]; exact F.len _ _ _ _ q
  have hb' := hb s1 us I1.kIn (by rw [List.append_nil]; exact hl)
  rw [List.append_nil] at hb'
  refine wpAny_call (codeAny_mono (F.run X.A X.stack s1 H1 ⟨us, []⟩ us vs Q _ hr I1.env0 hb' r q) fun rs s' hq => ?_)
  cases rs with
  | error e' => exact hx pins σ H1 s1 e' s' I1 hq
  | ok fl =>
    cases fl with
    | ret u => exact I1.after hq
    | next => exact False.elim hq
    | brk => exact False.elim hq
    | cont => exact False.elim hq
end
def XF (X : Cx) (Ex : St → Value → Option Addr → Hp → Prop) : Value → Shared → Prop := fun e s' => ∃ σ H s, Inv X [] σ H s ∧ CXf X.prog X.w X.stack H s (fun cls od H' => Ex σ cls od H') e s'
abbrev Cx.pin (X : Cx) (pn : List (Addr × Obj)) : Cx := { X with pn := pn }
abbrev Cx.trying (X : Cx) (pn : List (Addr × Obj)) (Ex : St → Value → Option Addr → Hp → Prop) : Cx := { X with pn := pn, xe := XF (X.pin pn) Ex }
abbrev Cx.handling (X : Cx) (a : Addr) : Cx := { X with A := X.A.mark (some (.ref a)), calm := false, xe := fun _ _ => False }
section
variable {X : Cx} {pins pn : List (Addr × Obj)} {σ : St} {H : Hp} {s : Shared} {Ex : St → Value → Option Addr → Hp → Prop} {a : Addr}
theorem Cx.Ok.pin (ok : X.Ok) : (X.pin pn).Ok := ⟨ok.mod, ok.kind, ok.glob, ok.blt, ok.above, ok.inj, ok.has, ok.cab, ok.hd, ok.frames, ok.stk, ok.exf, ok.bs, ok.bsz, ok.noex, ok.exfs, ok.funs, ok.frf⟩
theorem Cx.Ok.handling (ok : X.Ok) : (X.handling a).Ok := ⟨ok.mod, ok.kind, ok.glob, ok.blt, ok.above, ok.inj, ok.has, ok.cab, (fun z => nomatch z), ok.frames, ok.stk, ok.exf, ok.bs, ok.bsz, ok.noex, ok.exfs, ok.funs, ok.frf⟩
theorem Inv.pnIn (I : Inv X pins σ H s) : Inv (X.pin (X.pn ++ pins)) [] σ H s := ⟨I.ok.pin, I.os, I.bare, I.base, I.loc, I.cell, I.free, I.freeC, fun p hp => I.pin p (by rw [List.append_nil] at hp; exact hp), I.hok, I.len⟩
theorem Inv.pnOut (I : Inv (X.pin (X.pn ++ pins)) [] σ H s) (ok : X.Ok) : Inv X pins σ H s := ⟨ok, I.os, I.bare, I.base, I.loc, I.cell, I.free, I.freeC, fun p hp => I.pin p (by rw [List.append_nil]; exact hp), I.hok, I.len⟩
theorem Inv.handling (I : Inv X pins σ H s) : Inv (X.handling a) pins σ H s := ⟨I.ok.handling, I.os, I.bare, I.base, I.loc, I.cell, I.free, I.freeC, I.pin, I.hok, I.len⟩
theorem Inv.handled (I : Inv (X.handling a) pins σ H s) (ok : X.Ok) : Inv X pins σ H s := ⟨ok, I.os, I.bare, I.base, I.loc, I.cell, I.free, I.freeC, I.pin, I.hok, I.len⟩
theorem Inv.trying (I : Inv (X.pin pn) pins σ H s) : Inv (X.trying pn Ex) pins σ H s := I.wish _
theorem Inv.tried (I : Inv (X.trying pn Ex) pins σ H s) : Inv (X.pin pn) pins σ H s := Inv.unwish (X := X.pin pn) (E := XF (X.pin pn) Ex) I
theorem takes_trying : Takes (X.trying pn Ex) Ex := fun pins σ H s e s' I h => ⟨σ, H, s, I.tried.pins_of (fun p hp => nomatch hp), h⟩
def ExcO (a : Addr) (cls : Value) (od : Option Addr) : Heap → Prop := fun h => ∃ o vs, h.get? a = some o ∧ o.cls = cls ∧ o.data = .fields vs ∧ ∀ dx, od = some dx → o.dict = some dx
theorem Inv.exc {cls : Value} {od : Option Addr} {H0 : Hp} {s0 : Shared} {σ0 : St} (I : Inv X pins σ H s) (I0 : Inv X pins σ0 H0 s0) (hex : X.ex = []) (na : s0.heap.get? a = none) (ha : H a = none) (hx : ExcO a cls od s.heap) : Inv X pins σ (upd H a (.ext (ExcO a cls od))) s where
  ok := I.ok
  os := I.os
  bare := I.bare
  base := by
    have n0 : ∀ b ob, X.s₀.heap.get? b = some ob → b ≠ a := fun b ob q z => by
      obtain ⟨o', y⟩ := I0.base.there b ob q (by rw [hex]; simp)
      rw [z, na] at y
      cases y
    refine ⟨I.base.keep, I.base.slot, fun b ob q n hx => ?_, I.base.there, fun b xs q => ?_, fun b ob u q => ?_, fun b ps q => ?_⟩
    · rw [upd_ne (n0 b ob q)]; exact I.base.free b ob q n hx
    · have := I.base.tups b xs q
      rw [upd_ne (ne_of_none this ha)]; exact this
    · have := I.base.frzs b ob u q
      rw [upd_ne (ne_of_none this ha)]; exact this
    · obtain ⟨more, z⟩ := I.base.tbls b ps q
      exact ⟨more, by rw [upd_ne (ne_of_none z ha)]; exact z⟩
  loc := I.loc
  cell := I.cell
  free := by
    have : X.env.locals ≠ a := fun z => by
      obtain ⟨m, ⟨o, _, _, ho, _⟩, _⟩ := I0.loc
      rw [z, na] at ho
      cases ho
    rw [upd_ne this]; exact I.free
  freeC := fun x c h => by
    have : c ≠ a := fun z => by
      obtain ⟨v, o, ho, _⟩ := I0.cell x c h
      rw [z, na] at ho
      cases ho
    rw [upd_ne this]; exact I.freeC x c h
  pin := fun p hp => by
    obtain ⟨p1, p2, p3⟩ := I.pin p hp
    have : p.1 ≠ a := fun z => by
      have ho := (I0.pin p hp).1
      rw [z, na] at ho
      cases ho
    exact ⟨p1, by rw [upd_ne this]; exact p2, p3⟩
  hok := by
    intro b u hb
    by_cases q : b = a
    · subst q
      rw [upd_same] at hb
      cases hb
      obtain ⟨o, vs, h1, h2, h3⟩ := hx
      refine ⟨⟨o, vs, h1, h2, h3⟩, ⟨o, h1⟩, ?_⟩
      rintro ha hb2 ⟨o', vs', q1, q2, q3⟩ k
      exact ⟨o', vs', k o' q1, q2, q3⟩
    · rw [upd_ne q] at hb
      refine (I.hok b u hb).stay (fun c v _ h => h) (fun c h => ?_) fun c xs h => ?_
      · rw [upd_ne (ne_of_none h ha)]; exact h
      · rw [upd_ne (ne_of_none h ha)]; exact h
  len := I.len
theorem goes_ok {M : Model} {A : Around} {E : Value → Shared → Prop} {i : Nat} {x : Str} {pos : Pos} {Q : Unit → Shared → Prop} (I : Inv X pins σ H s) (hN : X.N.Nodup) (hi : X.N[i]? = some x) (hx : X.env.kindOf x = some .local) (hl : Loc X.env.scope x) (hfn : X.fn x = true ∨ X.env.scope.names.lookup x = some .local)
    (h : ∀ s', Inv X pins (σ.set i none) H s' → Q () s') : wpAny M A (do bindName X.env x .none; unbindBehindTheSuite X.env x pos) Q E s := by
  have hp : (X.env.scope.kind == .class || (X.env.scope.kind == .module && X.env.locals != X.env.globals)) = false := by rw [I.ok.kind]; rfl
  refine wpAny_bind (wpAny_bindName (store_ok (v := .non) I hN hi hl rfl (fun s1 I1 => ?_) hfn))
  unfold unbindBehindTheSuite
  refine wpAny_onRaise ?_
  unfold unbindName
  refine wpAny_bind (wpAny_point (wpAny_bind ?_))
  unfold deleteName
  simp only [hx, hp]
  rw [if_neg (by decide)]
  obtain ⟨m, hn, hl1⟩ := id I1.loc
  have hiσ : i < σ.length := by rw [I.len]; exact (List.getElem?_eq_some_iff.mp hi).1
  have cne := I1.cne
  refine wpAny_bind (wpAny_nsDel_keeps hn fun h2 v hn2 hs => ?_)
  have hm : (m x).isSome = true := by
    obtain ⟨u, ru, lk⟩ := hl1 i x .non hi (List.getElem?_set_self hiσ) (Or.inl (by
      have := hx
      unfold Env.kindOf at this
      first | exact this | simpa using this))
    rcases lk with ⟨_, e⟩ | ⟨k, _⟩
    · rw [e]; rfl
    · rcases k with k | k
      · have := hx; simp_all
      · have := hx; simp_all
  simp only [hm, if_true, Bool.not_true, Bool.false_eq_true, if_false]
  have bl : ∀ b o, X.s₀.heap.get? b = some o → b ≠ X.env.locals := fun b o e => Nat.ne_of_lt (Nat.lt_of_lt_of_le (Heap.lt_size e) I.ok.above)
  obtain ⟨oL, _, _, hoL, _⟩ := id hn
  refine wpAny_pure (wpAny_point (h _ ⟨I1.ok, I1.os, I1.bare, ⟨fun b o e n hb hx' => (hs.2 b (bl b o e)).trans (I1.base.keep b o e n hb hx'), fun b o e n hb hx' => ?_, I1.base.free, fun b o e hx' => ?_, I1.base.tups, I1.base.frzs, I1.base.tbls⟩, ⟨_, hn2, fun j y v' e1 e2 e3 => ?_⟩, fun y c e => ?_, I1.free, I1.freeC, fun p hp' => ?_, fun b u e => ?_, by simpa using I.len⟩))
  · obtain ⟨sl, z⟩ := I1.base.slot b o e n hb hx'
    exact ⟨sl, (hs.2 b (bl b o e)).trans z⟩
  · obtain ⟨o', z⟩ := I1.base.there b o e hx'
    exact ⟨o', (hs.2 b (bl b o e)).trans z⟩
  · by_cases hj : j = i
    · subst hj
      rw [List.getElem?_set_self hiσ] at e2
      cases e2
    · rw [List.getElem?_set_ne (Ne.symm hj)] at e2
      obtain ⟨u, r, q⟩ := hl1 j y v' e1 (by rw [List.getElem?_set_ne (Ne.symm hj)]; exact e2) e3
      refine ⟨u, r, ?_⟩
      rcases q with ⟨k, e⟩ | ⟨k, c, e, z⟩
      · have hne : y ≠ x := fun e => hj (nodup_ix hN e1 (e ▸ hi))
        exact .inl ⟨k, by dsimp only; rw [if_neg hne]; exact e⟩
      · exact .inr ⟨k, c, e, z.sameBut hs (cne y c e)⟩
  · obtain ⟨w', z⟩ := I1.cell y c e
    exact ⟨w', z.sameBut hs (cne y c e)⟩
  · obtain ⟨e, n, ne, nf, d⟩ := I1.pin p hp'
    exact ⟨(hs.2 p.1 ne).trans e, n, ne, nf, d⟩
  · refine (I1.hok b u e).stay (fun c w' hc q => (hs.2 c ?_).trans q) (fun _ q => q) fun _ _ q => q
    rintro rfl
    rcases hc with z | z
    · rw [← z, I1.free] at e; cases e
    · rw [I1.free] at z; cases z
theorem SP.goes {M : Model} {A : Around} {E : Value → Shared → Prop} {i : Nat} {x : Str} {pos : Pos} {D : Ends} {f : Flow} (hq : SP X pins { nx := fun σ' H' => D.nx (σ'.set i none) H', rt := D.rt, bk := fun σ' H' => D.bk (σ'.set i none) H', ct := fun σ' H' => D.ct (σ'.set i none) H' } f s) (hN : X.N.Nodup) (hi : X.N[i]? = some x) (hx : X.env.kindOf x = some .local) (hl : Loc X.env.scope x) (hfn : X.fn x = true ∨ X.env.scope.names.lookup x = some .local) :
    wpAny M A (do bindName X.env x .none; unbindBehindTheSuite X.env x pos) (fun _ s' => SP X pins D f s') E s := by
  cases f with
  | next => obtain ⟨σ', H', I, q⟩ := hq; exact goes_ok I hN hi hx hl hfn fun s' I' => ⟨_, H', I', q⟩
  | brk => obtain ⟨σ', H', I, q⟩ := hq; exact goes_ok I hN hi hx hl hfn fun s' I' => ⟨_, H', I', q⟩
  | cont => obtain ⟨σ', H', I, q⟩ := hq; exact goes_ok I hN hi hx hl hfn fun s' I' => ⟨_, H', I', q⟩
  | ret u => obtain ⟨v, σ', H', I, r, q⟩ := hq; exact goes_ok I hN hi hx hl hfn fun s' I' => ⟨v, _, H', I', r, q⟩
theorem SP.handled {D : Ends} {f : Flow} (h : SP (X.handling a) pins D f s) (ok : X.Ok) : SP X pins D f s := by
  cases f with
  | next => obtain ⟨σ', H', I, q⟩ := h; exact ⟨σ', H', I.handled ok, q⟩
  | brk => obtain ⟨σ', H', I, q⟩ := h; exact ⟨σ', H', I.handled ok, q⟩
  | cont => obtain ⟨σ', H', I, q⟩ := h; exact ⟨σ', H', I.handled ok, q⟩
  | ret u => obtain ⟨v, σ', H', I, r, q⟩ := h; exact ⟨v, σ', H', I.handled ok, r, q⟩
theorem SP.tried {D : Ends} {f : Flow} (h : SP (X.trying (X.pn ++ pins) Ex) [] D f s) (ok : X.Ok) : SP X pins D f s := by
  cases f with
  | next => obtain ⟨σ', H', I, q⟩ := h; exact ⟨σ', H', I.tried.pnOut ok, q⟩
  | brk => obtain ⟨σ', H', I, q⟩ := h; exact ⟨σ', H', I.tried.pnOut ok, q⟩
  | cont => obtain ⟨σ', H', I, q⟩ := h; exact ⟨σ', H', I.tried.pnOut ok, q⟩
  | ret u => obtain ⟨v, σ', H', I, r, q⟩ := h; exact ⟨v, σ', H', I.tried.pnOut ok, r, q⟩
def tTry (K : W.Frag) (C : Addr) (i : Nat) (tb : (St → Value → Option Addr → Hp → Prop) → TS) (th : TS) : TS := fun D σ H =>
  tb (fun σ' cls od H' => W.exmOne K cls (.ref C) = some true ∧ ∀ a, H' a = none → th { nx := fun σ'' H'' => D.nx (σ''.set i none) H'', rt := D.rt, bk := fun σ'' H'' => D.bk (σ''.set i none) H'', ct := fun σ'' H'' => D.ct (σ''.set i none) H'' } (σ'.set i (some (.ref a))) (upd H' a (.ext (ExcO a cls od)))) D σ H
theorem ps_try {C : Addr} {c n : Str} {i : Nat} {body suite : List Stmt} {s0 : Stmt} {p hpos pos : Pos} {tb : (St → Value → Option Addr → Hp → Prop) → TS} {th : TS} (hN : X.N.Nodup) (hi : X.N[i]? = some n) (hx : X.env.kindOf n = some .local) (hl : Loc X.env.scope n) (hfn : X.fn n = true ∨ X.env.scope.names.lookup n = some .local) (hst : X.stack = X.env :: X.outer) (hf : X.env.frame = some X.env.locals) (hex : X.ex = [])
    (hg : Gl X c) (hm : X.mg c = some (.ref C)) (hdb : (c == ("__debug__" : Str)) = false) (hb : ∀ pn Ex, PSs (X.trying pn Ex) body (tb Ex)) (hs : ∀ a, PSs (X.handling a) (s0 :: suite) th) :
    PS X (.Try body [.ExceptHandler (some (.Name c p)) (some n) (s0 :: suite) hpos] [] [] pos) (tTry X.K C i tb th) := by
  intro pins s σ H D I h
  refine wpAny_Try_except (wpAny_mono (hb (X.pn ++ pins) _ [] s σ H D I.pnIn.trying h) (fun f s1 q => ?_) fun e s1 q => ?_)
  · have q' := q.tried I.ok
    cases f with
    | next => exact wpAny_execs_nil q'
    | brk => exact q'
    | cont => exact q'
    | ret u => exact q'
  · obtain ⟨σ', H0, sc, I0, a, cls, od, H', rfl, F, hx1, hw⟩ := q
    have I0' : Inv X pins σ' H0 sc := I0.pnOut I.ok
    have F' : Fly X.prog X.w X.stack H0 sc H' a cls od .none s1 := F
    refine fly_note I0' F' I.ok.frames hst hf fun s2 F2 => ?_
    refine fly_land I0' F2 fun s3 F3 => ?_
    have I3 := F3.inv I0'
    refine wpAny_handleBy_cons (codeAny_handlers_test ?_) (by intro q; cases q)
    refine ld_glob (X := X.handling a) (I3.handling (a := a)) hg hm ?_ hdb
    obtain ⟨T, ⟨oe, vs, a0, oT, ts, e1, e2, _⟩, _⟩ := F3.tr
    have LT : W.Looks (model X.prog X.w) s3.heap (typeOf (.ref a)) cls := e2 ▸ (W.Looks.ld e1).andThen .now
    refine (W.exm_one I3.kIn LT hx1).here ?_
    show codeAny _ _ _ _ _
    refine codeAny_handlers_suite_as ?_
    refine fly_land I0' F3 fun s4 F4 => ?_
    have I4 := F4.inv I0'
    obtain ⟨T4, ⟨oe4, vs4, a04, oT4, ts4, q1, q2, q3, q4, _⟩, _⟩ := F4.tr
    have I5 := I4.exc I0' hex F4.na F4.ha (od := od) ⟨oe4, vs4, q1, q2, q4, fun dx hdx => by obtain ⟨o1, z1, z2⟩ := F4.dd dx hdx; rw [q1] at z1; cases z1; exact z2⟩
    refine store_ok (v := .ref a) I5 hN hi hl rfl (fun s5 I6 => ?_) hfn
    refine wpAny_mono (hs a pins s5 _ _ _ (I6.handling (a := a)) (hw a F4.ha)) (fun f s6 q => ?_) (fun _ _ z => False.elim z)
    exact SP.goes (q.handled I.ok) hN hi hx hl hfn
end
end L2
namespace L2
open PySem PySem.Spec PyProof.Rows
structure XKind (K : W.Frag) (D : Addr) : Prop where
  ga : W.findIn K (.ref D) "__getattribute__" = some (some (.builtin "BaseException.__getattribute__"))
  gx : W.findIn K (.ref D) "__getattr__" = some none
  cl : W.findIn K (.ref D) "__class__" = some (some (.builtin "object.__class__"))
  gg : W.specialIn K (.builtin "object.__class__") "__get__" = some (some (.builtin "getset_descriptor.__get__"))
  tk : W.takesIn K (.builtin "object.__class__") = some true
  mo : W.mroIn K D (.type "object") = some true
  mb : W.mroIn K D (.type "BaseException") = some true
  ci : (W.clsIn K D).isSome = true
def OfCls (x D : Addr) (h : Heap) : Prop := ∃ o, h.get? x = some o ∧ o.cls = .ref D
section
variable {prog : Program} {w : World} {A : Around} {E : Value → Shared → Prop} {s : Shared} {K : W.Frag} {x D : Addr}
theorem OfCls.type {M : Model} {h : Heap} (c : OfCls x D h) : W.Looks M h (typeOf (.ref x)) (.ref D) := by
  obtain ⟨o, h1, h2⟩ := c
  exact h2 ▸ (W.Looks.ld h1).andThen .now
theorem exc_check {M : Model} {nameV : Value} {Q : Unit → Shared → Prop} (LI : W.Looks M s.heap (isInstance (.ref x) (.type "BaseException")) true) (h : Q () s) : wpAny M A (checkBuiltinCall "BaseException.__getattribute__" ⟨[.ref x, nameV], []⟩) Q E s := by
  have hkd : builtinKind "BaseException.__getattribute__" = some .slot := by decide +kernel
  have hsp : splitId "BaseException.__getattribute__" = some ("BaseException", "__getattribute__") := by decide +kernel
  have har := F.args_bexc_ga (.ref x) nameV
  simp only [checkBuiltinCall, hkd, hsp]
  refine wpAny_bind (LI.here ?_)
  obtain ⟨hh, g, d, t, os⟩ := s
  repeat (first | wp_step)
  exact h
theorem look_class {M : Model} {h : Heap} (X : K.In h) (k : XKind K D) : W.Looks M h (Builtin.ObjectAttr.find (.ref x) (.ref D) "__class__") (.bind (.builtin "getset_descriptor.__get__") (.builtin "object.__class__")) := by
  have l1 := W.looks_findIn (M := M) X k.cl
  have l2 : W.Looks M h (Builtin.ObjectAttr.getOf (some (.builtin "object.__class__"))) (some (.builtin "getset_descriptor.__get__")) := W.looks_specialIn X k.gg
  have l3 := W.looks_takesIn (M := M) X k.tk
  refine l1.andThen (l2.andThen ?_)
  exact (show W.Looks M h (Builtin.ObjectAttr.dataDescriptor? (some (.builtin "object.__class__")) (some (.builtin "getset_descriptor.__get__"))) (some (.builtin "getset_descriptor.__get__", .builtin "object.__class__")) from l3.andThen .now).andThen (W.Looks.tag .now)
open PySem.W Builtin Builtin.ObjectAttr Builtin.Getset_descriptor in
theorem get_class {R : Result → Shared → Prop} {tp : Value} (X : K.In s.heap) (c : OfCls x D s.heap) (hm : W.mroIn K D (.type "object") = some true) (h : R (.ok (.ret (.ref D))) s) :
    codeAny (model prog w) A (.call (.builtin "getset_descriptor.__get__") ⟨[.builtin "object.__class__", .ref x, tp], []⟩) R s := by
  obtain ⟨hh, g, dr, t, os⟩ := s
  have L0 := c.type (M := model prog w)
  have L1 := W.looks_mroIn (M := model prog w) X hm
  refine codeAny_call_builtin KF.slot_gs.plain KF.entry_gs (KF.slot_gs.check _ _ _ _ _ _ _ _ KF.type_class (KF.args_gs _ _ _) ?_)
  unfold Builtin.«getset_descriptor.__get__» descrGet
  rw [dga_obj]
  apply wpAny_bind
  apply wpAny_pure
  unfold descrGetter descrCheckInstance descrNameAndClass isInstance
  simp only [KF.owner_class]
  repeat lk
  refine ⟨Code.quiet_builtin _ (by decide +kernel), codeAny_builtin KF.entry_class ?_⟩
  unfold Builtin.«object.__class__» shownTypeOf
  repeat lk
  exact h
theorem exc_class {Q : Option Value → Shared → Prop} (X : K.In s.heap) (c : OfCls x D s.heap) (k : XKind K D) (h : Q (some (.ref D)) { s with toks := s.toks + 1 }) : wpAny (model prog w) A (getAttr? (.ref x) "__class__") Q E s := by
  obtain ⟨hh, g, d, t, os⟩ := s
  have L0 := c.type (M := model prog w)
  have L1 := W.looks_findIn (M := model prog w) X k.ga
  have L2 := W.looks_findIn (M := model prog w) X k.gx
  have L3 := look_class (M := model prog w) (x := x) X k
  have LI : W.Looks (model prog w) hh (isInstance (.ref x) (.type "BaseException")) true := L0.andThen (W.looks_mroIn X k.mb)
  unfold getAttr? getAttrBy? getAttrBy
  refine wpAny_bind (wpAny_mkText (wpAny_bind (wpAny_attempt (wpAny_holding (wpAny_bind (L0.at (wpAny_bind (L1.at ?_))))))))
  dsimp only
  have hx0 : (Value.builtin "BaseException.__getattribute__" == Value.builtin "object.__getattribute__") = false := by decide +kernel
  have hx1 : (onTheHeap (Value.ref D) && Value.builtin "BaseException.__getattribute__" == Value.builtin "object.__getattribute__") = false := by rw [hx0]; rfl
  rw [if_neg (by rw [hx1]; exact Bool.false_ne_true)]
  unfold getAttrByItsOwn hookBefore
  rw [if_pos (show onTheHeap (Value.ref D) = true from rfl)]
  refine wpAny_bind (L2.at ?_)
  refine wpAny_bind (wpAny_attempt (wpAny_holding ?_))
  unfold callGetattribute
  rw [if_neg (by decide)]
  unfold boundAndCalled
  refine wpAny_bind (wpAny_of_eq (F.excAttr_ValueError.ga.bind _) ?_)
  show wpAny _ _ (call (.builtin "BaseException.__getattribute__") [.ref x, .str "__class__" t]) _ _ _
  refine wpAny_call (codeAny_call_builtin F.excAttr_ValueError.ga.plain F.entry_bexc_ga (exc_check LI ?_))
  unfold Builtin.«object.__getattribute__»
  refine wpAny_bind (wpAny_of_eq (a := (Value.ref x, [Value.str "__class__" t])) rfl ?_)
  dsimp only
  refine wpAny_bind (wpAny_pure (wpAny_bind (L0.at (wpAny_bind (L3.at ?_)))))
  dsimp only
  show wpAny _ _ (holding [Value.builtin "object.__class__"] (call (.builtin "getset_descriptor.__get__") [.builtin "object.__class__", .ref x, .ref D]) >>= ret) _ _ _
  refine wpAny_bind (wpAny_holding (wpAny_call (get_class (s := ⟨hh, g, d, t + 1, os⟩) X c k.mo ?_)))
  refine wpAny_pure ?_
  show wpAny _ _ (handedOut (.ref D)) _ _ _
  exact wpAny_pure (wpAny_pure h)
theorem kitx_exc (k : XKind K D) : W.KitX K (.ref x) (.ref D) (OfCls x D) where
  ty := fun _ _ _ c => c.type
  it := fun _ _ X _ => by
    obtain ⟨cdD, hcD⟩ := Option.isSome_iff_exists.mp k.ci
    unfold W.clsIn at hcD
    split at hcD
    · rename_i c' d' cd' sl' ho
      intro A' Q' E' s' k' q
      unfold isType loadHead
      exact wpAny_bind (wpAny_loadPart (k' _ _ (X _ _ ho)) (wpAny_pure q))
    · cases hcD
  ne := fun h tp dd its n sl X htp => by
    obtain ⟨cdD, hcD⟩ := Option.isSome_iff_exists.mp k.ci
    refine Bool.eq_false_iff.mpr fun q => ?_
    have e : D = tp := Value.ref.inj (beq_iff_eq.mp q)
    subst e
    unfold W.clsIn at hcD
    split at hcD
    · rename_i c' d' cd' sl' ho
      rw [X _ _ ho] at htp
      cases htp
    · cases hcD
  ca := fun X c q => exc_class X c k q
end
def IsAns (K : W.Frag) (H : Hp) (D : Addr) (c : V) (b : Bool) : Prop := match c with
  | .ref t => (∃ xs : List Addr, H t = some (.tup (xs.map V.ref)) ∧ W.kitAny K (.ref D) (xs.map Value.ref) = some b) ∨ W.kitOne K (.ref D) (.ref t) = some b
  | .ty n => W.kitOne K (.ref D) (.type n) = some b
  | _ => False
def mIsX (K : W.Frag) : List V → Hp → VK → Prop := fun vs H Q => match vs with
  | [.ref a, c] => ∃ D b od, H a = some (.ext (ExcO a (.ref D) od)) ∧ XKind K D ∧ IsAns K H D c b ∧ Q (.bl b) H
  | _ => False
theorem vals_refs : ∀ {xs : List Addr} {us : List Value}, Vals (xs.map V.ref) us → us = xs.map Value.ref
  | [], [], _ => rfl
  | x :: xs, u :: us, .cons r rs => by
    cases r
    rw [vals_refs rs]
    rfl
section
variable {X : Cx}
theorem c_isX : CallR X (.builtin "isinstance") (mIsX X.K) := by
  intro pins s σ H xs us Q I r h
  unfold mIsX at h
  split at h
  · rename_i a c
    obtain ⟨D, b, od, e, k, ans, q⟩ := h
    obtain ⟨⟨o, vs, h1, h2, h3⟩, _⟩ := (show ObjOk X.prog X.w H s.heap a (.ext (ExcO a (.ref D) od)) from I.hok a _ e)
    have oc : OfCls a D s.heap := ⟨o, h1, h2⟩
    cases r with
    | cons ra r2 =>
      cases r2 with
      | cons rc r3 =>
        cases r3
        cases ra
        cases c with
        | ref t =>
          cases rc
          rcases ans with ⟨ys, et, ka⟩ | ko
          · obtain ⟨_, its, rv, ⟨ot, ht, hc, n, hd⟩⟩ := (show ObjOk X.prog X.w H s.heap t (.tup (ys.map V.ref)) from I.hok t _ et)
            obtain rfl := vals_refs rv
            obtain ⟨c0, dd, dat, sl⟩ := ot
            dsimp only at hc hd
            subst hc hd
            exact W.kia_tup (kitx_exc k) I.kIn oc ht ka (by intro z; cases z) fun tk => ⟨.bl b, H, I.tok _, rfl, q⟩
          · exact W.kia_one (kitx_exc k) I.kIn oc ko (by intro z; cases z) fun tk => ⟨.bl b, H, I.tok _, rfl, q⟩
        | ty n =>
          cases rc
          exact W.kia_one (kitx_exc k) I.kIn oc ans (by intro z; cases z) fun tk => ⟨.bl b, H, I.tok _, rfl, q⟩
        | _ => exact ans.elim
  · exact h.elim
end
namespace R
section
variable {X : Cx} {x n c : Str} {C : Addr} {E : XK} {e : Expr} {es : List Expr} {t : TA} {np cpos pos p hpos : Pos} {m i : Nat} {ps : List Str} {sp : Sp} {Ex : St → Value → Option Addr → Hp → Prop} {K : W.Frag} {body suite : List Stmt} {s0 : Stmt} {tb : (St → Value → Option Addr → Hp → Prop) → TS} {th : TS}
theorem kisX (hK : X.K = K := by rfl) : XC X (.builtin "isinstance") (mIsX K) := hK ▸ ⟨c_isX⟩
theorem raise (cx : XCls X.K X.mg x C) (hl : Leaves X E) (hg : Gl X x) (ha : XA X (e :: es) t) (hc : X.calm = true := by rfl) (hs : notStar e = true := by rfl) (h2 : es.all notStar = true := by rfl) (hdb : (x == ("__debug__" : Str)) = false := by decide) :
    XS X (.Raise (some (.Call (.Name x np) (e :: es) [] cpos)) none pos) (tRaise C E t) := ⟨ps_raise cx hl hc hg ha.h hs h2 hdb⟩
theorem fnX (c : CalleeX X.prog X.w X.K X.mg X.base m x ps sp) (hr : Room m X.A) (hg : Gl X x) (hx : Takes X Ex) (ha : XA X (e :: es) t) (hs : notStar e = true := by rfl) (h2 : es.all notStar = true := by rfl) (hdb : (x == ("__debug__" : Str)) = false := by decide) :
    XE X (.Call (.Name x p) (e :: es) [] pos) (tFnX sp Ex t) := ⟨pe_fnX c hr hg hx ha.h hs h2 hdb⟩
theorem ktry (hm : X.mg c = some (.ref C)) (hg : Gl X c) (hN : X.N.Nodup) (hb : ∀ pn Ex, XB (X.trying pn Ex) body (tb Ex)) (hs : ∀ a, XB (X.handling a) (s0 :: suite) th) (hK : X.K = K := by rfl) (hi : X.N[i]? = some n := by rfl) (hx : X.env.kindOf n = some .local := by rfl) (hl : Loc X.env.scope n := by first | exact Or.inl rfl | exact Or.inr rfl)
    (hfn : X.fn n = true ∨ X.env.scope.names.lookup n = some .local := by first | exact .inl rfl | exact .inr rfl) (hst : X.stack = X.env :: X.outer := by rfl) (hf : X.env.frame = some X.env.locals := by rfl) (hex : X.ex = [] := by rfl) (hdb : (c == ("__debug__" : Str)) = false := by decide) :
    XS X (.Try body [.ExceptHandler (some (.Name c p)) (some n) (s0 :: suite) hpos] [] [] pos) (tTry K C i tb th) := hK ▸ ⟨ps_try hN hi hx hl hfn hst hf hex hg hm hdb (fun pn Ex => (hb pn Ex).h) fun a => (hs a).h⟩
end
end R
end L2
namespace L2
open PySem PySem.Spec PyProof.Rows
section
variable {X : Cx} {e o : Expr} {es : List Expr} {te to : TE} {t : TA} {pos apos cpos : Pos}
end
namespace R
section
variable {X : Cx} {e o b : Expr} {es : List Expr} {te to tb : TE} {t : TA} {pos apos cpos p1 p2 cp : Pos} {x y z : Str} {j j1 j2 : Nat}
end
end R
end L2
namespace L2
open PySem PySem.Spec PyProof.Rows
theorem bb_ValueError : bootBuiltins "ValueError" = some (.type "ValueError") := by decide +kernel
theorem R.bty {X : Cx} {x : Str} {n : String} {pos : Pos} (hg : Gl X x) (hm : X.mg x = none) (hv : bootBuiltins x = some (.type n)) (hn : x ≠ "__name__" := by decide) (hd : (x == ("__debug__" : Str)) = false := by decide) : XE X (.Name x pos) (tC (.ty n)) := ⟨pe_bltn hg hm hv rfl hn hd⟩
end L2
namespace L2
open PySem PySem.Spec PyProof.Rows
section
variable {X : Cx}
theorem R.min (hc : X.calm = true) : XC X (.builtin "min") (fun vs H Q => match vs with | [.int i, .int j] => Q (.int (if j < i then j else i)) H | _ => False) := ⟨(call_min2 hc).imp fun vs H Q h => by
  split at h
  · exact ⟨_, _, rfl, h⟩
  · exact h.elim⟩
end
end L2
namespace L2
open PySem PySem.Spec PyProof.Rows
def itName : Bool → String | true => "list_iterator" | false => "tuple_iterator"
def itObj (k : Bool) (a : Addr) : Obj := { cls := .type (itName k), data := .fields #[.ref a, .int 0 0] }
def ItAt (k : Bool) (h : Heap) (it a : Addr) (i : Nat) : Prop := ∃ o, h.get? it = some o ∧ o.cls = .type (itName k) ∧ o.data = .fields #[.ref a, .int i 0]
def SeqIn (k : Bool) (h : Heap) (a : Addr) (vs : Array Value) : Prop := match k with | true => h.IsList a vs | false => h.IsTuple a vs
theorem ItAt.by {k : Bool} {h h' : Heap} {it a : Addr} {i : Nat} (x : ItAt k h it a i) (g : ∀ o, h.get? it = some o → h'.get? it = some o) : ItAt k h' it a i := let ⟨o, e, r⟩ := x; ⟨o, g o e, r⟩
theorem SeqIn.by {k : Bool} {h h' : Heap} {a : Addr} {vs : Array Value} (x : SeqIn k h a vs) (g : ∀ o, h.get? a = some o → h'.get? a = some o) : SeqIn k h' a vs := by
  cases k
  · obtain ⟨o, e, r⟩ := x; exact ⟨o, g o e, r⟩
  · obtain ⟨o, e, r⟩ := x; exact ⟨o, g o e, r⟩
theorem SeqIn.lt {k : Bool} {h : Heap} {a : Addr} {vs : Array Value} (x : SeqIn k h a vs) : a < h.objs.size := by
  cases k
  · obtain ⟨o, e, r⟩ := x; exact Heap.lt_size e
  · obtain ⟨o, e, r⟩ := x; exact Heap.lt_size e
section
variable {prog : Program} {w : World} {A : Around} {E : Value → Shared → Prop} {s : Shared}
theorem it_new {k : Bool} {a : Addr} {vs : Array Value} {Q : Value → Shared → Prop} (h : SeqIn k s.heap a vs) (q : Q (.ref s.heap.objs.size) { s with heap := s.heap.push (itObj k a) }) : wpAny (model prog w) A (pyIter (.ref a)) Q E s := by
  cases k
  · exact wpAny_pyIter_tuple (show s.heap.IsTuple a vs from h) q
  · exact wpAny_pyIter_list (show s.heap.IsList a vs from h) q
theorem nx_item {k : Bool} {it a : Addr} {i : Nat} {vs : Array Value} {x : Value} {Q : Value → Shared → Prop} (hit : ItAt k s.heap it a i) (hs : SeqIn k s.heap a vs) (hx : vs[i]? = some x)
    (q : ∀ h', ItAt k h' it a (i + 1) → Heap.SameBut it s.heap h' → Q x { s with heap := h' }) : wpAny (model prog w) A (Builtin.SmallTypes.nextOf (.ref it)) Q E s := by
  cases k with
  | true => exact wpAny_nextOf_list_item (show s.heap.IsListIter it a i from hit) (show s.heap.IsList a vs from hs) hx q
  | false =>
    have hit' : s.heap.IsTupleIter it a i := hit
    obtain ⟨o, ho, hc, hd⟩ := hit
    obtain ⟨ol, hol, _, nl, hdl⟩ := hs
    unfold Builtin.SmallTypes.nextOf
    refine wpAny_bind (wpAny_callSpecial?_slot (name := Str.ofString "__next__") hit'.typeIs F.slot_tuple_iterator_next (wpAny_call_entry F.slot_tuple_iterator_next hit'.typeIs F.entry_tuple_iterator_next ?_ (F.args_tuple_iterator_next_1 _)))
    show wpAny (model prog w) _ (field (.ref it) 0 >>= _) _ _ s
    refine wpAny_bind (wpAny_field ho hd (x := .ref a) rfl ?_)
    show wpAny (model prog w) _ (if (Value.ref a == Value.none) = true then _ else _) _ _ s
    rw [if_neg (show ¬ ((Value.ref a == Value.none) = true) from Bool.false_ne_true)]
    show wpAny (model prog w) _ (field (.ref it) 1 >>= _) _ _ s
    refine wpAny_bind (wpAny_field (x := .int i 0) ho hd rfl ?_)
    show wpAny (model prog w) _ (seqItems? (.ref a) >>= _) _ _ s
    refine wpAny_bind (wpAny_seqItems (hol) hdl ?_)
    simp only [hx, Int.toNat_natCast]
    refine wpAny_bind (wpAny_setField ho hd (by simp) (wpAny_pure ⟨x, rfl, wpAny_pure (q _ ?_ (Heap.SameBut.update ..))⟩))
    exact ⟨_, Heap.get?_update_self _ ho (Obj.isFreed_of_fields (Obj.data_mapFields hd _)), (Obj.cls_mapFields ..).trans hc, by rw [Obj.data_mapFields hd]; simp [rawInt]⟩
theorem nx_end {k : Bool} {it a : Addr} {i : Nat} {vs : Array Value} {Q : Value → Shared → Prop} (hh : A.handled = none) (hit : ItAt k s.heap it a i) (hs : SeqIn k s.heap a vs) (hx : vs[i]? = none)
    (hE : ∀ h' e, Heap.ExtBut it s.heap h' → (∃ o, h'.get? e = some o ∧ o.cls = .type "StopIteration") → E (.ref e) { s with heap := h' }) : wpAny (model prog w) A (Builtin.SmallTypes.nextOf (.ref it)) Q E s := by
  cases k with
  | true => exact wpAny_nextOf_list_end hh (show s.heap.IsListIter it a i from hit) (show s.heap.IsList a vs from hs) hx hE
  | false =>
    have hit' : s.heap.IsTupleIter it a i := hit
    obtain ⟨o, ho, hc, hd⟩ := hit
    obtain ⟨ol, hol, _, nl, hdl⟩ := hs
    unfold Builtin.SmallTypes.nextOf
    refine wpAny_bind (wpAny_callSpecial?_slot (name := Str.ofString "__next__") hit'.typeIs F.slot_tuple_iterator_next (wpAny_call_entry F.slot_tuple_iterator_next hit'.typeIs F.entry_tuple_iterator_next ?_ (F.args_tuple_iterator_next_1 _)))
    show wpAny (model prog w) _ (field (.ref it) 0 >>= _) _ _ s
    refine wpAny_bind (wpAny_field ho hd (x := .ref a) rfl ?_)
    show wpAny (model prog w) _ (if (Value.ref a == Value.none) = true then _ else _) _ _ s
    rw [if_neg (show ¬ ((Value.ref a == Value.none) = true) from Bool.false_ne_true)]
    show wpAny (model prog w) _ (field (.ref it) 1 >>= _) _ _ s
    refine wpAny_bind (wpAny_field (x := .int i 0) ho hd rfl ?_)
    show wpAny (model prog w) _ (seqItems? (.ref a) >>= _) _ _ s
    refine wpAny_bind (wpAny_seqItems (hol) hdl ?_)
    simp only [hx, Int.toNat_natCast]
    refine wpAny_bind (wpAny_rule (wpAny_bind (wpAny_setField (ho) hd (by simp) ?_)))
    show wpAny (model prog w) _ (newExc (.type "StopIteration") [] >>= _) _ _ _
    refine wpAny_bind ?_
    simp only [newTuple, newExc]
    refine wpAny_bind (wpAny_newObj_type ?_ (by size_fits))
    refine wpAny_bind (m := firstArgMember _ _) (wpAny_of_eq (a := Value.none) (by first | rfl | (simp only [firstArgMember] ; rfl)) ?_)
    refine wpAny_newObj_type ?_ (by size_fits)
    simp only [raiseNew]
    refine wpAny_bind (wpAny_handled ?_)
    first | rw [show A.in1.handled = none from (hh)] | rw [hh]
    refine wpAny_bind (wpAny_pure (wpAny_throw ?_))
    exact hE _ _ (((Heap.SameBut.update ..).extBut.push _).push _) ⟨_, Heap.get?_push_size _ rfl, rfl⟩
structure ZOff (z ti to j1 j2 a1 a2 : Addr) : Prop where
  i : ti ≠ z
  o : to ≠ z
  p : j1 ≠ z
  q : j2 ≠ z
  io : ti ≠ to
  ip : ti ≠ j1
  iq : ti ≠ j2
  op : to ≠ j1
  oq : to ≠ j2
  pq : j1 ≠ j2
  a : ∀ b, b = a1 ∨ b = a2 → b ≠ z ∧ b ≠ to ∧ b ≠ j1 ∧ b ≠ j2
structure ZSt (k1 k2 : Bool) (h : Heap) (z ti to j1 j2 a1 a2 : Addr) (f0 : Value) (n1 n2 : Nat) : Prop where
  z : IsZip h z ti to f0
  i : IsPair h ti (.ref j1) (.ref j2)
  o : ∃ a b, IsPair h to a b
  x : ItAt k1 h j1 a1 n1
  y : ItAt k2 h j2 a2 n2
theorem zp_item {k1 k2 : Bool} {z ti to j1 j2 a1 a2 : Addr} {n : Nat} {xs ys : Array Value} {x y : Value} {Q : Value → Shared → Prop} (D : ZOff z ti to j1 j2 a1 a2) (S : ZSt k1 k2 s.heap z ti to j1 j2 a1 a2 .none n n)
    (hl1 : SeqIn k1 s.heap a1 xs) (hl2 : SeqIn k2 s.heap a2 ys) (hx : xs[n]? = some x) (hy : ys[n]? = some y)
    (hQ : ∀ h', ZSt k1 k2 h' z ti to j1 j2 a1 a2 (rawInt s.heap.objs.size) (n + 1) (n + 1) → IsPair h' s.heap.objs.size x y → h'.objs.size = s.heap.objs.size + 1 →
      (∀ c o, c ≠ z → c ≠ to → c ≠ j1 → c ≠ j2 → s.heap.get? c = some o → h'.get? c = some o) → Q (.ref s.heap.objs.size) { s with heap := h' }) :
    wpAny (model prog w) A (Builtin.«zip.__next__» ⟨[.ref z], []⟩) (fun fin s' => ∃ v, fin = .done (.ret v) ∧ Q v s') E s := by
  obtain ⟨hz, hI, ⟨u1, u2, hO⟩, h1, h2⟩ := S
  obtain ⟨c1z, c1o, c1p, c1q⟩ := D.a a1 (.inl rfl)
  obtain ⟨c2z, c2o, c2p, c2q⟩ := D.a a2 (.inr rfl)
  show wpAny (model prog w) _ (field (.ref z) 2 >>= _) _ _ _
  refine wpAny_bind (wpAny_field (x := .bool false) hz rfl rfl ?_)
  show wpAny (model prog w) _ (field (.ref z) 3 >>= _) _ _ _
  refine wpAny_bind (wpAny_field (x := .ref ti) hz rfl rfl ?_)
  refine wpAny_bind (wpAny_seqItems hI rfl ?_)
  show wpAny (model prog w) _ (Builtin.SmallTypes.ownedTupleIsFree (.ref z) >>= _) _ _ _
  refine wpAny_bind ?_
  unfold Builtin.SmallTypes.ownedTupleIsFree
  refine wpAny_bind (wpAny_field (x := .none) hz rfl rfl (wpAny_pure ?_))
  simp only [if_true]
  refine wpAny_bind (wpAny_rule ?_)
  refine wpAny_bind (wpAny_field (x := .ref to) hz rfl rfl ?_)
  refine wpAny_bind (wpAny_setField_rec hz (by simp) fun g1 z1 b1 => ?_)
  have z1 : IsZip g1 z ti to .ellipsis := z1
  refine wpAny_bind ?_
  simp only [List.zipIdx_nil, List.zipIdx_cons, List.forIn_nil, List.forIn_cons]
  refine wpAny_bind (wpAny_bind (wpAny_onRaise ?_))
  show wpAny (model prog w) _ (Builtin.SmallTypes.nextOf (.ref j1) >>= _) _ _ _
  refine wpAny_bind (nx_item (h1.by fun o e => b1.extBut _ _ D.p e) (hl1.by fun o e => b1.extBut _ _ c1z e) hx fun g2 i2 b2 => wpAny_pure ?_)
  have o2 : IsPair g2 to u1 u2 := b2.extBut _ _ D.op (b1.extBut _ _ D.o hO)
  refine wpAny_bind (wpAny_seqItems o2 rfl ?_)
  refine wpAny_bind (wpAny_updateSeq_pair o2 fun g3 o3 b3 => ?_)
  have o3 : IsPair g3 to x u2 := o3
  refine wpAny_bind (wpAny_letGo (wpAny_pure ?_))
  refine wpAny_bind (wpAny_bind (wpAny_onRaise ?_))
  show wpAny (model prog w) _ (Builtin.SmallTypes.nextOf (.ref j2) >>= _) _ _ _
  refine wpAny_bind (nx_item (h2.by fun o e => b3.extBut _ _ D.oq.symm (b2.extBut _ _ D.pq.symm (b1.extBut _ _ D.q e))) (hl2.by fun o e => b3.extBut _ _ c2o (b2.extBut _ _ c2p (b1.extBut _ _ c2z e))) hy fun g4 i4 b4 => wpAny_pure ?_)
  have o4 : IsPair g4 to x u2 := b4.extBut _ _ D.oq o3
  refine wpAny_bind (wpAny_seqItems o4 rfl ?_)
  refine wpAny_bind (wpAny_updateSeq_pair o4 fun g5 o5 b5 => ?_)
  have o5 : IsPair g5 to x y := o5
  refine wpAny_bind (wpAny_letGo (wpAny_pure (wpAny_pure ?_)))
  refine wpAny_bind (wpAny_seqItems o5 rfl ?_)
  refine wpAny_bind (wpAny_newTuple ?_)
  have hsz : g5.objs.size = s.heap.objs.size := by rw [b5.1, b4.1, b3.1, b2.1, b1.1]
  have z5 : IsZip g5 z ti to .ellipsis := b5.extBut _ _ D.o.symm (b4.extBut _ _ D.q.symm (b3.extBut _ _ D.o.symm (b2.extBut _ _ D.p.symm z1)))
  have hk5 : ∀ c o, c ≠ z → c ≠ to → c ≠ j1 → c ≠ j2 → s.heap.get? c = some o → g5.get? c = some o := fun c o n1 n2 n3 n4 e => b5.extBut _ _ n2 (b4.extBut _ _ n4 (b3.extBut _ _ n2 (b2.extBut _ _ n3 (b1.extBut _ _ n1 e))))
  have i5 : ItAt k1 g5 j1 a1 (n + 1) := i2.by fun o e => b5.extBut _ _ D.op.symm (b4.extBut _ _ D.pq (b3.extBut _ _ D.op.symm e))
  have j5 : ItAt k2 g5 j2 a2 (n + 1) := i4.by fun o e => b5.extBut _ _ D.oq.symm e
  have zlt : z < g5.objs.size := Heap.lt_size z5
  show wpAny (model prog w) _ (Builtin.SmallTypes.ownedTupleHandOut (.ref z) (.ref g5.objs.size) >>= _) _ _ _
  refine wpAny_bind ?_
  unfold Builtin.SmallTypes.ownedTupleHandOut
  have z6 : IsZip (g5.push { cls := .type "tuple", data := .seq #[x, y] }) z ti to .ellipsis := Heap.get?_push_of_some _ z5
  refine wpAny_bind (wpAny_setField_rec z6 (by simp) fun g7 z7 b7 => ?_)
  have z7 : IsZip g7 z ti to (rawInt g5.objs.size) := z7
  refine wpAny_setField_rec z7 (by simp) fun g8 z8 b8 => ?_
  have z8 : IsZip g8 z ti to (rawInt g5.objs.size) := z8
  have up : ∀ c o, c ≠ z → g5.get? c = some o → g8.get? c = some o := fun c o n1 e => b8.extBut _ _ n1 (b7.extBut _ _ n1 (Heap.get?_push_of_some _ e))
  have t8 : IsPair g8 g5.objs.size x y := b8.extBut _ _ (Nat.ne_of_gt zlt) (b7.extBut _ _ (Nat.ne_of_gt zlt) (Heap.get?_push_size _ rfl))
  have s8 : g8.objs.size = g5.objs.size + 1 := by rw [b8.1, b7.1, Heap.size_push]
  rw [hsz] at z8 t8 s8
  refine wpAny_pure ⟨_, rfl, ?_⟩
  show Q (.ref g5.objs.size) _
  rw [hsz]
  exact hQ g8 ⟨z8, up _ _ D.i (hk5 _ _ D.i D.io D.ip D.iq hI), ⟨_, _, up _ _ D.o o5⟩, i5.by fun o e => up _ o D.p e, j5.by fun o e => up _ o D.q e⟩ t8 s8 fun c o n1 n2 n3 n4 e => up c o n1 (hk5 c o n1 n2 n3 n4 e)
theorem zp_end {k1 k2 : Bool} {z ti to j1 j2 a1 a2 : Addr} {n : Nat} {xs ys : Array Value} {Q : Fin → Shared → Prop} (hh : A.handled = none) (D : ZOff z ti to j1 j2 a1 a2) (S : ZSt k1 k2 s.heap z ti to j1 j2 a1 a2 .none n n)
    (hl1 : SeqIn k1 s.heap a1 xs) (hl2 : SeqIn k2 s.heap a2 ys) (hend : xs[n]? = none ∨ ys[n]? = none)
    (hE : ∀ h' e, (∀ c o, c ≠ z → c ≠ to → c ≠ j1 → c ≠ j2 → s.heap.get? c = some o → h'.get? c = some o) → (∃ o, h'.get? e = some o ∧ o.cls = .type "StopIteration") → E (.ref e) { s with heap := h' }) :
    wpAny (model prog w) A (Builtin.«zip.__next__» ⟨[.ref z], []⟩) Q E s := by
  obtain ⟨hz, hI, ⟨u1, u2, hO⟩, h1, h2⟩ := S
  obtain ⟨c1z, c1o, c1p, c1q⟩ := D.a a1 (.inl rfl)
  obtain ⟨c2z, c2o, c2p, c2q⟩ := D.a a2 (.inr rfl)
  show wpAny (model prog w) _ (field (.ref z) 2 >>= _) _ _ _
  refine wpAny_bind (wpAny_field (x := .bool false) hz rfl rfl ?_)
  show wpAny (model prog w) _ (field (.ref z) 3 >>= _) _ _ _
  refine wpAny_bind (wpAny_field (x := .ref ti) hz rfl rfl ?_)
  refine wpAny_bind (wpAny_seqItems hI rfl ?_)
  show wpAny (model prog w) _ (Builtin.SmallTypes.ownedTupleIsFree (.ref z) >>= _) _ _ _
  refine wpAny_bind ?_
  unfold Builtin.SmallTypes.ownedTupleIsFree
  refine wpAny_bind (wpAny_field (x := .none) hz rfl rfl (wpAny_pure ?_))
  simp only [if_true]
  refine wpAny_bind (wpAny_rule ?_)
  refine wpAny_bind (wpAny_field (x := .ref to) hz rfl rfl ?_)
  refine wpAny_bind (wpAny_setField_rec hz (by simp) fun g1 z1 b1 => ?_)
  have z1 : IsZip g1 z ti to .ellipsis := z1
  refine wpAny_bind ?_
  simp only [List.zipIdx_nil, List.zipIdx_cons, List.forIn_nil, List.forIn_cons]
  refine wpAny_bind (wpAny_bind (wpAny_onRaise ?_))
  show wpAny (model prog w) _ (Builtin.SmallTypes.nextOf (.ref j1) >>= _) _ _ _
  cases hx : xs[n]? with
  | none =>
    refine wpAny_bind (nx_end hh (h1.by fun o e => b1.extBut _ _ D.p e) (hl1.by fun o e => b1.extBut _ _ c1z e) hx fun g2 e b2 he => ?_)
    obtain ⟨oe, hoe, hce⟩ := he
    have z2 : IsZip g2 z ti to .ellipsis := b2 _ _ D.p.symm z1
    have ne : e ≠ z := fun (q : e = z) => by subst q; rw [z2] at hoe; cases hoe; simp at hce
    exact wpAny_setField_rec z2 (by simp) fun g3 _ b3 => hE g3 e (fun c o n1 _ n3 _ q => b3.extBut _ _ n1 (b2 _ _ n3 (b1.extBut _ _ n1 q))) ⟨oe, b3.extBut _ _ ne hoe, hce⟩
  | some x =>
    have hy : ys[n]? = none := hend.resolve_left (by rw [hx]; exact fun q => nomatch q)
    refine wpAny_bind (nx_item (h1.by fun o e => b1.extBut _ _ D.p e) (hl1.by fun o e => b1.extBut _ _ c1z e) hx fun g2 i2 b2 => wpAny_pure ?_)
    have o2 : IsPair g2 to u1 u2 := b2.extBut _ _ D.op (b1.extBut _ _ D.o hO)
    refine wpAny_bind (wpAny_seqItems o2 rfl ?_)
    refine wpAny_bind (wpAny_updateSeq_pair o2 fun g3 o3 b3 => ?_)
    refine wpAny_bind (wpAny_letGo (wpAny_pure ?_))
    refine wpAny_bind (wpAny_bind (wpAny_onRaise ?_))
    show wpAny (model prog w) _ (Builtin.SmallTypes.nextOf (.ref j2) >>= _) _ _ _
    refine wpAny_bind (nx_end hh (h2.by fun o e => b3.extBut _ _ D.oq.symm (b2.extBut _ _ D.pq.symm (b1.extBut _ _ D.q e))) (hl2.by fun o e => b3.extBut _ _ c2o (b2.extBut _ _ c2p (b1.extBut _ _ c2z e))) hy fun g4 e b4 he => ?_)
    obtain ⟨oe, hoe, hce⟩ := he
    have z4 : IsZip g4 z ti to .ellipsis := b4 _ _ D.q.symm (b3.extBut _ _ D.o.symm (b2.extBut _ _ D.p.symm z1))
    have ne : e ≠ z := fun (q : e = z) => by subst q; rw [z4] at hoe; cases hoe; simp at hce
    exact wpAny_setField_rec z4 (by simp) fun g5 _ b5 => hE g5 e (fun c o n1 n2 n3 n4 q => b5.extBut _ _ n1 (b4 _ _ n4 (b3.extBut _ _ n2 (b2.extBut _ _ n3 (b1.extBut _ _ n1 q))))) ⟨oe, b5.extBut _ _ ne hoe, hce⟩
end
section
variable {X : Cx} {pins : List (Addr × Obj)} {σ : List (Option V)} {H : Hp} {s : Shared} {h' : Heap}
theorem Inv.turnLaid {t' : Nat} {ch : List Addr} {a : Addr} {o : HO} (I : Inv X pins σ H s) (hf : ∀ b ∈ ch, FpOk X pins H b) (k : ∀ b u, b ∉ ch → s.heap.get? b = some u → h'.get? b = some u) (hp : s.heap.objs.size ≤ a) (new : ObjOk X.prog X.w (upd H a o) h' a o) :
    Inv X pins σ (upd H a o) { s with heap := h', toks := t' } := by
  have hn := I.hok.fresh hp
  have nch : ∀ b u, H b = some u → b ∉ ch := fun b u e z => by rw [(hf b z).1] at e; cases e
  refine I.step (g' := s.gens) (d' := s.drawn) (ch := ch) (fun b hb => ⟨(hf b hb).2.2.2.1, (hf b hb).2.1, (hf b hb).2.2.2.2.1, (hf b hb).2.2.2.2.2⟩) (fun b u _ _ hc e _ => k b u hc e) (fun b u _ _ hc e _ => ⟨u.slots, k b u hc e⟩)
    (fun b u _ e n => by rw [upd_ne (Nat.ne_of_lt (Nat.lt_of_lt_of_le (Heap.lt_size e) hp))]; exact n) (fun b u hc e => ⟨u, k b u hc e⟩) (fun b xs e => by rw [upd_ne (ne_of_none e hn)]; exact e) (fun b v u e => by rw [upd_ne (ne_of_none e hn)]; exact e)
    (fun b ps e => ⟨#[], by rw [upd_ne (ne_of_none e hn), e]; simp⟩) (fun m hm => ?_) (fun b u e => ?_) I.bare
  · obtain ⟨u, es, ep, ho, r⟩ := hm
    exact ⟨u, es, ep, k _ u (fun z => (hf _ z).2.1 rfl) ho, r⟩
  · by_cases hb : b = a
    · subst hb; rw [upd_same] at e; cases e; exact new
    · rw [upd_ne hb] at e
      refine (I.hok b u e).stay (fun c v hc q => k c v ?_ q) (fun c q => by rw [upd_ne (ne_of_none q hn)]; exact q) fun c xs q => by rw [upd_ne (ne_of_none q hn)]; exact q
      rcases hc with z | z
      · rw [z]; exact nch b u e
      · exact nch c _ z
theorem Inv.turnL {t' : Nat} {ch : List Addr} (I : Inv X pins σ H s) (hf : ∀ b ∈ ch, FpOk X pins H b) (k : ∀ b u, b ∉ ch → s.heap.get? b = some u → h'.get? b = some u) : Inv X pins σ H { s with heap := h', toks := t' } := by
  have nch : ∀ b u, H b = some u → b ∉ ch := fun b u e z => by rw [(hf b z).1] at e; cases e
  refine I.step (g' := s.gens) (d' := s.drawn) (ch := ch) (fun b hb => ⟨(hf b hb).2.2.2.1, (hf b hb).2.1, (hf b hb).2.2.2.2.1, (hf b hb).2.2.2.2.2⟩) (fun b u _ _ hc e _ => k b u hc e) (fun b u _ _ hc e _ => ⟨u.slots, k b u hc e⟩)
    (fun _ _ _ _ n => n) (fun b u hc e => ⟨u, k b u hc e⟩) (fun _ _ e => e) (fun _ _ _ e => e) (fun b ps e => ⟨#[], by rw [e]; simp⟩) (fun m hm => ?_) (fun b u e => ?_) I.bare
  · obtain ⟨u, es, ep, ho, r⟩ := hm
    exact ⟨u, es, ep, k _ u (fun z => (hf _ z).2.1 rfl) ho, r⟩
  · refine (I.hok b u e).stay (fun c v hc q => k c v ?_ q) (fun _ q => q) fun _ _ q => q
    rcases hc with z | z
    · rw [z]; exact nch b u e
    · exact nch c _ z
end
def SqK (K : W.Frag) (k : Bool) (H : Hp) (a : Addr) (xs : List V) : Prop := match k with | true => SqL K H a xs | false => SqT K H a xs
def Itz (K : W.Frag) (k1 k2 : Bool) (a1 a2 : Addr) : It :=
  ⟨fun i H => ∃ xs ys x y, SqK K k1 H a1 xs ∧ SqK K k2 H a2 ys ∧ xs[i]? = some x ∧ ys[i]? = some y,
   fun i H v H' => ∃ t x y, H t = none ∧ v = .ref t ∧ H' = upd H t (.tup [x, y]) ∧ (∀ xs, SqK K k1 H a1 xs → xs[i]? = some x) ∧ ∀ ys, SqK K k2 H a2 ys → ys[i]? = some y,
   fun i H => ∃ xs ys, SqK K k1 H a1 xs ∧ SqK K k2 H a2 ys ∧ (xs.length ≤ i ∨ ys.length ≤ i)⟩
theorem Inv.sqk {X : Cx} {pins : List (Addr × Obj)} {σ : St} {H : Hp} {s : Shared} (I : Inv X pins σ H s) {k : Bool} {a : Addr} {xs : List V} (h : SqK X.K k H a xs) : ∃ its, Vals xs its ∧ SeqIn k s.heap a its.toArray := by
  cases k
  · obtain ⟨its, r, p, _⟩ := I.tuple h
    exact ⟨its, r, p⟩
  · obtain ⟨its, r, p, _⟩ := I.list h
    exact ⟨its, r, p.isList⟩
theorem Inv.sqk_inj {X : Cx} {pins : List (Addr × Obj)} {σ : St} {H : Hp} {s : Shared} (I : Inv X pins σ H s) {k : Bool} {a : Addr} {xs ys : List V} (h : SqK X.K k H a xs) (h2 : SqK X.K k H a ys) : xs = ys := by
  cases k
  · exact I.tuple_inj h h2
  · exact I.list_inj h h2
theorem turn_zip {P : Program} {w : World} {K : W.Frag} {es : List Expr} {n : Nat} {pos : Pos} {k1 k2 : Bool} {z ti to j1 j2 a1 a2 : Addr} (D : ZOff z ti to j1 j2 a1 a2) :
    Turn P w K (.Tuple es n pos) (Itz K k1 k2 a1 a2) [z, ti, to, j1, j2] z (fun i h => ZSt k1 k2 h z ti to j1 j2 a1 a2 .none i i) where
  mem := by simp
  obj := fun i h st b hb => by
    obtain ⟨u1, u2, hO⟩ := st.o
    obtain ⟨o1, e1, _, d1⟩ := st.x
    obtain ⟨o2, e2, _, d2⟩ := st.y
    simp only [List.mem_cons, List.not_mem_nil, or_false] at hb
    rcases hb with rfl | rfl | rfl | rfl | rfl
    · exact ⟨_, st.z, fun v q => by have q' : Data.fields _ = Data.cell v := q; cases q'⟩
    · exact ⟨_, st.i, fun v q => by have q' : Data.seq _ _ = Data.cell v := q; cases q'⟩
    · exact ⟨_, hO, fun v q => by have q' : Data.seq _ _ = Data.cell v := q; cases q'⟩
    · exact ⟨_, e1, fun v q => by rw [d1] at q; cases q⟩
    · exact ⟨_, e2, fun v q => by rw [d2] at q; cases q⟩
  keep := fun i h h' st g => by
    obtain ⟨u1, u2, hO⟩ := st.o
    exact ⟨g z (by simp) _ st.z, g ti (by simp) _ st.i, ⟨u1, u2, g to (by simp) _ hO⟩, st.x.by fun o e => g j1 (by simp) o e, st.y.by fun o e => g j2 (by simp) o e⟩
  item := by
    intro X hP hw hK hc i pins s σ H E I hf st hg
    subst hP hw hK
    obtain ⟨xs, ys, x, y, hx, hy, ex, ey⟩ := hg
    obtain ⟨its, rv, p⟩ := I.sqk hx
    obtain ⟨jts, rw', p'⟩ := I.sqk hy
    obtain ⟨u, hu, ru⟩ := rv.get ex
    obtain ⟨v, hv, rv'⟩ := rw'.get ey
    have hT : s.TypeIs (.ref z) "zip" := ⟨_, st.z, rfl⟩
    unfold pyNext
    refine wpAny_bind (wpAny_attempt (wpAny_callSpecial?_slot (name := Str.ofString "__next__") hT F.slot_zip_next (wpAny_call_entry F.slot_zip_next hT F.entry_zip_next (zp_item D st p p' (by simpa using hu) (by simpa using hv) fun h1 st1 t1 z1 k1' => wpAny_pure ?_) (F.args_zip_next_1 _))))
    refine ⟨_, rfl, ?_⟩
    refine wpAny_letOwnedTupleGo_zip st1.z fun h2 z2 b2 => ?_
    obtain ⟨w1, w2, hO⟩ := st1.o
    have zlt : z < s.heap.objs.size := Heap.lt_size st.z
    have t2 : IsPair h2 s.heap.objs.size u v := b2.extBut _ _ (Nat.ne_of_gt zlt) t1
    refine ⟨.ref s.heap.objs.size, upd H s.heap.objs.size (.tup [x, y]), I.turnLaid (t' := s.toks) hf (fun b o hb e => ?_) (Nat.le_refl _) ⟨by show 2 ≤ sizeLine; decide, [u, v], .cons ru (.cons rv' .nil), ⟨_, t2, rfl, _, rfl⟩⟩, rfl, ?_, ?_, fun b hb => ?_⟩
    · have hb' : b ≠ z ∧ b ≠ ti ∧ b ≠ to ∧ b ≠ j1 ∧ b ≠ j2 := by simpa using hb
      exact b2.extBut _ _ hb'.1 (k1' b o hb'.1 hb'.2.2.1 hb'.2.2.2.1 hb'.2.2.2.2 e)
    · exact ⟨s.heap.objs.size, x, y, I.hok.fresh (Nat.le_refl _), rfl, rfl, fun zs hz => by rw [I.sqk_inj hz hx]; exact ex, fun zs hz => by rw [I.sqk_inj hz hy]; exact ey⟩
    · exact ⟨z2, b2.extBut _ _ D.i st1.i, ⟨_, _, b2.extBut _ _ D.o hO⟩, st1.x.by fun o e => b2.extBut _ _ D.p e, st1.y.by fun o e => b2.extBut _ _ D.q e⟩
    · have hlt : b < s.heap.objs.size := by
        obtain ⟨u1, u2, hO'⟩ := st.o
        obtain ⟨o1, e1, _⟩ := st.x
        obtain ⟨o2, e2, _⟩ := st.y
        simp only [List.mem_cons, List.not_mem_nil, or_false] at hb
        rcases hb with rfl | rfl | rfl | rfl | rfl
        · exact zlt
        · exact Heap.lt_size st.i
        · exact Heap.lt_size hO'
        · exact Heap.lt_size e1
        · exact Heap.lt_size e2
      rw [upd_ne (Nat.ne_of_lt hlt)]
      exact (hf b hb).1
  done := by
    intro X hP hw hK hc i pins s σ H E I hf st hg
    subst hP hw hK
    obtain ⟨xs, ys, hx, hy, he⟩ := hg
    obtain ⟨its, rv, p⟩ := I.sqk hx
    obtain ⟨jts, rw', p'⟩ := I.sqk hy
    have hT : s.TypeIs (.ref z) "zip" := ⟨_, st.z, rfl⟩
    have l1 := rv.length
    have l2 := rw'.length
    unfold pyNext
    refine wpAny_bind (wpAny_attempt (wpAny_callSpecial?_slot (name := Str.ofString "__next__") hT F.slot_zip_next (wpAny_call_entry F.slot_zip_next hT F.entry_zip_next (zp_end (I.ok.hd hc) D st p p' (he.imp (fun h => by simp; omega) (fun h => by simp; omega)) fun h1 e k1' hx' => ?_) (F.args_zip_next_1 _))))
    obtain ⟨o, ho, hcl⟩ := hx'
    refine wpAny_bind (wpAny_isInstance (T := "StopIteration") (b := true) ⟨o, ho, hcl⟩ isSubtype_stop ?_)
    refine wpAny_pure ⟨rfl, I.turnL (t' := s.toks) hf fun b u hb e' => ?_⟩
    have hb' : b ≠ z ∧ b ≠ ti ∧ b ≠ to ∧ b ≠ j1 ∧ b ≠ j2 := by simpa using hb
    exact k1' b u hb'.1 hb'.2.2.1 hb'.2.2.2.1 hb'.2.2.2.2 e'
  self := fun _ _ _ _ _ st h => wpAny_pyIter_zip st.z h
def zpH (k1 k2 : Bool) (h : Heap) (a1 a2 : Addr) : Heap :=
  ((((h.push (itObj k1 a1)).push (itObj k2 a2)).push { cls := .type "tuple", data := .seq #[.ref h.objs.size, .ref (h.objs.size + 1)] }).push { cls := .type "tuple", data := .seq #[.none, .none] }).push { cls := .type "zip", data := .fields #[.none, .bool false, .bool false, .ref (h.objs.size + 2), .ref (h.objs.size + 3)] }
theorem zp_new (k1 k2 : Bool) (a1 a2 : Addr) (xs ys : Array Value) :
    Meets (Builtin.«zip.__new__» ⟨[.type "zip", .ref a1, .ref a2], []⟩) (fun _ R s => SeqIn k1 s.heap a1 xs ∧ SeqIn k2 s.heap a2 ys ∧ R (.ok (.ret (.ref (s.heap.objs.size + 4)))) { s with heap := zpH k1 k2 s.heap a1 a2 }) :=
  .of_wp fun prog w A R s h => by
    obtain ⟨hp, g, d, tk, os⟩ := s; obtain ⟨hl1, hl2, h⟩ := h
    have hsub := sub_zip
    have L1 : SeqIn k1 (Shared.heap ⟨hp, g, d, tk, os⟩) a1 xs := hl1
    have L2 : SeqIn k2 (Shared.heap ⟨hp.push (itObj k1 a1), g, d, tk, os⟩) a2 ys := SeqIn.by hl2 fun o e => Heap.get?_push_of_some _ e
    wp_walk using it_new L1, it_new L2
    refine ⟨_, rfl, ?_⟩
    simp only [Heap.size_push]
    exact h
theorem zp_off {n a1 a2 : Addr} (h1 : a1 < n) (h2 : a2 < n) : ZOff (n + 4) (n + 2) (n + 3) n (n + 1) a1 a2 where
  i := Nat.ne_of_lt (Nat.add_lt_add_left (by decide) n)
  o := Nat.ne_of_lt (Nat.add_lt_add_left (by decide) n)
  p := Nat.ne_of_lt (Nat.lt_add_of_pos_right (by decide))
  q := Nat.ne_of_lt (Nat.add_lt_add_left (by decide) n)
  io := Nat.ne_of_lt (Nat.add_lt_add_left (by decide) n)
  ip := Nat.ne_of_gt (Nat.lt_add_of_pos_right (by decide))
  iq := Nat.ne_of_gt (Nat.add_lt_add_left (by decide) n)
  op := Nat.ne_of_gt (Nat.lt_add_of_pos_right (by decide))
  oq := Nat.ne_of_gt (Nat.add_lt_add_left (by decide) n)
  pq := Nat.ne_of_lt (Nat.lt_add_of_pos_right (by decide))
  a := fun b hb => by
    have hlt : b < n := by rcases hb with rfl | rfl <;> assumption
    exact ⟨Nat.ne_of_lt (Nat.lt_of_lt_of_le hlt (Nat.le_add_right n 4)), Nat.ne_of_lt (Nat.lt_of_lt_of_le hlt (Nat.le_add_right n 3)), Nat.ne_of_lt hlt, Nat.ne_of_lt (Nat.lt_of_lt_of_le hlt (Nat.le_add_right n 1))⟩
section
variable {prog : Program} {w : World} {A : Around} {E : Value → Shared → Prop} {s : Shared}
theorem zp_call {k1 k2 : Bool} {a1 a2 : Addr} {xs ys : Array Value} {Q : Value → Shared → Prop} (hl1 : SeqIn k1 s.heap a1 xs) (hl2 : SeqIn k2 s.heap a2 ys)
    (h : ∀ h', ZSt k1 k2 h' (s.heap.objs.size + 4) (s.heap.objs.size + 2) (s.heap.objs.size + 3) s.heap.objs.size (s.heap.objs.size + 1) a1 a2 .none 0 0 → (∀ c o, s.heap.get? c = some o → h'.get? c = some o) → Q (.ref (s.heap.objs.size + 4)) { s with heap := h' }) :
    wpAny (model prog w) A (call (.type "zip") [.ref a1, .ref a2]) Q E s := by
  refine callType_new F.called_zip (by decide) (F.typeCall_zip_2 _ _) (F.newCall_zip_2 _ _) (fun obj => F.args_object_init_3 obj _ _) F.entry_zip_new (zp_new k1 k2 a1 a2 xs ys) ⟨hl1, hl2, ?_⟩
  have n1 : (s.heap.push (itObj k1 a1)).objs.size = s.heap.objs.size + 1 := Heap.size_push ..
  have n2 : ((s.heap.push (itObj k1 a1)).push (itObj k2 a2)).objs.size = s.heap.objs.size + 2 := by rw [Heap.size_push, n1]
  have up : ∀ {o1 o2 o3 o4 o5 : Obj} {b : Addr} {o : Obj}, s.heap.get? b = some o → (((((s.heap.push o1).push o2).push o3).push o4).push o5).get? b = some o := fun e => Heap.get?_push_of_some _ (Heap.get?_push_of_some _ (Heap.get?_push_of_some _ (Heap.get?_push_of_some _ (Heap.get?_push_of_some _ e))))
  have at5 : ∀ {h0 : Heap} {o : Obj} {n : Nat}, h0.objs.size = n → o.isFreed = false → (h0.push o).get? n = some o := fun e f => by subst e; exact Heap.get?_push_size _ f
  have g1 : (zpH k1 k2 s.heap a1 a2).get? s.heap.objs.size = some (itObj k1 a1) := Heap.get?_push_of_some _ (Heap.get?_push_of_some _ (Heap.get?_push_of_some _ (Heap.get?_push_of_some _ (Heap.get?_push_size _ rfl))))
  have g2 : (zpH k1 k2 s.heap a1 a2).get? (s.heap.objs.size + 1) = some (itObj k2 a2) := Heap.get?_push_of_some _ (Heap.get?_push_of_some _ (Heap.get?_push_of_some _ (at5 n1 rfl)))
  have g3 : IsPair (zpH k1 k2 s.heap a1 a2) (s.heap.objs.size + 2) (.ref s.heap.objs.size) (.ref (s.heap.objs.size + 1)) := Heap.get?_push_of_some _ (Heap.get?_push_of_some _ (at5 n2 rfl))
  have g4 : IsPair (zpH k1 k2 s.heap a1 a2) (s.heap.objs.size + 3) .none .none := Heap.get?_push_of_some _ (at5 (by rw [Heap.size_push, n2]) rfl)
  have g5 : IsZip (zpH k1 k2 s.heap a1 a2) (s.heap.objs.size + 4) (s.heap.objs.size + 2) (s.heap.objs.size + 3) .none := at5 (by rw [Heap.size_push, Heap.size_push, n2]) rfl
  exact ⟨⟨_, g5, rfl⟩, h _ ⟨g5, g3, ⟨_, _, g4⟩, ⟨_, g1, rfl, rfl⟩, ⟨_, g2, rfl, rfl⟩⟩ fun c o e => up e⟩
end
section
variable {X : Cx} {a b : Expr} {ta tb : TE} {p pos tpos : Pos} {es : List Expr} {n : Nat}
def iZip (K : W.Frag) (ta tb : TE) : TI := fun σ H R => ta σ H fun x H1 => tb σ H1 fun y H2 => mR x fun a1 => mR y fun a2 => ∃ k1 k2 xs ys, SqK K k1 H2 a1 xs ∧ SqK K k2 H2 a2 ys ∧ R (Itz K k1 k2 a1 a2) H2
theorem boot_zip : bootBuiltins "zip" = some (.type "zip") := by decide +kernel
theorem pi_zip (hg : Gl X "zip") (hm : X.mg "zip" = none) (ha : PE X a ta) (hb : PE X b tb) (h1 : notStar a = true) (h2 : notStar b = true) : PI X (.Tuple es n tpos) (.Call (.Name "zip" p) [a, b] [] pos) (iZip X.K ta tb) := by
  intro pins s σ H R I h
  have hs : starEach [a, b] X.env = [(false, eval a X.env), (false, eval b X.env)] := by rw [star_cons h1, star_cons h2]; rfl
  have hs2 : starEach [b] X.env = [(false, eval b X.env)] := by rw [star_cons h2]; rfl
  have hA : PA X [a, b] (tCons ta (tCons tb tNil)) := a_cons ha (a_cons hb pa_nil h2) h1
  refine Call_ (ld_blt I hg hm boot_zip (PyProof.Rows.callWith_type1 (thn (hA pos pins s σ H (fun vs H2 => match vs with | [x, y] => (mR x fun a1 => mR y fun a2 => ∃ k1 k2 xs ys, SqK X.K k1 H2 a1 xs ∧ SqK X.K k2 H2 a2 ys ∧ R (Itz X.K k1 k2 a1 a2) H2) | _ => False) I ?_) fun us s1 ⟨vs, H1, I1, r1, q1⟩ => ?_) (by rw [hs, hs2]) (by rw [hs2]; rfl)))
  · exact h
  · dsimp only at q1
    split at q1
    rotate_left
    · exact q1.elim
    rename_i x y
    rw [mR_eq] at q1
    obtain ⟨a1, rfl, q1⟩ := q1
    rw [mR_eq] at q1
    obtain ⟨a2, rfl, k1, k2, xs, ys, q2, q3, q⟩ := q1
    cases r1 with
    | cons r rr =>
      cases rr with
      | cons r' rr =>
        cases rr
        cases r
        cases r'
        obtain ⟨its, rv, p1⟩ := I1.sqk q2
        obtain ⟨jts, rw', p2⟩ := I1.sqk q3
        refine zp_call p1 p2 fun h' S k => ?_
        have I2 : Inv X pins σ H1 { s1 with heap := h' } := I1.kept (t' := s1.toks) k
        refine wpAny_pyIter_zip (s := { s1 with heap := h' }) S.z ?_
        refine ⟨s1.heap.objs.size + 4, _, _, _, H1, rfl, I2, turn_zip (zp_off p1.lt p2.lt), S, fun b hb => ?_, q⟩
        have hb' : s1.heap.objs.size ≤ b := by
          simp only [List.mem_cons, List.not_mem_nil, or_false] at hb
          rcases hb with rfl | rfl | rfl | rfl | rfl
          · exact Nat.le_add_right _ 4
          · exact Nat.le_add_right _ 2
          · exact Nat.le_add_right _ 3
          · exact Nat.le_refl _
          · exact Nat.le_add_right _ 1
        exact I1.fpOk hb' (I1.hok.fresh hb')
theorem R.zip {K : W.Frag} (hg : Gl X "zip") (hm : X.mg "zip" = none) (ha : XE X a ta) (hb : XE X b tb) (hK : X.K = K := by rfl) (h1 : notStar a = true := by rfl) (h2 : notStar b = true := by rfl) : XI X (.Tuple es n tpos) (.Call (.Name "zip" p) [a, b] [] pos) (iZip K ta tb) :=
  hK ▸ ⟨pi_zip hg hm ha.h hb.h h1 h2⟩
end
theorem comp_zip {K : W.Frag} {k1 k2 : Bool} {a1 a2 : Addr} {xs ys : List V} {js : List (Option Nat)} {g : TG} {tt : TT} {te : TE} {σ : St} {H : Hp} {Q : List V → Hp → Prop} (hz : xs.length ≤ 100000) (Pv : Nat → List V → Hp → Prop) (hA : ∀ i zs H, Pv i zs H → SqK K k1 H a1 xs ∧ SqK K k2 H a2 ys ∧ zs.length ≤ i) (h0 : Pv 0 [] H)
    (hs : ∀ i x y zs H t, xs[i]? = some x → ys[i]? = some y → Pv i zs H → H t = none → g (.ref t) (stC js σ) (upd H t (.tup [x, y])) fun σ2 H2 => tt σ2 H2 fun b H3 => if b = true then te σ2 H3 fun v H4 => Pv (i + 1) (zs ++ [v]) H4 else Pv (i + 1) zs H3)
    (hd : ∀ zs H, Pv (min xs.length ys.length) zs H → Q zs H) : wComp js g tt te σ (Itz K k1 k2 a1 a2) H Q := by
  refine ⟨fun i m zs H => m = min xs.length ys.length - i ∧ i ≤ min xs.length ys.length ∧ Pv i zs H, ⟨_, rfl, Nat.zero_le _, h0⟩, ?_⟩
  rintro i m zs H ⟨rfl, hi, p⟩
  obtain ⟨q1, q2, q3⟩ := hA i zs H p
  by_cases hlt : i < min xs.length ys.length
  · have l1 : i < xs.length := Nat.lt_of_lt_of_le hlt (Nat.min_le_left _ _)
    have l2 : i < ys.length := Nat.lt_of_lt_of_le hlt (Nat.min_le_right _ _)
    refine .inr ⟨⟨xs, ys, xs[i], ys[i], q1, q2, by simp [l1], by simp [l2]⟩, Nat.lt_of_le_of_lt (m := 100000) (by omega) (by decide), Pv (i + 1), fun zs' H' p' => ⟨_, by omega, rfl, hlt, p'⟩, fun v H' y => ?_⟩
    obtain ⟨t, x, y, ht, rfl, rfl, e1, e2⟩ := y
    exact hs i x y zs H t (e1 xs q1) (e2 ys q2) p ht
  · have e : i = min xs.length ys.length := by omega
    subst e
    exact .inl ⟨⟨xs, ys, q1, q2, by omega⟩, hd zs H p⟩
end L2
namespace L2
open PySem PySem.Spec PyProof.Rows
section
variable {prog : Program} {w : World} {A : Around} {E : Value → Shared → Prop} {s : Shared}
end
section
variable {X : Cx} {e : Expr} {te : TE} {p p2 p3 pos pos2 pos3 : Pos}
end
end L2
namespace L2
open PySem PySem.Spec PyProof.Rows
section
variable {X : Cx}
def eqTup (xs ys : List V) : Bool := (List.range (min xs.length ys.length)).all (fun j => eqV (xs.getD j .non) (ys.getD j .non)) && xs.length == ys.length
def mEqF (neg : Bool) : R2 := fun x y H Q => mR x fun a => mR y fun b => ∃ xs ys, H a = some (.tup xs) ∧ H b = some (.tup ys) ∧ (∀ (j : Nat) (u v : V), xs[j]? = some u → ys[j]? = some v → flatV u = true ∧ flatV v = true) ∧ Q (.bl (if neg then !eqTup xs ys else eqTup xs ys)) H
theorem op_eqF (neg : Bool) (hu : X.A.units + 64 < cLine) : OpR X (compareOp (if neg then .NotEq else .Eq)) (mEqF neg) := by
  intro pins s σ H x y v u Q I rx ry h
  unfold mEqF at h
  rw [mR_eq] at h
  obtain ⟨a, rfl, h⟩ := h
  rw [mR_eq] at h
  obtain ⟨b, rfl, xs, ys, g1, g2, fl, q⟩ := h
  cases rx
  cases ry
  obtain ⟨its, ri, ti, _⟩ := I.tuple (SqT.of g1)
  obtain ⟨its2, ri2, ti2, _⟩ := I.tuple (SqT.of g2)
  have el1 : its.length = xs.length := ri.length.symm
  have el2 : its2.length = ys.length := ri2.length.symm
  have each : ∀ j (h1 : j < its.toArray.size) (h2 : j < its2.toArray.size), SeqAt.EqAt X.A.in1 s its.toArray[j] its2.toArray[j] (eqV (xs.getD j .non) (ys.getD j .non)) := fun j h1 h2 => by
    rw [List.size_toArray] at h1 h2
    obtain ⟨h1', q1⟩ := Paired.get' (j := j) ri h1
    obtain ⟨h2', q2⟩ := Paired.get' (j := j) ri2 h2
    obtain ⟨f1, f2⟩ := fl j xs[j] ys[j] (List.getElem?_eq_getElem h1') (List.getElem?_eq_getElem h2')
    have e1 : xs.getD j .non = xs[j] := by simp [List.getD, h1']
    have e2 : ys.getD j .non = ys[j] := by simp [List.getD, h2']
    rw [e1, e2]
    simpa using eqAt_V q1 q2 f1 f2
  have e : ((List.range (min its.toArray.size its2.toArray.size)).all (fun j => eqV (xs.getD j .non) (ys.getD j .non)) && its.toArray.size == its2.toArray.size) = eqTup xs ys := by
    rw [List.size_toArray, List.size_toArray, el1, el2]; rfl
  cases neg with
  | true =>
    have key := SeqAt.RcNeAt.tuples (A := X.A) (s := s) ti ti2 (by omega) each
    rw [e] at key
    exact key _ _ _ _ ⟨.bl _, H, I, rfl, q⟩
  | false =>
    have key := SeqAt.RcAt.tuples (A := X.A) (s := s) ti ti2 (by omega) each
    rw [e] at key
    exact key _ _ _ _ ⟨.bl _, H, I, rfl, q⟩
theorem R.eqF (hu : X.A.units + 64 < cLine) : XOp X (compareOp .Eq) (mEqF false) := ⟨op_eqF false hu⟩
end
section
variable {prog : Program} {w : World} {A : Around} {E : Value → Shared → Prop} {s : Shared}
end
section
variable {X : Cx}
end
end L2
namespace L2
open PySem PySem.Spec PyProof.Rows
end L2
namespace L2
open PySem PySem.Spec PyProof.Rows
section
variable {X : Cx} {o : Expr} {to : TE} {p pos apos cpos : Pos}
def rSetD : TSet := fun o i v H Q => ∃ a H', o = .ref a ∧ DPut H a i v H' ∧ Q H'
theorem set_dict (hu : X.A.units + 1 < cLine) : PSet X rSetD := by
  intro pins s σ H o i v ov iv u Q I ro ri rv h
  obtain ⟨a, H', rfl, g, q⟩ := h
  cases ro
  exact d_setItem hu I g ri rv fun s' I' => ⟨H', I', q⟩
theorem R.setD (hu : X.A.units + 1 < cLine) : XSet X rSetD := ⟨set_dict hu⟩
end
end L2
namespace L2
open PySem PySem.Spec PyProof.Rows
end L2
namespace L2
open PySem PySem.Spec PyProof.Rows
section
variable {X : Cx}
def CDivL (i j : Int) : Prop := 0 < j ∧ j < 2 ^ 64
theorem o_fdivL : OpR X (binaryOp .FloorDiv) (m2 CDivL fun i j => .int (i / j)) := (opI (C := CDivL) (g := fun i j => i / j) fun i j _ _ s Q E hc q => by
  have h1 : i.fdiv j = i / j := Int.fdiv_eq_ediv_of_nonneg _ (by have := hc.1; omega)
  refine floordiv_int (by have := hc.1; omega) (by rw [h1]; exact q) (.inl (PyProof.noPylong_of_log2 ?_))
  have h2 : j.natAbs < 2 ^ 64 := by have := hc.1; have := hc.2; omega
  exact Nat.lt_of_lt_of_le (Nat.log2_lt (by have := hc.1; omega) |>.mpr h2) (by decide)).imp m2_imp
theorem R.fdivL : XOp X (binaryOp .FloorDiv) (m2 CDivL fun i j => .int (i / j)) := ⟨o_fdivL⟩
end
def PenAt (H : Hp) (p : Addr) : Prop := ∃ i j : Int, H p = some (.lst [.int i, .int j]) ∧ 0 ≤ i ∧ 0 ≤ j ∧ j < 2147483629
def K1 (p : Addr) (H H' : Hp) : Prop := ∀ c o, H c = some o → c ≠ p → H' c = some o
theorem K1.trans {p : Addr} {H H1 H2 : Hp} (a : K1 p H H1) (b : K1 p H1 H2) : K1 p H H2 := fun c o e n => b c o (a c o e n) n
theorem K1.of {p : Addr} {H H1 : Hp} (a : Same H H1) : K1 p H H1 := fun c o e _ => a c o e
theorem PenAt.same {H H' : Hp} {p : Addr} (s : Same H H') (h : PenAt H p) : PenAt H' p := by
  obtain ⟨i, j, g, r⟩ := h
  exact ⟨i, j, s _ _ g, r⟩
theorem PenAt.ne {H : Hp} {p l : Addr} (h : PenAt H p) (hl : H l = none) : l ≠ p := fun z => by
  obtain ⟨i, j, g, r⟩ := h
  rw [z, g] at hl
  cases hl
def spPen : Sp := fun vs H Q _ => ∃ c k : Int, vs = [.int c, .int k] ∧ ∀ p H', H p = none → Same H H' → PenAt H' p → Q (.ref p) H'
def spTake : Sp := fun vs H Q _ => ∃ (p : Addr) (m : Int), vs = [.ref p, .int m] ∧ PenAt H p ∧ 0 < m ∧ m ≤ 10000000000000 ∧ ∀ r H', 0 ≤ r → r < m → PenAt H' p → K1 p H H' → Q (.int r) H'
def spCell (K : W.Frag) : Sp := fun vs H Q _ => ∃ (a : Addr) (ns : List Int) (k : Nat), vs = [.ref a, .int k] ∧ SqL K H a (ns.map V.int) ∧ ∀ c : Int, Q (.int c) H
def spNumber20 : Sp := fun vs H Q _ => ∃ (p : Addr) (lo hi : Int), vs = [.ref p, .int lo, .int hi] ∧ PenAt H p ∧ lo ≤ hi ∧ hi - lo < 10000000000000 ∧ ∀ n H', lo ≤ n → n ≤ hi → PenAt H' p → K1 p H H' → Q (.int n) H'
theorem K1.free {p l : Addr} {H H' : Hp} (k : K1 p H H') (pn : PenAt H' p) (h : H' l = none) : H l = none := by
  cases e : H l with
  | none => rfl
  | some o => rw [k _ _ e (pn.ne h)] at h; cases h
def sgn (cs : List Nat) (i : Int) : Nat := cs.getD i.toNat 0
theorem sgn_at {cs : List Nat} {i : Int} (h0 : 0 ≤ i) (h1 : i < cs.length) : atI cs i = some (sgn cs i) ∧ sgn cs i ∈ cs := by
  obtain ⟨j, rfl⟩ := Int.eq_ofNat_of_zero_le h0
  have hj : j < cs.length := by omega
  have e : sgn cs (j : Int) = cs[j] := by unfold sgn; simp [hj]
  rw [e]
  exact ⟨atI_nat (List.getElem?_eq_getElem hj), List.getElem_mem hj⟩
theorem nd_at {zs : List Str} (a : Nat) (c : Nat → Nat) (h : ∀ j z, zs[j]? = some z → z.cps.toList[a]? = some (c j)) (inj : ∀ j j', j < j' → j' < zs.length → c j ≠ c j') : zs.Nodup := by
  refine List.pairwise_iff_getElem.mpr fun i j hi hj hij e => ?_
  have e1 := h i _ (List.getElem?_eq_getElem hi)
  have e2 := h j _ (List.getElem?_eq_getElem hj)
  rw [e, e2] at e1
  exact inj i j hij hj (Option.some.inj e1).symm
theorem cps_tx (l : List Nat) : (tx l).cps.toList = l := by simp
def spNames20 : Sp := fun vs H Q _ => ∃ (p : Addr) (m : Nat), vs = [.ref p, .int m] ∧ PenAt H p ∧ m ≤ 6 ∧ ∀ (l : Addr) (zs : List Str) (H' : Hp), zs.length = m → (∀ z ∈ zs, isNm z) → zs.Nodup → H l = none → H' l = some (.lst (zs.map V.str)) → PenAt H' p → K1 p H H' → Q (.ref l) H'
theorem let_at : ∀ i, i < 26 → LET.getD i 0 = 97 + i := by decide +kernel
def stepOk (s : Int) : Prop := s = 1 ∨ s = 3 ∨ s = 5 ∨ s = 7 ∨ s = 9 ∨ s = 11
theorem let_inj {b s : Int} (hs : stepOk s) {j j' : Nat} (h : j < j') (h' : j' < 10) : sgn LET ((b + s * (j : Int)) % 26) ≠ sgn LET ((b + s * (j' : Int)) % 26) := fun e => by
  unfold sgn at e
  have a1 := Int.emod_nonneg (b + s * (j : Int)) (show (26 : Int) ≠ 0 by decide)
  have a2 := Int.emod_lt_of_pos (b + s * (j : Int)) (show (0 : Int) < 26 by decide)
  have b1 := Int.emod_nonneg (b + s * (j' : Int)) (show (26 : Int) ≠ 0 by decide)
  have b2 := Int.emod_lt_of_pos (b + s * (j' : Int)) (show (0 : Int) < 26 by decide)
  rw [let_at _ (by omega), let_at _ (by omega)] at e
  rcases hs with rfl | rfl | rfl | rfl | rfl | rfl <;> omega
def KLET : List Nat := LET ++ FIG
theorem klet_eq : (("abcdefghijklmnopqrstuvwxyz0123456789" : Str)).cps.toList = KLET := by decide +kernel
def isKy (z : Str) : Prop := 1 ≤ z.length ∧ z.length ≤ 12 ∧ ∀ c ∈ z.cps.toList, c ∈ KLET
def spKeys20 : Sp := fun vs H Q _ => ∃ (p : Addr) (m : Nat), vs = [.ref p, .int m] ∧ PenAt H p ∧ m ≤ 10 ∧ ∀ (l : Addr) (zs : List Str) (H' : Hp), zs.length = m → (∀ z ∈ zs, isKy z) → zs.Nodup → H l = none → H' l = some (.lst (zs.map V.str)) → PenAt H' p → K1 p H H' → Q (.ref l) H'
theorem klet_at : ∀ i, i < 36 → ∀ j, j < 36 → KLET.getD i 0 = KLET.getD j 0 → i = j := by decide +kernel
def stepOk2 (s : Int) : Prop := s = 1 ∨ s = 5 ∨ s = 7 ∨ s = 11 ∨ s = 13 ∨ s = 17
theorem klet_inj {b s : Int} (hs : stepOk2 s) {j j' : Nat} (h : j < j') (h' : j' < 12) : sgn KLET ((b + s * (j : Int)) % 36) ≠ sgn KLET ((b + s * (j' : Int)) % 36) := fun e => by
  unfold sgn at e
  have a1 := Int.emod_nonneg (b + s * (j : Int)) (show (36 : Int) ≠ 0 by decide)
  have a2 := Int.emod_lt_of_pos (b + s * (j : Int)) (show (0 : Int) < 36 by decide)
  have b1 := Int.emod_nonneg (b + s * (j' : Int)) (show (36 : Int) ≠ 0 by decide)
  have b2 := Int.emod_lt_of_pos (b + s * (j' : Int)) (show (0 : Int) < 36 by decide)
  have := klet_at _ (by omega) _ (by omega) e
  rcases hs with rfl | rfl | rfl | rfl | rfl | rfl <;> omega
def RowsOk (H : Hp) (rs : List (Addr × List Int)) : Prop := ∀ q ∈ rs, H q.1 = some (.lst (q.2.map V.int)) ∧ 1 ≤ q.2.length ∧ q.2.length ≤ 12 ∧ ∀ x ∈ q.2, 0 ≤ x ∧ x < 36
def kword (q : Addr × List Int) : Str := tx (q.2.map (sgn KLET))
theorem RowsOk.same {H H' : Hp} {rs : List (Addr × List Int)} (h : RowsOk H rs) (s : Same H H') : RowsOk H' rs := fun q hq => ⟨s _ _ (h q hq).1, (h q hq).2⟩
theorem RowsOk.k1 {H H' : Hp} {p : Addr} {rs : List (Addr × List Int)} (h : RowsOk H rs) (k : K1 p H H') (hp : ∀ q ∈ rs, q.1 ≠ p) : RowsOk H' rs := fun q hq => ⟨k _ _ (h q hq).1 (hp q hq), (h q hq).2⟩
theorem RowsOk.ky {H : Hp} {rs : List (Addr × List Int)} (h : RowsOk H rs) : ∀ q ∈ rs, isKy (kword q) := fun q hq => by
  obtain ⟨_, h1, h2, h3⟩ := h q hq
  unfold kword
  refine ⟨by rw [tx_len, List.length_map]; exact h1, by rw [tx_len, List.length_map]; exact h2, fun c hc => ?_⟩
  rw [cps_tx] at hc
  obtain ⟨i, hi, rfl⟩ := List.mem_map.mp hc
  exact (sgn_at (cs := KLET) (h3 i hi).1 (show i < 36 from (h3 i hi).2)).2
end L2
namespace L2
open PySem PySem.Spec PyProof.Rows
def Ite (K : W.Frag) (a : Addr) : It :=
  ⟨fun i H => ∃ xs x, SqL K H a xs ∧ xs[i]? = some x,
   fun i H v H' => ∃ t x, H t = none ∧ v = .ref t ∧ H' = upd H t (.tup [.int i, x]) ∧ ∀ xs, SqL K H a xs → xs[i]? = some x,
   fun i H => ∃ xs, SqL K H a xs ∧ xs.length ≤ i⟩
structure ESt (h : Heap) (e it a : Addr) (i : Nat) : Prop where
  e : ∃ old, IsEnum h e it i old
  i : h.IsListIter it a i
theorem turn_enum {P : Program} {w : World} {K : W.Frag} {es : List Expr} {n : Nat} {pos : Pos} {e it a : Addr} (hne : e ≠ it) (hea : a ≠ e) (hia : a ≠ it) :
    Turn P w K (.Tuple es n pos) (Ite K a) [e, it] e (fun i h => ESt h e it a i) where
  mem := by simp
  obj := fun i h st b hb => by
    obtain ⟨old, he⟩ := st.e
    obtain ⟨o1, e1, _, d1⟩ := st.i
    simp only [List.mem_cons, List.not_mem_nil, or_false] at hb
    rcases hb with rfl | rfl
    · exact ⟨_, he, fun v q => by have q' : Data.fields _ = Data.cell v := q; cases q'⟩
    · exact ⟨_, e1, fun v q => by rw [d1] at q; cases q⟩
  keep := fun i h h' st g => by
    obtain ⟨old, he⟩ := st.e
    obtain ⟨o1, e1, r⟩ := st.i
    exact ⟨⟨old, g e (by simp) _ he⟩, ⟨o1, g it (by simp) _ e1, r⟩⟩
  item := by
    intro X hP hw hK hc i pins s σ H E I hf st hg
    subst hP hw hK
    obtain ⟨xs, x, hx, ex⟩ := hg
    obtain ⟨its, rv, p, _⟩ := I.list hx
    obtain ⟨u, hu, ru⟩ := rv.get ex
    obtain ⟨old, he⟩ := st.e
    refine wpAny_pyNext_enum_item he st.i p.isList (by simpa using hu) hne fun h1 e1 i1 t1 z1 k1 => ?_
    refine ⟨_, rfl, ?_⟩
    refine wpAny_letOwnedTupleGo_enum e1 fun h2 e2 b2 => ?_
    have elt : e < s.heap.objs.size := Heap.lt_size he
    have t2 : h2.get? s.heap.objs.size = some { cls := .type "tuple", data := .seq #[.int i s.toks, u] } := b2.extBut _ _ (Nat.ne_of_gt elt) t1
    refine ⟨.ref s.heap.objs.size, upd H s.heap.objs.size (.tup [.int i, x]), I.turnLaid (t' := s.toks + 1) hf (fun b o hb e' => ?_) (Nat.le_refl _) ⟨by show 2 ≤ sizeLine; decide, [.int i s.toks, u], .cons ⟨_, rfl⟩ (.cons ru .nil), ⟨_, t2, rfl, _, rfl⟩⟩, rfl, ?_, ?_, fun b hb => ?_⟩
    · have hb' : b ≠ e ∧ b ≠ it := by simpa using hb
      exact b2.extBut _ _ hb'.1 (k1 b o hb'.1 hb'.2 e')
    · exact ⟨s.heap.objs.size, x, I.hok.fresh (Nat.le_refl _), rfl, rfl, fun zs hz => by rw [I.list_inj hz hx]; exact ex⟩
    · obtain ⟨o1, q1, r1⟩ := i1
      exact ⟨⟨_, by simpa using e2⟩, ⟨o1, b2.extBut _ _ hne.symm q1, r1⟩⟩
    · have hlt : b < s.heap.objs.size := by
        obtain ⟨o1, q1, r1⟩ := st.i
        simp only [List.mem_cons, List.not_mem_nil, or_false] at hb
        rcases hb with rfl | rfl
        · exact elt
        · exact Heap.lt_size q1
      rw [upd_ne (Nat.ne_of_lt hlt)]
      exact (hf b hb).1
  done := by
    intro X hP hw hK hc i pins s σ H E I hf st hg
    subst hP hw hK
    obtain ⟨xs, hx, hl⟩ := hg
    obtain ⟨its, rv, p, _⟩ := I.list hx
    obtain ⟨old, he⟩ := st.e
    have l1 := rv.length
    refine wpAny_pyNext_enum_end (I.ok.hd hc) he st.i p.isList (by simp; omega) fun h1 k1 => ?_
    refine ⟨rfl, I.turnL (t' := s.toks) hf fun b u hb e' => ?_⟩
    have hb' : b ≠ e ∧ b ≠ it := by simpa using hb
    exact k1 b u hb'.2 e'
  self := fun _ _ _ _ _ st h => by
    obtain ⟨old, he⟩ := st.e
    exact wpAny_pyIter_enum he h
section
variable {X : Cx} {a b : Expr} {ta tb : TE} {p pos tpos : Pos} {es : List Expr} {n : Nat}
def iEnum (K : W.Frag) (ta : TE) : TI := fun σ H R => ta σ H fun x H1 => mR x fun a => ∃ xs, SqL K H1 a xs ∧ R (Ite K a) H1
theorem pi_enum (hg : Gl X "enumerate") (hm : X.mg "enumerate" = none) (ha : PE X a ta) (h1 : notStar a = true) : PI X (.Tuple es n tpos) (.Call (.Name "enumerate" p) [a] [] pos) (iEnum X.K ta) := by
  intro pins s σ H R I h
  have hs : starEach [a] X.env = [(false, eval a X.env)] := by rw [star_cons h1]; rfl
  have hA : PA X [a] (tCons ta tNil) := a_cons ha pa_nil h1
  refine Call_ (ld_blt I hg hm boot_enumerate (PyProof.Rows.callWith_type1 (thn (hA pos pins s σ H (fun vs H2 => match vs with | [x] => (mR x fun a1 => ∃ xs, SqL X.K H2 a1 xs ∧ R (Ite X.K a1) H2) | _ => False) I ?_) fun us s1 ⟨vs, H1, I1, r1, q1⟩ => ?_) (by rw [hs]; rfl) rfl))
  · exact h
  · dsimp only at q1
    split at q1
    rotate_left
    · exact q1.elim
    rename_i x
    rw [mR_eq] at q1
    obtain ⟨a1, rfl, xs, q2, q⟩ := q1
    cases r1 with
    | cons r rr =>
      cases rr
      cases r
      obtain ⟨its, rv, p1, _⟩ := I1.list q2
      refine call_enumerate_list p1.isList fun h' he hi hz k => ?_
      have I2 : Inv X pins σ H1 { s1 with heap := h' } := I1.kept (t' := s1.toks) k
      have la : a1 < s1.heap.objs.size := by
        obtain ⟨o, e', _⟩ := p1.isList
        exact Heap.lt_size e'
      refine wpAny_pyIter_enum (s := { s1 with heap := h' }) he ?_
      refine ⟨s1.heap.objs.size + 1, _, _, _, H1, rfl, I2, turn_enum (Nat.ne_of_gt (Nat.lt_succ_self _)) (Nat.ne_of_lt (Nat.lt_succ_of_lt la)) (Nat.ne_of_lt la), ⟨⟨_, he⟩, hi⟩, fun b hb => ?_, q⟩
      have hb' : s1.heap.objs.size ≤ b := by
        simp only [List.mem_cons, List.not_mem_nil, or_false] at hb
        rcases hb with rfl | rfl
        · exact Nat.le_add_right _ 1
        · exact Nat.le_refl _
      exact I1.fpOk hb' (I1.hok.fresh hb')
theorem R.enum {K : W.Frag} (hg : Gl X "enumerate") (hm : X.mg "enumerate" = none) (ha : XE X a ta) (hK : X.K = K := by rfl) (h1 : notStar a = true := by rfl) : XI X (.Tuple es n tpos) (.Call (.Name "enumerate" p) [a] [] pos) (iEnum K ta) :=
  hK ▸ ⟨pi_enum hg hm ha.h h1⟩
end
theorem for_enum {K : W.Frag} {a : Addr} {xs : List V} {g : TG} {tb : TS} {D : Ends} {σ : St} {H : Hp} (Pv : Nat → St → Hp → Prop) (hA : ∀ i σ H, Pv i σ H → SqL K H a xs) (h0 : Pv 0 σ H)
    (hs : ∀ (i : Nat) (x : V) σ H t, xs[i]? = some x → Pv i σ H → H t = none → g (.ref t) σ (upd H t (.tup [.int i, x])) fun σ2 H2 => tb { D with nx := Pv (i + 1), ct := Pv (i + 1), bk := D.nx } σ2 H2) (hd : ∀ σ H, Pv xs.length σ H → D.nx σ H) :
    ∃ W : Nat → Nat → St → Hp → Prop, (∃ m, W 0 m σ H) ∧ ∀ i m σ H, W i m σ H →
      ((Ite K a).stop i H ∧ D.nx σ H) ∨ ((Ite K a).go i H ∧ ∃ N : St → Hp → Prop, (∀ σ' H', N σ' H' → ∃ m', m' < m ∧ W (i + 1) m' σ' H') ∧ ∀ x H', (Ite K a).yld i H x H' → g x σ H' fun σ2 H2 => tb { D with nx := N, ct := N, bk := D.nx } σ2 H2) := by
  refine ⟨fun i m σ H => m = xs.length - i ∧ i ≤ xs.length ∧ Pv i σ H, ⟨_, rfl, Nat.zero_le _, h0⟩, ?_⟩
  rintro i m σ H ⟨rfl, hi, p⟩
  have q1 := hA i σ H p
  by_cases hlt : i < xs.length
  · refine .inr ⟨⟨xs, xs[i], q1, List.getElem?_eq_getElem hlt⟩, Pv (i + 1), fun σ' H' n => ⟨xs.length - (i + 1), by omega, rfl, hlt, n⟩, ?_⟩
    rintro v H' ⟨t, x, ht, rfl, rfl, e1⟩
    exact hs i x σ H t (e1 xs q1) p ht
  · have : i = xs.length := by omega
    subst this
    exact .inl ⟨⟨xs, q1, Nat.le_refl _⟩, hd σ H p⟩
end L2
namespace L2
open PySem PySem.Spec PyProof.Rows
section
variable {X : Cx} {pins : List (Addr × Obj)} {σ : St} {H : Hp} {s : Shared} {A : Around} {E : Value → Shared → Prop}
theorem isinst_tup {x : V} {u : Value} {k : Kd} {b : Bool} {t : Addr} {dd : Option Addr} {its : List Value} {n : Nat} {sl : Array (Option Value)} {Q : Value → Shared → Prop} (I : Inv X pins σ H s) (rx : RelV x u) (hk : Kof H x k)
    (ht : s.heap.get? t = some ⟨.type "tuple", dd, .seq its.toArray n, sl⟩) (e : W.kitAny X.K (.type (kdT k)) its = some b) (h : ∀ tk, Q (.bool b) { s with toks := tk }) :
    wpAny (model X.prog X.w) A (call (.builtin "isinstance") [u, .ref t]) Q E s := by
  cases x with
  | non => cases k <;> first | exact hk.elim | (cases (show u = Value.none from rx); exact W.kia_tup W.kitx_none I.kIn True.intro ht e (fun z => nomatch z) h)
  | bl y => cases k <;> first | exact hk.elim | (cases (show u = Value.bool y from rx); exact W.kia_tup W.kitx_bool I.kIn True.intro ht e (fun z => nomatch z) h)
  | int i => cases k <;> first | exact hk.elim | (obtain ⟨t, q⟩ := (show ∃ t, u = Value.int i t from rx); cases q; exact W.kia_tup W.kitx_int I.kIn True.intro ht e (fun z => nomatch z) h)
  | str y => cases k <;> first | exact hk.elim | (obtain ⟨t, q⟩ := (show ∃ t, u = Value.str y t from rx); cases q; exact W.kia_tup W.kitx_str I.kIn True.intro ht e (fun z => nomatch z) h)
  | ref a =>
    cases (show u = Value.ref a from rx)
    cases k with
    | lst =>
      rcases hk with ⟨xs, ea⟩ | ⟨ob, xs, ea⟩
      · obtain ⟨_, _, n, _, h1⟩ := (show ObjOk X.prog X.w H s.heap a (.lst xs) from I.hok a _ ea)
        exact W.kia_tup W.kitx_list I.kIn ⟨_, h1, rfl⟩ ht e (fun z => nomatch z) h
      · obtain ⟨_, _, _, n, _, h1⟩ := (show ObjOk X.prog X.w H s.heap a (.frz ob (.lst xs)) from I.hok a _ ea)
        exact W.kia_tup W.kitx_list I.kIn ⟨_, h1, rfl⟩ ht e (fun z => nomatch z) h
    | tup =>
      obtain ⟨xs, ea⟩ := hk
      obtain ⟨_, _, _, p⟩ := (show ObjOk X.prog X.w H s.heap a (.tup xs) from I.hok a _ ea)
      obtain ⟨o, h1, h2, _⟩ := p
      exact W.kia_tup W.kitx_tuple I.kIn ⟨o, h1, h2⟩ ht e (fun z => nomatch z) h
    | dct =>
      obtain ⟨kvs, ea⟩ := hk
      obtain ⟨_, _, vs, _, p⟩ := (show ObjOk X.prog X.w H s.heap a (.dK kvs) from I.hok a _ ea)
      obtain ⟨o, es, ep, h1, h2, _⟩ := p
      exact W.kia_tup W.kitx_dict I.kIn ⟨o, h1, h2.1⟩ ht e (fun z => nomatch z) h
    | _ => exact hk.elim
  | _ => cases k <;> exact hk.elim
def mIsLT : List V → Hp → VK → Prop := fun vs H Q => match vs with
  | [x, .ref t] => H t = some (.tup [.ty "list", .ty "tuple"]) ∧ ∃ k, Kof H x k ∧ Q (.bl (isK .lst k || isK .tup k)) H
  | _ => False
theorem kit_LT (K : W.Frag) (k : Kd) : W.kitAny K (.type (kdT k)) [.type "list", .type "tuple"] = some (isK .lst k || isK .tup k) := by
  unfold W.kitAny
  rw [show W.kitOne K (.type (kdT k)) (.type "list") = some (isK .lst k) from kit_K K .lst k]
  cases k <;> first
    | rfl
    | (show W.kitAny K _ [.type "tuple"] = _
       unfold W.kitAny
       first
         | rw [show W.kitOne K (.type (kdT .tup)) (.type "tuple") = some true from kit_K K .tup .tup]; rfl
         | (rw [show W.kitOne K _ (.type "tuple") = some false from kit_K K .tup _]; rfl))
theorem c_isLT : CallR X (.builtin "isinstance") mIsLT := by
  intro pins s σ H xs us Q I r h
  unfold mIsLT at h
  split at h
  · rename_i x t
    obtain ⟨ht, k, hk, q⟩ := h
    cases r with
    | cons ra r2 =>
      cases r2 with
      | cons rc r3 =>
        cases r3
        cases rc
        obtain ⟨_, its, rv, ⟨ot, hto, hc, n, hd⟩⟩ := (show ObjOk X.prog X.w H s.heap t (.tup [.ty "list", .ty "tuple"]) from I.hok t _ ht)
        obtain ⟨c0, dd, dat, sl⟩ := ot
        dsimp only at hc hd
        subst hc hd
        cases rv with
        | cons r1 rv =>
          cases rv with
          | cons r2 rv =>
            cases rv
            cases (show _ = Value.type "list" from r1)
            cases (show _ = Value.type "tuple" from r2)
            exact isinst_tup I ra hk hto (kit_LT _ k) fun tk => ⟨.bl _, H, I.tok _, rfl, q⟩
  · exact h.elim
theorem R.isLT : XC X (.builtin "isinstance") mIsLT := ⟨c_isLT⟩
end
def okT : Nat → TV → Prop
  | n + 1, .tp ts => ts.length ≤ 1000 ∧ ∀ t ∈ ts, okT n t
  | n + 1, .ls ts => ts.length ≤ 1000 ∧ ∀ t ∈ ts, okT n t
  | _, .sc (.bl _) => False
  | _, _ => True
def spSame (n : Nat) : Sp := fun vs H Q _ => ∃ x y t, vs = [x, y] ∧ Rep H n t x ∧ Rep H n t y ∧ okT n t ∧ ∀ H', Same H H' → Q (.bl true) H'
end L2
namespace L2
open PySem PySem.Spec PyProof.Rows
section
variable {X : Cx} {o e f e1 : Expr} {td te ty tx : TE} {p2 pos apos cpos : Pos}
end
end L2
namespace L2
open PySem PySem.Spec PyProof.Rows
section
variable {prog : Program} {w : World} {A : Around} {E : Value → Shared → Prop} {s : Shared}
theorem eqBool_same {a : Value} {Q : Bool → Shared → Prop} (ha : (a == a) = true) (h : Q true s) : wpAny (model prog w) A (eqBool a a) Q E s := by
  unfold eqBool
  refine wpAny_holding ?_
  rw [if_pos ha]
  exact wpAny_bind (wpAny_rule (wpAny_pure h))
theorem val_same (a : Value) : (a == a) = true := beq_self_eq_true a
theorem lex_same {b fin : Bool} {Q : Bool → Shared → Prop} : ∀ (l : List Value) (i : Nat), Q fin s → W.KatLex prog w A b fin Q (l.zip l) i s
  | [], i, h => W.kat_nil h
  | x :: l, i, h => W.kat_cons (eqBool_same (val_same x) (W.kat_yes (lex_same l (i + 1) h)))
end
section
variable {X : Cx} {pins : List (Addr × Obj)} {σ : St} {H : Hp} {s : Shared}
end
end L2
namespace L2
open PySem PySem.Spec PyProof.Rows
section
variable {X : Cx} {CX : CXT} {k : Nat} {f C : Addr} {fd : FuncData} {ps : List Str} {sp : Sp} {E : XK} {x ky : Str} {p pos kpos : Pos} {e : Expr} {te : TE} {dvs : List V} {ds : List Value}
end
end L2
namespace L2
open PySem PySem.Spec PyProof.Rows
end L2
namespace L2
open PySem PySem.Spec PyProof.Rows
section
variable {P : Program} {w : World} {K : W.Frag} {mg : Str → Option Value} {base : Heap}
end
section
variable {X : Cx} {x : Str} {n : Nat} {ps : List Str} {sp : Sp} {e : Expr} {es : List Expr} {t : TA} {p pos : Pos}
end
structure MthX (P : Program) (w : World) (K : W.Frag) (mg : Str → Option Value) (base : Heap) (n : Nat) (C : Addr) (m : Str) (ps : List Str) (sp : Sp) : Prop where
  ex : ∃ f fd, Cls K C ∧ Meth K C m f ∧ FnOk P w K mg base (CXf P w) n f fd ps sp ∧ Binds K fd ps []
theorem MethAt.goX {P : Program} {w : World} {K : W.Frag} {mg : Str → Option Value} {base : Heap} {C : Addr} {m qual : Str} {st : Stmt} {N ps : List Str} {k : Nat} {sp : Sp} (D : MethAt K C m qual st ps) (S : FnScope N ps (defScope st)) (len : ∀ vs H Q E, sp vs H Q E → vs.length = ps.length)
    (hbody : ∀ (f : Addr) (cdv : Value) (A : Around) (outer : List Env) (s : Shared) (H : Hp) (vs : List V) (Q : VK) (E : XK), Room k (A.deeper (envOfC qual (defScope st) s.heap.objs.size f cdv)) → sp vs H Q E →
      ∃ t, XB (cxOf (CXf P w) P w K mg base N qual (defScope st) f cdv A outer s H E) (defBody st) t ∧ t { nx := fun _ H' => Q .non H', rt := Q } (start N vs) H) : MthX P w K mg base (k + 1) C m ps sp := by
  obtain ⟨f, fd, F, hm, hb⟩ := D.ex
  refine ⟨f, fd, D.cl, hm, ?_, hb⟩
  obtain ⟨oc, od, kV, doc, pm, an, cdv, ct, osl, rfl, lk, hcd⟩ := F.ex
  refine fn_of lk hcd S len fun A outer s H vs Q E hr hsp => ?_
  obtain ⟨t, h, q⟩ := hbody f cdv A outer s H vs Q E hr hsp
  exact ⟨t, h.h, q⟩
def mMethX (C : Addr) (m : Str) (sp : Sp) (Ex : St → Value → Option Addr → Hp → Prop) (ta : TE) (t : TA) : TE := fun σ H Q => ta σ H fun x H1 => mR x fun a => ∃ dx fs, H1 a = some (.ins C dx fs) ∧ fs.lookup m = none ∧ t σ H1 fun vs H2 => sp (.ref a :: vs) H2 Q (fun cls od H' => Ex σ cls od H')
section
variable {X : Cx} {e o : Expr} {es : List Expr} {m x : Str} {p pos apos : Pos} {ta : TE} {t : TA} {C : Addr} {n : Nat} {ps : List Str} {sp : Sp} {Ex : St → Value → Option Addr → Hp → Prop}
theorem pe_mmethX {pl : Sem Bool} (he : PE X o ta) (c : MthX X.prog X.w X.K X.mg X.base n C m ps sp) (hr : Room n X.A) (hx : Takes X Ex) (ha : PA X (e :: es) t) (hs : notStar e = true) (hpl : (backTo pos (starEach es X.env)).any (·.1) = false)
    (ht : eval (.Call (.Attribute o m apos) (e :: es) [] pos) X.env = (do
      let ov ← eval o X.env
      standAt apos.atName
      let (f, first) ← holding [ov] (getMethod ov m pl)
      callWith pos f first (backTo pos (starEach (e :: es) X.env)) (backToKw pos (keywordEach [] X.env)))) :
    PE X (.Call (.Attribute o m apos) (e :: es) [] pos) (mMethX C m sp Ex ta t) := by
  obtain ⟨f, fd, cl, hm, F, hb⟩ := c.ex
  intro pins s σ H Q I h
  refine W.methodCall_KW (pl := pl) (thn (he pins s σ H _ I h) fun u s1 ⟨x, H1, I1, rx, q1⟩ => ?_) ht
  dsimp only at q1
  rw [mR_eq] at q1
  obtain ⟨a, rfl, dx, fs, ea, l, q⟩ := q1
  obtain rfl : u = Value.ref a := rx
  refine getmeth_ok I1 ea cl hm l ?_
  refine W.callWith_K (first := [.ref a]) (h₀ := X.base) I.ok.mod.kin hm.kp (thn (ha pos pins s1 σ H1 _ I1 q) fun us s2 ⟨vs, H2, I2, r, q2⟩ => ⟨I2.kIn, ?_⟩) (star_cons hs) hpl
  have r2 : Vals (V.ref a :: vs) (Value.ref a :: us) := .cons rfl r
  have hl : (Value.ref a :: us).length = ps.length := by rw [← r2.length]; exact F.len _ _ _ _ q2
  have hb' := hb s2 (Value.ref a :: us) I2.kIn (by rw [List.append_nil]; exact hl)
  rw [List.append_nil] at hb'
  refine wpAny_call (codeAny_mono (F.run X.A X.stack s2 H2 ⟨Value.ref a :: us, []⟩ (Value.ref a :: us) (V.ref a :: vs) Q _ hr I2.env0 hb' r2 q2) fun rs s' hq => ?_)
  cases rs with
  | error e' => exact hx pins σ H2 s2 e' s' I2 hq
  | ok fl =>
    cases fl with
    | ret u => exact I2.after hq
    | next => exact False.elim hq
    | brk => exact False.elim hq
    | cont => exact False.elim hq
namespace R
theorem methX {pl : Sem Bool} (c : MthX X.prog X.w X.K X.mg X.base n C m ps sp) (hr : Room n X.A) (hx : Takes X Ex) (he : XE X o ta) (ha : XA X (e :: es) t) (hs : notStar e = true := by rfl) (h2 : es.all notStar = true := by rfl)
    (ht : eval (.Call (.Attribute o m apos) (e :: es) [] pos) X.env = (do
      let ov ← eval o X.env
      standAt apos.atName
      let (f, first) ← holding [ov] (getMethod ov m pl)
      callWith pos f first (backTo pos (starEach (e :: es) X.env)) (backToKw pos (keywordEach [] X.env))) := by rfl) : XE X (.Call (.Attribute o m apos) (e :: es) [] pos) (mMethX C m sp Ex ta t) := ⟨pe_mmethX he.h c hr hx ha.h hs (star_any h2) ht⟩
end R
end
end L2
namespace L2
open PySem PySem.Spec PyProof.Rows
section
variable {X : Cx} {pins : List (Addr × Obj)} {σ : St} {H : Hp} {s : Shared} {a : Addr} {o : Obj} {kvs : List (Key × V)}
end
namespace R
section
variable {X : Cx} {tg l : Expr} {tl : TE} {apos cpos : Pos} {e : Stmt} {t : TS}
end
end R
end L2
namespace L2
open PySem PySem.Spec PyProof.Rows
section
variable {P : Program} {w : World} {K : W.Frag} {mg : Str → Option Value} {base : Heap} {N : List Str} {qual : Str} {scope : Scope} {f : Addr} {cd : Value} {A : Around} {outer : List Env} {s : Shared} {H : Hp} {E : XK}
theorem takes_pass (hf : (envOfC qual scope s.heap.objs.size f cd).frame = some (envOfC qual scope s.heap.objs.size f cd).locals := by rfl) :
    Takes (cxOf (CXf P w) P w K mg base N qual scope f cd A outer s H E) (fun _ cls od H' => E cls od H') := by
  intro pins σ H0 s0 e s' I0 h
  obtain ⟨a, cls, od, H', rfl, F, hE⟩ := h
  show wpAny (model P w) (A.deeper (envOfC qual scope s.heap.objs.size f cd)) (leaving (envOfC qual scope s.heap.objs.size f cd) (.ref a)) (fun _ s'' => CXf P w outer H s E (.ref a) s'') (fun e' s'' => CXf P w outer H s E e' s'') s'
  unfold leaving
  refine wpAny_bind (fly_note I0 F I0.ok.frames rfl hf fun s2 F2 => ?_)
  refine fly_land I0 F2 fun s3 F3 => ?_
  have I3 := F3.inv I0
  have und : Un (frs outer) [] H H0 s.heap s0.heap := I0.base
  have low : ∀ {c : Addr}, s0.heap.get? c = none → s.heap.get? c = none := fun {c} hc => by
    cases z : s.heap.get? c with
    | none => rfl
    | some ob =>
      obtain ⟨o', y⟩ := und.there c ob z (by simp)
      rw [hc] at y
      cases y
  obtain ⟨T, tr, nT, hT⟩ := F3.tr
  exact ⟨a, cls, od, H', rfl, ⟨low F3.na, I3.os, I3.bare, I3.base, F3.hok, F3.ha, ⟨T, tr, low nT, hT⟩, F3.dd⟩, hE⟩
end
end L2
namespace L2
open PySem PySem.Spec PyProof.Rows
section
variable {prog : Program} {w : World} {K : Type} [DecidableEq K] {knd : HeapKind prog w K} {A : Around} {E : Value → Shared → Prop} {s : Shared} {d a : Addr} {k : K}
def dropH (xs : List (K × Addr × Value)) (k : K) : List (K × Addr × Value) := xs.filter fun x => decide (x.1 ≠ k)
theorem dropH_no {xs : List (K × Addr × Value)} (h : k ∉ xs.map (·.1)) : dropH xs k = xs := by
  unfold dropH
  rw [List.filter_eq_self]
  intro x hx
  exact decide_eq_true fun e => h (List.mem_map.mpr ⟨x, hx, e⟩)
theorem dropH_erase : ∀ {xs : List (K × Addr × Value)} {j : Nat} {p : Addr × Value}, (xs.map (·.1)).Nodup → xs[j]? = some (k, p) → dropH xs k = xs.eraseIdx j
  | [], j, p, _, h => by simp at h
  | x :: r, 0, p, hn, h => by
    rw [List.map_cons, List.nodup_cons] at hn
    have hx : x = (k, p) := by simpa using h
    subst hx
    show List.filter _ _ = r
    rw [List.filter_cons_of_neg (by simp)]
    exact dropH_no hn.1
  | x :: r, j + 1, p, hn, h => by
    rw [List.map_cons, List.nodup_cons] at hn
    have h' : r[j]? = some (k, p) := by simpa using h
    have hne : x.1 ≠ k := fun e => hn.1 (e ▸ List.mem_map.mpr ⟨(k, p), List.mem_of_getElem? h', rfl⟩)
    show List.filter _ _ = x :: r.eraseIdx j
    rw [List.filter_cons_of_pos (by simpa using hne), ← dropH_erase hn.2 h']
    rfl
theorem eraseIdx_mapL {α β : Type} (f : α → β) : ∀ (l : List α) (i : Nat), (l.map f).eraseIdx i = (l.eraseIdx i).map f
  | [], _ => rfl
  | _ :: _, 0 => rfl
  | x :: r, i + 1 => by rw [List.map_cons, List.eraseIdx_cons_succ, List.eraseIdx_cons_succ, List.map_cons, eraseIdx_mapL f r i]
theorem takeOut_heap {xs : List (K × Addr × Value)} {Q : Option DictEntry → Shared → Prop} (hu : knd.room A) (hkey : knd.is s.heap k a) (hm : s.heap.DictOfH knd d xs)
    (hnone : atKey xs k = none → Q none { s with toks := s.toks + knd.draws k })
    (hsome : ∀ e p, atKey xs k = some p → e.val = p.2 → ∀ h', h'.DictOfH knd d (dropH xs k) → Heap.SameBut d s.heap h' → Q (some e) { s with heap := h', toks := s.toks + knd.draws k })
    (hsz : xs.length ≤ sizeLine) : wpAny (model prog w) A (Builtin.Dict.takeOut d (.ref a)) Q E s := by
  obtain ⟨o, es, ep, ho, hc, hd, he, his, hn⟩ := hm
  unfold Builtin.Dict.takeOut
  try with_reducible refine wpAny_holding ?_
  refine wpAny_bind (knd.pyHash hu hkey ?_)
  refine wpAny_bind (wpAny_dictFind_heap (s := { s with toks := s.toks + knd.draws k }) hu hkey ho hd he his hn ?_ ?_)
  · intro hno
    exact wpAny_pure (hnone (atKey_none_of_get hno))
  · intro j p hj
    refine wpAny_bind (wpAny_dictEntries (s := { s with toks := s.toks + knd.draws k }) ho hd ?_)
    rw [entry_at he j, hj]
    refine wpAny_bind (wpAny_updateDictKeys (hz := by have e := size_of_entries he; omega) (s := { s with toks := s.toks + knd.draws k }) ho hd (wpAny_pure (hsome _ p (atKey_of_get hn hj) rfl _ ⟨_, _, ep + 1, Heap.get?_update_self _ ho (Obj.isFreed_of_dict (Obj.data_mapDictKeys hd _)),
      hc.mapDictKeys _, Obj.data_mapDictKeys hd _, ?_, ?_, ?_⟩ (Heap.SameBut.update ..))))
    · rw [dropH_erase hn hj, ← eraseIdx_mapL, ← he]
      obtain ⟨l⟩ := es
      simp
    · intro x hx
      exact knd.keeps (his x (List.mem_filter.mp hx).1) ho hd (Heap.SameBut.update ..)
    · exact List.Nodup.sublist (List.Sublist.map _ List.filter_sublist) hn
variable (knd)
theorem meetsH_dict_pop (hd : (d == sysModules) = false) (rest : List Value) (hrest : rest = [] ∨ ∃ dflt, rest = [dflt]) :
    MeetsIn prog w (Builtin.«dict.pop» ⟨.ref d :: .ref a :: rest, []⟩) (fun A R s => knd.room A.in1 ∧ ∃ k xs, knd.is s.heap k a ∧ s.heap.DictOfH knd d xs ∧ xs.length ≤ sizeLine ∧
      ((∃ p, atKey xs k = some p ∧ ∀ h' t', h'.DictOfH knd d (dropH xs k) → Heap.SameBut d s.heap h' → R (.ok (.ret p.2)) { s with heap := h', toks := t' }) ∨
       (∃ x, rest = [x] ∧ atKey xs k = none ∧ ∀ t', R (.ok (.ret x)) { s with toks := t' }))) :=
  .of_wp fun A R s ⟨hu, k, xs, hkey, hm, hsz, h⟩ => by
    have hm' := hm
    obtain ⟨o, es, ep, ho, hc, hdd, he, his, hn⟩ := hm'
    unfold Builtin.«dict.pop»
    refine wpAny_bind ?_
    unfold Builtin.Dict.keyAndDefault
    refine wpAny_bind (wpAny_notOrdered_dict hm.typeIs ?_)
    have hsz' : es.size = xs.length := size_of_entries he
    rcases hrest with rfl | ⟨dflt, rfl⟩
    · obtain ⟨p, hp, h⟩ | ⟨x, hx, _⟩ := h
      · show wpAny _ _ (pure (d, Value.ref a, none)) _ _ s
        refine wpAny_pure ?_
        have hE : es.isEmpty = false := by
          cases xs with
          | nil => cases hp
          | cons x r => rw [Array.isEmpty_eq_false_iff]; intro e; rw [e] at hsz'; simp at hsz'
        simp only [keyPart, Option.isSome_none, Bool.false_eq_true, if_false]
        refine wpAny_bind (wpAny_dictEntries ho hdd (wpAny_bind (wpAny_pure ?_)))
        rw [hE]
        simp only [Bool.false_eq_true, if_false]
        refine wpAny_bind (takeOut_heap hu hkey hm (fun hn => by rw [hn] at hp; cases hp) (fun e p' hp' hv h' d' hs => ?_) hsz)
        rw [hp] at hp'
        cases hp'
        simp only [Option.isNone_some, Bool.false_eq_true, if_false]
        exact wpAny_bind (wpAny_letGo (wpAny_pure ⟨e.val, rfl, by rw [hv]; exact h h' _ d' hs⟩))
      · cases hx
    · show wpAny _ _ (pure (d, Value.ref a, some dflt)) _ _ s
      refine wpAny_pure ?_
      simp only [keyPart, Option.isSome_none, Bool.false_eq_true, if_false]
      refine wpAny_bind (wpAny_dictEntries ho hdd (wpAny_bind (wpAny_pure ?_)))
      obtain ⟨p, hp, h⟩ | ⟨x, hx, hno, h⟩ := h
      · have hE : es.isEmpty = false := by
          cases xs with
          | nil => cases hp
          | cons x r => rw [Array.isEmpty_eq_false_iff]; intro e; rw [e] at hsz'; simp at hsz'
        rw [hE]
        simp only [Bool.false_eq_true, if_false]
        refine wpAny_bind (takeOut_heap hu hkey hm (fun hn => by rw [hn] at hp; cases hp) (fun e p' hp' hv h' d' hs => ?_) hsz)
        rw [hp] at hp'
        cases hp'
        simp only [Option.isNone_some, Bool.false_eq_true, if_false]
        exact wpAny_bind (wpAny_letGo (wpAny_pure ⟨e.val, rfl, by rw [hv]; exact h h' _ d' hs⟩))
      · cases hx
        cases hE : es.isEmpty with
        | true =>
          simp only [if_true]
          refine wpAny_bind (wpAny_rule (wpAny_bind (wpAny_pure ?_)))
          simp only [Option.isNone_none, if_true]
          refine wpAny_bind (wpAny_missedRemoval_other hd ?_)
          exact wpAny_bind (wpAny_rule (wpAny_pure ⟨dflt, rfl, h s.toks⟩))
        | false =>
          simp only [Bool.false_eq_true, if_false]
          refine wpAny_bind (takeOut_heap hu hkey hm (fun hn => ?_) (fun e p' hp' hv h' d' hs => by rw [hno] at hp'; cases hp') hsz)
          simp only [Option.isNone_none, if_true]
          refine wpAny_bind (wpAny_missedRemoval_other hd ?_)
          exact wpAny_bind (wpAny_rule (wpAny_pure ⟨dflt, rfl, h _⟩))
end
section
variable {X : Cx} {pins : List (Addr × Obj)} {σ : St} {H : Hp} {s : Shared} {a b : Addr} {kvs : List (List Key × V)} {k : List Key} {A : Around} {E : Value → Shared → Prop}
theorem KT.drop {kvs : List (List Key × V)} {xs : List (List Key × Addr × Value)} (r : KT H kvs xs) (k : List Key) : KT H (dropK kvs k) (dropH xs k) := by
  induction r with
  | nil => exact .nil
  | @cons p q ps qs h t ih =>
    unfold dropK dropH
    by_cases e : p.1 = k
    · rw [List.filter_cons_of_neg (by simpa using e), List.filter_cons_of_neg (by rw [← h.1]; simpa using e)]
      exact ih
    · rw [List.filter_cons_of_pos (by simpa using e), List.filter_cons_of_pos (by rw [← h.1]; simpa using e)]
      exact .cons h ih
theorem dt_pop {v : V} {more : List Value} {Q : Value → Shared → Prop} (hu : A.units + 1 < cLine) (I : Inv X pins σ H s) (e : H a = some (.dT kvs)) (eb : H b = some (.tup (k.map kV))) (l : valV kvs k = some v) (hm : more = [] ∨ ∃ x, more = [x])
    (h : ∀ w' s', Inv X pins σ (upd H a (.dT (dropK kvs k))) s' → RelV v w' → Q w' s') : wpAny (model X.prog X.w) A (call (.builtin "dict.pop") (.ref a :: .ref b :: more)) Q E s := by
  obtain ⟨z, hd, xs, rel, dd⟩ := dt_of I.hok e
  obtain ⟨w', hw, rw'⟩ := RelO.some_of (v := v) (o := (atKey xs k).map (·.2)) (by rw [← l]; exact rel.val k)
  obtain ⟨p, hp, rfl⟩ := Option.map_eq_some_iff.mp hw
  have ha : argsOk "dict.pop" ⟨.ref a :: .ref b :: more, []⟩ := by
    rcases hm with q | ⟨x, q⟩
    · subst q; exact PySem.F.args_dict_pop_2 _ _
    · subst q; exact PySem.F.args_dict_pop_3 _ _ _
  refine call_meetsIn PySem.F.slot_dict_pop dd.typeIs PySem.F.entry_dict_pop ha (meetsH_dict_pop (tupleKind (mixKind X.prog X.w)) hd more hm)
    ⟨tupleKind_room_in1 hu, k, xs, key_of I.hok eb, dd, by rw [← Paired.length rel]; exact z, .inl ⟨p, hp, fun h' t' dd' hs => h _ _ ?_ rw'⟩⟩
  obtain ⟨q, es, ep, hq, h2, h3, h4, _, h5⟩ := dd'
  refine d_write I (by rw [e]; exact True.intro) hs ⟨q, hq⟩ ⟨Nat.le_trans (dropK_le kvs k) z, hd, _, (rel.drop k).keeps fun c ys ec => ?_, q, es, ep, hq, h2, h3, h4, h5⟩
  rw [upd_ne (ne_of ec e (fun z => nomatch z))]
  exact ec
theorem dt_popD {r : Value} {Q : Value → Shared → Prop} (hu : A.units + 1 < cLine) (I : Inv X pins σ H s) (e : H a = some (.dT kvs)) (eb : H b = some (.tup (k.map kV))) (l : valV kvs k = none) (h : ∀ s', Inv X pins σ H s' → Q r s') :
    wpAny (model X.prog X.w) A (call (.builtin "dict.pop") [.ref a, .ref b, r]) Q E s := by
  obtain ⟨z, hd, xs, rel, dd⟩ := dt_of I.hok e
  have hn : (atKey xs k).map (·.2) = none := RelO.none_of (by rw [← l]; exact rel.val k)
  have hn' : atKey xs k = none := by
    cases q : atKey xs k with
    | none => rfl
    | some p => rw [q] at hn; cases hn
  exact call_meetsIn PySem.F.slot_dict_pop dd.typeIs PySem.F.entry_dict_pop (PySem.F.args_dict_pop_3 _ _ _) (meetsH_dict_pop (tupleKind (mixKind X.prog X.w)) hd [r] (.inr ⟨r, rfl⟩))
    ⟨tupleKind_room_in1 hu, k, xs, key_of I.hok eb, dd, by rw [← Paired.length rel]; exact z, .inr ⟨r, rfl, hn', fun t' => h _ (I.tok _)⟩⟩
end
def tDPopT1 (td ty : TE) : TE := fun σ H Q => td σ H fun x H1 => ∃ a, x = .ref a ∧ IsD H1 a ∧ ty σ H1 fun y H2 => ∃ kvs k b v, H2 a = some (.dT kvs) ∧ y = .ref b ∧ H2 b = some (.tup (k.map kV)) ∧ valV kvs k = some v ∧ Q v (upd H2 a (.dT (dropK kvs k)))
def tDPopT2 (td ty tx : TE) : TE := fun σ H Q => td σ H fun x H1 => ∃ a, x = .ref a ∧ IsD H1 a ∧ ty σ H1 fun y H2 => tx σ H2 fun z H3 => ∃ kvs k b, H3 a = some (.dT kvs) ∧ y = .ref b ∧ H3 b = some (.tup (k.map kV)) ∧
  (∀ v, valV kvs k = some v → Q v (upd H3 a (.dT (dropK kvs k)))) ∧ (valV kvs k = none → Q z H3)
section
variable {X : Cx} {o e f : Expr} {apos cpos : Pos} {td ty tx : TE}
theorem pe_dpopT1 (hu : X.A.units + 1 < cLine) (ho : PE X o td) (he : PE X e ty) (m : M1 X o "pop" apos e cpos) : PE X (.Call (.Attribute o "pop" apos) [e] [] cpos) (tDPopT1 td ty) := by
  intro pins s σ H Q I h
  refine wpAny_Call_method m.base m.few m.line PySem.F.plainAttrs_dict PySem.F.slot_dict_pop PySem.F.type_dict_pop (thn (ho pins s σ H _ I h) fun u s1 ⟨x, H1, I1, rx, a, ex, d, q1⟩ => ?_)
  subst ex
  obtain rfl : u = Value.ref a := rx
  obtain ⟨t1, t2, _⟩ := isD_at I1 d
  refine ⟨t1, t2, ?_⟩
  rw [m.trees]
  refine Calls.callWith_builtin rfl (Calls.evalArgs_plain (Calls.spliced_cons (thn (he pins s1 σ H1 _ I1 q1) fun iv s2 ⟨y, H2, I2, ry, kvs, k, b, v, ea, ey, eb, l, q2⟩ => Calls.spliced_nil ?_)))
  subst ey
  obtain rfl : iv = Value.ref b := ry
  exact dt_pop hu I2 ea eb l (.inl rfl) fun w' s3 I3 rw' => ⟨v, _, I3, rw', q2⟩
theorem pe_dpopT2 (hu : X.A.units + 1 < cLine) (ho : PE X o td) (he : PE X e ty) (hf : PE X f tx) (m : M2 X o "pop" apos e f cpos) : PE X (.Call (.Attribute o "pop" apos) [e, f] [] cpos) (tDPopT2 td ty tx) := by
  intro pins s σ H Q I h
  refine wpAny_Call_method m.base m.few m.line PySem.F.plainAttrs_dict PySem.F.slot_dict_pop PySem.F.type_dict_pop (thn (ho pins s σ H _ I h) fun u s1 ⟨x, H1, I1, rx, a, ex, d, q1⟩ => ?_)
  subst ex
  obtain rfl : u = Value.ref a := rx
  obtain ⟨t1, t2, _⟩ := isD_at I1 d
  refine ⟨t1, t2, ?_⟩
  rw [m.trees]
  refine Calls.callWith_builtin rfl (Calls.evalArgs_plain (Calls.spliced_cons (thn (he pins s1 σ H1 _ I1 q1) fun iv s2 ⟨y, H2, I2, ry, q2⟩ =>
    Calls.spliced_cons (thn (hf pins s2 σ H2 _ I2 q2) fun fv s3 ⟨z, H3, I3, rz, kvs, k, b, ea, ey, eb, q3, q4⟩ => Calls.spliced_nil ?_))))
  subst ey
  obtain rfl : iv = Value.ref b := ry
  cases l : valV kvs k with
  | some v => exact dt_pop hu I3 ea eb l (.inr ⟨fv, rfl⟩) fun w' s4 I4 rw' => ⟨v, _, I4, rw', q3 v l⟩
  | none => exact dt_popD hu I3 ea eb l fun s4 I4 => ⟨z, H3, I4, rz, q4 l⟩
theorem R.dpopT1 (hu : X.A.units + 1 < cLine) (ho : XE X o td) (he : XE X e ty) (h1 : attributeBase o "pop" X.env (eval o X.env) = eval o X.env := by rfl) (h3 : (apos.endLine == cpos.line) = true := by rfl)
    (h2 : ((backTo cpos (starEach [e] X.env)).all (fun x => !x.1) && (backToKw cpos (keywordEach [] X.env)).all (fun x => x.1.isSome)
    && decide (([e] : List Expr).length + ([] : List Keyword).length + (if ([] : List Keyword).isEmpty then 0 else 1) < 30)) = true := by rfl)
    (h4 : backTo cpos (starEach [e] X.env) = [(false, eval e X.env)] := by rfl) : XE X (.Call (.Attribute o "pop" apos) [e] [] cpos) (tDPopT1 td ty) := ⟨pe_dpopT1 hu ho.h he.h ⟨h1, h2, h3, h4⟩⟩
theorem R.dpopT2 (hu : X.A.units + 1 < cLine) (ho : XE X o td) (he : XE X e ty) (hf : XE X f tx) (h1 : attributeBase o "pop" X.env (eval o X.env) = eval o X.env := by rfl) (h3 : (apos.endLine == cpos.line) = true := by rfl)
    (h2 : ((backTo cpos (starEach [e, f] X.env)).all (fun x => !x.1) && (backToKw cpos (keywordEach [] X.env)).all (fun x => x.1.isSome)
    && decide (([e, f] : List Expr).length + ([] : List Keyword).length + (if ([] : List Keyword).isEmpty then 0 else 1) < 30)) = true := by rfl)
    (h4 : backTo cpos (starEach [e, f] X.env) = [(false, eval e X.env), (false, eval f X.env)] := by rfl) : XE X (.Call (.Attribute o "pop" apos) [e, f] [] cpos) (tDPopT2 td ty tx) := ⟨pe_dpopT2 hu ho.h he.h hf.h ⟨h1, h2, h3, h4⟩⟩
theorem R.dnewT {pos : Pos} : XE X (.Dict [] [] pos) tDNewT := ⟨pe_dnewT⟩
end
end L2
namespace L2
open PySem PySem.Spec PyProof.Rows
section
variable {X : Cx}
def mInT (neg : Bool) : R2 := fun x y H Q => mR y fun a => ∃ o, DGet H a x o ∧ Q (.bl (if neg then !o.isSome else o.isSome)) H
theorem op_inT (neg : Bool) (hu : X.A.units + 1 < cLine) : OpR X (compareOp (if neg then .NotIn else .In)) (mInT neg) := by
  intro pins s σ H x y v u Q I rx ry h
  unfold mInT at h
  rw [mR_eq] at h
  obtain ⟨a, rfl, o, g, q⟩ := h
  cases ry
  cases neg
  · exact d_in hu I g rx fun s' I' => ⟨.bl _, H, I', rfl, q⟩
  · exact d_notIn hu I g rx fun s' I' => ⟨.bl _, H, I', rfl, q⟩
theorem R.inT (hu : X.A.units + 1 < cLine) : XOp X (compareOp .In) (mInT false) := ⟨op_inT false hu⟩
theorem R.notInT (hu : X.A.units + 1 < cLine) : XOp X (compareOp .NotIn) (mInT true) := ⟨op_inT true hu⟩
end
inductive KE where
  | busy (n : Int) (d : Addr)
  | kept (n t : Int) (d a : Addr)
abbrev KM := Str × Str → Option KE
def KM.set (m : KM) (q : Str × Str) (e : Option KE) : KM := fun r => if r = q then e else m r
theorem KM.set_same {m : KM} {q : Str × Str} {e : Option KE} : m.set q e q = e := if_pos rfl
theorem KM.set_ne {m : KM} {q r : Str × Str} {e : Option KE} (h : r ≠ q) : m.set q e r = m r := if_neg h
def pk (q : Str × Str) : List Key := [Sum.inr q.1, Sum.inr q.2]
theorem pk_inj {q r : Str × Str} (h : pk q = pk r) : q = r := by
  obtain ⟨a, b⟩ := q
  obtain ⟨c, d⟩ := r
  unfold pk at h
  simp only [List.cons.injEq, Sum.inr.injEq, and_true] at h
  rw [h.1, h.2]
theorem pk_tup {H : Hp} {t : Addr} {q : Str × Str} (h : H t = some (.tup [.str q.1, .str q.2])) : H t = some (.tup ((pk q).map kV)) := h
def fB : KE → Option (List V)
  | .busy n d => some [.int n, .ref d]
  | .kept .. => none
def fS : KE → Option (List V)
  | .busy .. => none
  | .kept n t d a => some [.int n, .int t, .ref d, .ref a]
structure Dic (H : Hp) (kvs : List (List Key × V)) (m : KM) (f : KE → Option (List V)) (L : Nat) : Prop where
  nd : (kvs.map (·.1)).Nodup
  all : ∀ p ∈ kvs, ∃ q e xs t, p = (pk q, V.ref t) ∧ m q = some e ∧ f e = some xs ∧ H t = some (.tup xs)
  has : ∀ q e xs, m q = some e → f e = some xs → pk q ∈ kvs.map (·.1)
  len : kvs.length ≤ L
section
variable {κ : Type} [DecidableEq κ]
theorem valV_mem {kvs : List (κ × V)} {k : κ} {v : V} (h : valV kvs k = some v) : (k, v) ∈ kvs := by
  induction kvs with
  | nil => cases h
  | cons p r ih =>
    by_cases e : p.1 = k
    · rw [valV_pos e] at h
      cases h
      cases e
      exact List.mem_cons_self
    · rw [valV_neg e] at h
      exact List.mem_cons_of_mem _ (ih h)
theorem putK_mem {kvs : List (κ × V)} {k : κ} {v : V} {p : κ × V} (h : p ∈ putK kvs k v) : p = (k, v) ∨ (p ∈ kvs ∧ p.1 ≠ k) := by
  cases hv : valV kvs k with
  | none =>
    rw [putK_new v hv] at h
    rcases List.mem_append.mp h with h | h
    · exact .inr ⟨h, fun e => valV_not hv (e ▸ List.mem_map.mpr ⟨p, h, rfl⟩)⟩
    · exact .inl (List.mem_singleton.mp h)
  | some x =>
    unfold putK at h
    rw [valV_any, hv] at h
    simp only [Option.isSome_some, if_true] at h
    obtain ⟨p', hp', rfl⟩ := List.mem_map.mp h
    by_cases e : p'.1 = k
    · rw [if_pos e]; left; rw [e]
    · rw [if_neg e]; exact .inr ⟨hp', e⟩
theorem putK_keys {kvs : List (κ × V)} {k : κ} {v : V} (j : κ) : j ∈ (putK kvs k v).map (·.1) ↔ j = k ∨ j ∈ kvs.map (·.1) := by
  cases hv : valV kvs k with
  | none =>
    rw [putK_new v hv, List.map_append, List.mem_append]
    simp only [List.map_cons, List.map_nil, List.mem_singleton]
    exact Or.comm
  | some x =>
    have e : (putK kvs k v).map (·.1) = kvs.map (·.1) := by
      unfold putK
      rw [valV_any, hv]
      simp only [Option.isSome_some, if_true, List.map_map]
      refine List.map_congr_left fun p _ => ?_
      simp only [Function.comp]
      split <;> rfl
    rw [e]
    exact ⟨.inr, fun z => z.elim (fun z => z ▸ valV_in hv) id⟩
theorem putK_nd {kvs : List (κ × V)} {k : κ} {v : V} (hn : (kvs.map (·.1)).Nodup) : ((putK kvs k v).map (·.1)).Nodup := by
  cases hv : valV kvs k with
  | none => exact nd_putK v hn hv
  | some x =>
    have e : (putK kvs k v).map (·.1) = kvs.map (·.1) := by
      unfold putK
      rw [valV_any, hv]
      simp only [Option.isSome_some, if_true, List.map_map]
      refine List.map_congr_left fun p _ => ?_
      simp only [Function.comp]
      split <;> rfl
    rw [e]; exact hn
theorem dropK_keys {kvs : List (κ × V)} {k j : κ} (h : j ∈ kvs.map (·.1)) (hne : j ≠ k) : j ∈ (dropK kvs k).map (·.1) := by
  obtain ⟨p, hp, rfl⟩ := List.mem_map.mp h
  exact List.mem_map.mpr ⟨p, List.mem_filter.mpr ⟨hp, decide_eq_true hne⟩, rfl⟩
theorem dropK_ne {kvs : List (κ × V)} {k : κ} {p : κ × V} (h : p ∈ dropK kvs k) : p.1 ≠ k := of_decide_eq_true (List.mem_filter.mp h).2
end
section
variable {H H' : Hp} {kvs : List (List Key × V)} {m m' : KM} {f : KE → Option (List V)} {L : Nat} {q : Str × Str}
theorem Dic.keep (h : Dic H kvs m f L) (k : ∀ b xs, H b = some (.tup xs) → H' b = some (.tup xs)) : Dic H' kvs m f L :=
  ⟨h.nd, fun p hp => let ⟨q, e, xs, t, h1, h2, h3, h4⟩ := h.all p hp; ⟨q, e, xs, t, h1, h2, h3, k _ _ h4⟩, h.has, h.len⟩
theorem Dic.more (h : Dic H kvs m f L) : Dic H kvs m f (L + 1) := ⟨h.nd, h.all, h.has, Nat.le_succ_of_le h.len⟩
theorem Dic.get (h : Dic H kvs m f L) (q : Str × Str) : (∃ t e xs, valV kvs (pk q) = some (.ref t) ∧ m q = some e ∧ f e = some xs ∧ H t = some (.tup xs)) ∨ (valV kvs (pk q) = none ∧ ∀ e, m q = some e → f e = none) := by
  cases hv : valV kvs (pk q) with
  | none =>
    refine .inr ⟨rfl, fun e he => ?_⟩
    cases hf : f e with
    | none => rfl
    | some xs => exact absurd (h.has q e xs he hf) (valV_not hv)
  | some v =>
    obtain ⟨q', e, xs, t, h1, h2, h3, h4⟩ := h.all _ (valV_mem hv)
    cases pk_inj (congrArg Prod.fst h1)
    cases (congrArg Prod.snd h1 : v = V.ref t)
    exact .inl ⟨t, e, xs, rfl, h2, h3, h4⟩
theorem Dic.at (h : Dic H kvs m f L) {e : KE} {xs : List V} (hm : m q = some e) (hf : f e = some xs) : ∃ t, valV kvs (pk q) = some (.ref t) ∧ H t = some (.tup xs) := by
  rcases h.get q with ⟨t, e', xs', h1, h2, h3, h4⟩ | ⟨_, h2⟩
  · rw [hm] at h2; cases h2; rw [hf] at h3; cases h3
    exact ⟨t, h1, h4⟩
  · rw [h2 e hm] at hf; cases hf
theorem Dic.no (h : Dic H kvs m f L) (hm : ∀ e, m q = some e → f e = none) : valV kvs (pk q) = none := by
  rcases h.get q with ⟨t, e', xs', h1, h2, h3, h4⟩ | ⟨h1, _⟩
  · rw [hm _ h2] at h3; cases h3
  · exact h1
theorem Dic.put (h : Dic H kvs m f L) {e : KE} {xs : List V} {t : Addr} (hf : f e = some xs) (ht : H t = some (.tup xs)) (h1 : m' q = some e) (h2 : ∀ r, r ≠ q → m' r = m r) : Dic H (putK kvs (pk q) (.ref t)) m' f (L + 1) := by
  refine ⟨putK_nd h.nd, fun p hp => ?_, fun r e' xs' hr hf' => ?_, Nat.le_trans (length_putK _ _ _) (Nat.succ_le_succ h.len)⟩
  · rcases putK_mem hp with rfl | ⟨hp, hne⟩
    · exact ⟨q, e, xs, t, rfl, h1, hf, ht⟩
    · obtain ⟨r, e', xs', t', rfl, g2, g3, g4⟩ := h.all p hp
      exact ⟨r, e', xs', t', rfl, by rw [h2 r (fun z => hne (by rw [z]))]; exact g2, g3, g4⟩
  · rw [putK_keys]
    by_cases z : r = q
    · exact .inl (by rw [z])
    · exact .inr (h.has r e' xs' (by rw [← h2 r z]; exact hr) hf')
theorem Dic.drop (h : Dic H kvs m f L) (h1 : ∀ e, m' q = some e → f e = none) (h2 : ∀ r, r ≠ q → m' r = m r) : Dic H (dropK kvs (pk q)) m' f L := by
  refine ⟨nd_dropK h.nd, fun p hp => ?_, fun r e' xs' hr hf' => ?_, Nat.le_trans (dropK_le _ _) h.len⟩
  · obtain ⟨r, e', xs', t', rfl, g2, g3, g4⟩ := h.all p (dropK_mem hp)
    exact ⟨r, e', xs', t', rfl, by rw [h2 r (fun z => dropK_ne hp (by rw [z]))]; exact g2, g3, g4⟩
  · have z : r ≠ q := fun z => by rw [z] at hr; rw [h1 _ hr] at hf'; cases hf'
    exact dropK_keys (h.has r e' xs' (by rw [← h2 r z]; exact hr) hf') (fun e => z (pk_inj e))
theorem Dic.skip (h : Dic H kvs m f L) (h0 : ∀ e, m q = some e → f e = none) (h1 : ∀ e, m' q = some e → f e = none) (h2 : ∀ r, r ≠ q → m' r = m r) : Dic H kvs m' f L := by
  have := h.drop h1 h2
  rwa [dropK_no (valV_not (h.no h0))] at this
theorem Dic.nil : Dic H [] (fun _ => none) f L := ⟨List.nodup_nil, fun p hp => absurd hp (List.not_mem_nil), fun q e xs he => (by cases he), Nat.zero_le _⟩
end
structure KF where
  dx : Addr
  db : Addr
  ds : Addr
def kfs (a : KF) (life : Int) : List (Str × V) := [("life", .int life), ("begun_ones", .ref a.db), ("settled_ones", .ref a.ds)]
structure KyAt (C : Addr) (H : Hp) (p : Addr) (a : KF) (life : Int) (m : KM) (L : Nat) : Prop where
  hp : H p = some (.ins C a.dx (kfs a life))
  hb : ∃ kvs, H a.db = some (.dT kvs) ∧ Dic H kvs m fB L
  hs : ∃ kvs, H a.ds = some (.dT kvs) ∧ Dic H kvs m fS L
  ne : a.db ≠ a.ds
structure KsT (K : W.Frag) (C : Addr) : Prop where
  cl : Cls K C
  nL : NoAttr K C "life"
  nB : NoAttr K C "begun_ones"
  nS : NoAttr K C "settled_ones"
theorem kf_l (a : KF) (l : Int) : (kfs a l).lookup ("life" : Str) = some (.int l) := by unfold kfs; rw [List.lookup_cons]; simp
theorem kf_b (a : KF) (l : Int) : (kfs a l).lookup ("begun_ones" : Str) = some (.ref a.db) := by
  unfold kfs
  rw [List.lookup_cons, (by decide +kernel : (("begun_ones" : Str) == ("life" : Str)) = false)]
  show List.lookup ("begun_ones" : Str) [(("begun_ones" : Str), V.ref a.db), (("settled_ones" : Str), V.ref a.ds)] = _
  rw [List.lookup_cons]; simp
theorem kf_s (a : KF) (l : Int) : (kfs a l).lookup ("settled_ones" : Str) = some (.ref a.ds) := by
  unfold kfs
  rw [List.lookup_cons, (by decide +kernel : (("settled_ones" : Str) == ("life" : Str)) = false)]
  show List.lookup ("settled_ones" : Str) [(("begun_ones" : Str), V.ref a.db), (("settled_ones" : Str), V.ref a.ds)] = _
  rw [List.lookup_cons, (by decide +kernel : (("settled_ones" : Str) == ("begun_ones" : Str)) = false)]
  show List.lookup ("settled_ones" : Str) [(("settled_ones" : Str), V.ref a.ds)] = _
  rw [List.lookup_cons]; simp
theorem kf_no {m : Str} (a : KF) (l : Int) (h1 : (m == ("life" : Str)) = false) (h2 : (m == ("begun_ones" : Str)) = false) (h3 : (m == ("settled_ones" : Str)) = false) : (kfs a l).lookup m = none := by
  unfold kfs
  rw [List.lookup_cons, h1]
  show List.lookup m [(("begun_ones" : Str), V.ref a.db), (("settled_ones" : Str), V.ref a.ds)] = none
  rw [List.lookup_cons, h2]
  show List.lookup m [(("settled_ones" : Str), V.ref a.ds)] = none
  rw [List.lookup_cons, h3]
  rfl
section
variable {C : Addr} {H H' : Hp} {p : Addr} {a : KF} {life : Int} {m : KM} {L : Nat}
theorem KyAt.keep (h : KyAt C H p a life m L) (k : ∀ b o, H b = some o → (∀ xs, o ≠ .lst xs) → H' b = some o) : KyAt C H' p a life m L := by
  obtain ⟨b1, g1, d1⟩ := h.hb
  obtain ⟨b2, g2, d2⟩ := h.hs
  have kt : ∀ b xs, H b = some (.tup xs) → H' b = some (.tup xs) := fun b xs e => k _ _ e (fun _ z => nomatch z)
  exact ⟨k _ _ h.hp (fun _ z => nomatch z), ⟨b1, k _ _ g1 (fun _ z => nomatch z), d1.keep kt⟩, ⟨b2, k _ _ g2 (fun _ z => nomatch z), d2.keep kt⟩, h.ne⟩
theorem KyAt.same (h : KyAt C H p a life m L) (s : Same H H') : KyAt C H' p a life m L := h.keep fun b o e _ => s _ _ e
theorem KyAt.more (h : KyAt C H p a life m L) : KyAt C H p a life m (L + 1) :=
  let ⟨b1, g1, d1⟩ := h.hb; let ⟨b2, g2, d2⟩ := h.hs; ⟨h.hp, ⟨b1, g1, d1.more⟩, ⟨b2, g2, d2.more⟩, h.ne⟩
theorem KyAt.new (h : KyAt C H p a life m L) {m' : KM} {L' : Nat} {b1 b2 : List (List Key × V)} (hp : H' p = H p) (g1 : H' a.db = some (.dT b1)) (g2 : H' a.ds = some (.dT b2)) (kt : ∀ b xs, H b = some (.tup xs) → H' b = some (.tup xs)) (d1 : Dic H' b1 m' fB L') (d2 : Dic H' b2 m' fS L') : KyAt C H' p a life m' L' :=
  ⟨hp.trans h.hp, ⟨b1, g1, d1⟩, ⟨b2, g2, d2⟩, h.ne⟩
end
def lookV (life turn : Int) : Option KE → List V
  | none => [.str "free"]
  | some (.busy n d) => [.str "busy", .int n, .ref d]
  | some (.kept n t d a) => if t + life > turn then [.str "kept", .int n, .ref d, .ref a] else [.str "free"]
def FrK (H H' : Hp) (a : KF) : Prop := ∀ c o, H c = some o → c ≠ a.db → c ≠ a.ds → H' c = some o
def spKInit (C : Addr) : Sp := fun vs H Q _ => ∃ (p dx : Addr) (life : Int), vs = [.ref p, .int life] ∧ H p = some (.ins C dx []) ∧
  ∀ H' a, H a.db = none → H a.ds = none → KyAt C H' p a life (fun _ => none) 0 → (∀ b o, H b = some o → b ≠ p → H' b = some o) → Q .non H'
def spAlive : Sp := fun vs H Q _ => ∃ t l n : Int, vs = [.int t, .int l, .int n] ∧ Q (.bl (decide (t + l > n))) H
def spLook (C : Addr) : Sp := fun vs H Q _ => ∃ p a life m L q now, vs = [.ref p, .str q.1, .str q.2, .int now] ∧ KyAt C H p a life m L ∧ ∀ t H', Same H H' → H' t = some (.tup (lookV life now (m q))) → Q (.ref t) H'
end L2
namespace L2
open PySem PySem.Spec PyProof.Rows
theorem R.extend {X : Cx} : XM X "list.extend" rExtend := ⟨mt_extend⟩
end L2
namespace L2
open PySem PySem.Spec PyProof.Rows
section
variable {X : Cx} {K : W.Frag} {a b : Expr} {rest : List Expr} {ta tb : TE} {pos : Pos}
def tOrG (K : W.Frag) (ta tb : TE) : TE := fun σ H Q => ta σ H fun x H1 => ∃ k, TruV K x H1 k ∧ if k = true then Q x H1 else tb σ H1 Q
theorem pe_orG (ha : PE X a ta) (hb : PE X (.BoolOp .Or (b :: rest) pos) tb) : PE X (.BoolOp .Or (a :: b :: rest) pos) (tOrG X.K ta tb) := by
  intro pins s σ H Q I h
  refine BoolOp_or (thn (ha pins s σ H _ I h) fun v s1 ⟨x, H1, I1, r1, k, ht, q1⟩ => ?_)
  refine thn (tru_ok pins s1 σ H1 x v (fun c H2 => if c = true then Q x H2 else tb σ H2 Q) I1 r1 ⟨k, ht, q1⟩) fun c s2 ⟨H2, I2, q2⟩ => ?_
  cases c with
  | false => exact hb pins s2 σ H2 Q I2 q2
  | true => exact ⟨x, H2, I2, r1, q2⟩
theorem R.korG (ha : XE X a ta) (hb : XE X (.BoolOp .Or (b :: rest) pos) tb) (hK : X.K = K := by rfl) : XE X (.BoolOp .Or (a :: b :: rest) pos) (tOrG K ta tb) := hK ▸ ⟨pe_orG ha.h hb.h⟩
end
end L2
namespace L2
open PySem PySem.Spec PyProof.Rows
theorem sq_keep {K : W.Frag} {H H' : Hp} {a : Addr} {xs : List V} (h : SqL K H a xs) (k : ∀ o, H a = some o → H' a = some o) : SqL K H' a xs := by
  rcases h with h | h
  · rcases h with h | ⟨ob, h⟩
    · exact .inl (.inl (k _ h))
    · exact .inl (.inr ⟨ob, k _ h⟩)
  · exact .inr h
end L2
namespace L2
open PySem PySem.Spec PyProof.Rows
section
variable {prog : Program} {w : World} {A : Around} {E : Value → Shared → Prop} {s : Shared} {u d : Addr} {i n ep : Nat} {od : Obj} {es : Array DictEntry}
theorem raw_iter {Q : Value → Shared → Prop} (lo : (d == sysModules) = false) (g : s.heap.get? d = some od) (ec : od.ExactDict) (gd : od.data = .dict es ep)
    (q : Q (.ref s.heap.objs.size) { s with heap := s.heap.push { cls := .type "dict_keyiterator", data := .fields #[.ref d, .int 0 0, .int es.size 0, .int ep 0] } }) : wpAny (model prog w) A (pyIter (.ref d)) Q E s := by
  have ty : s.TypeIs (.ref d) "dict" := ⟨od, g, ec.1⟩
  refine wpAny_pyIter_slot ty PySem.F.slot_dict_iter (wpAny_call_entry PySem.F.slot_dict_iter ty PySem.F.entry_dict_iter ?_ (PySem.F.args_dict_iter_1 _))
  unfold Builtin.«dict.__iter__»; refine wpAny_bind ?_; unfold Builtin.Dict.dictSlotNone; refine wpAny_bind (wpAny_notOrdered_dict ty ?_)
  show wpAny _ _ (pure (Value.ref d)) _ _ s; refine wpAny_pure ?_; show wpAny _ _ (Builtin.Dict.showsAll d >>= _) _ _ s
  unfold Builtin.Dict.showsAll; rw [if_neg (by rw [lo]; exact Bool.false_ne_true)]; refine wpAny_bind (wpAny_pure (wpAny_bind (wpAny_dictEntries g gd (wpAny_bind (wpAny_dictEpoch g gd ?_)))))
  refine wpAny_bind (wpAny_newObj_type (wpAny_pure ⟨_, rfl, "dict_keyiterator", _, ⟨_, Heap.get?_push_size _ rfl, rfl⟩, PySem.F.slot_dict_keyiterator_next.lookup, ?_⟩)); simpa [rawInt] using q
theorem raw_next {Q : Option Value → Shared → Prop} (hit : s.heap.IsKeyIter u d i n ep) (g : s.heap.get? d = some od) (gd : od.data = .dict es ep) (hn : es.size = n) (hi : i < es.size)
    (q : ∀ h', h'.IsKeyIter u d (i + 1) n ep → Heap.SameBut u s.heap h' → Q (some es[i].key) { s with heap := h' }) : wpAny (model prog w) A (pyNext (.ref u)) Q E s := by
  obtain ⟨o, ho, hc, hd⟩ := id hit
  have ty := hit.typeIs; have own : Builtin.Dict_items.ownsTuple "dict_keyiterator" = false := by decide
  unfold pyNext; refine wpAny_bind (wpAny_attempt (wpAny_callSpecial?_slot (name := Str.ofString "__next__") ty PySem.F.slot_dict_keyiterator_next (wpAny_call_entry PySem.F.slot_dict_keyiterator_next ty PySem.F.entry_dict_keyiterator_next ?_ (PySem.F.args_dict_keyiterator_next_1 _))))
  refine wpAny_bind (wpAny_pure (wpAny_bind (wpAny_bind ?_)))
  first | refine wpAny_bind (wpAny_typeNameOfWhole_keyiter ty (wpAny_pure (wpAny_bind (wpAny_fieldsOf ho hd ?_)))) | refine wpAny_bind (wpAny_typeNameOf_keyiter ty (wpAny_pure (wpAny_bind (wpAny_fieldsOf ho hd ?_))))
  simp only [own, Bool.false_eq_true, if_false]; show wpAny _ _ (if (Value.ref d == Value.none) = true then _ else _) _ _ s
  rw [if_neg (show ¬ ((Value.ref d == Value.none) = true) from Bool.false_ne_true)]; refine wpAny_bind (wpAny_pure (wpAny_bind (wpAny_dictEntries g gd ?_)))
  rw [if_neg (by rw [hn]; simp)]; refine wpAny_bind (wpAny_pure (wpAny_bind (wpAny_dictEpoch g gd ?_))); rw [if_neg (by simp)]; refine wpAny_pure ?_
  simp only [show ¬ ((i : Int) < 0) from by omega, if_false, Int.toNat_natCast, Array.getElem?_eq_getElem hi]; refine wpAny_bind ?_
  first | refine wpAny_bind (wpAny_typeNameOfWhole_keyiter ty (wpAny_pure (wpAny_bind (wpAny_isOneOf_keyiter ty ?_)))) | refine wpAny_bind (wpAny_typeNameOf_keyiter ty (wpAny_pure (wpAny_bind (wpAny_isOneOf_keyiter ty ?_))))
  show wpAny _ _ (setField (.ref u) 1 (rawInt ((i : Int) + 1)) >>= _) _ _ s; refine wpAny_bind (wpAny_setField ho hd (by simp) ?_)
  have ht' : (s.heap.update u (Obj.mapFields (·.setIfInBounds 1 (rawInt ((i : Int) + 1))))).IsKeyIter u d (i + 1) n ep := ⟨_, Heap.get?_update_self _ ho (Obj.isFreed_of_fields (Obj.data_mapFields hd _)), (Obj.cls_mapFields ..).trans hc, by rw [Obj.data_mapFields hd]; simp [rawInt]⟩
  refine wpAny_bind (wpAny_holding (wpAny_bind (wpAny_isOneOf_keyiter (s := { s with heap := s.heap.update u (Obj.mapFields (·.setIfInBounds 1 (rawInt ((i : Int) + 1)))) }) ht'.typeIs ?_)))
  show wpAny _ _ (pure es[i].key) _ _ _; exact wpAny_pure (wpAny_pure ⟨_, rfl, wpAny_pure (q _ ht' (Heap.SameBut.update ..))⟩)
theorem raw_end {Q : Option Value → Shared → Prop} (hh : A.handled = none) (hit : s.heap.IsKeyIter u d i n ep) (g : s.heap.get? d = some od) (gd : od.data = .dict es ep) (hn : es.size = n) (hi : es.size ≤ i)
    (q : ∀ h', Heap.ExtBut u s.heap h' → Q none { s with heap := h' }) : wpAny (model prog w) A (pyNext (.ref u)) Q E s := by
  obtain ⟨o, ho, hc, hd⟩ := id hit
  have ty := hit.typeIs; have own : Builtin.Dict_items.ownsTuple "dict_keyiterator" = false := by decide
  unfold pyNext; refine wpAny_bind (wpAny_attempt (wpAny_callSpecial?_slot (name := Str.ofString "__next__") ty PySem.F.slot_dict_keyiterator_next (wpAny_call_entry PySem.F.slot_dict_keyiterator_next ty PySem.F.entry_dict_keyiterator_next ?_ (PySem.F.args_dict_keyiterator_next_1 _))))
  refine wpAny_bind (wpAny_pure (wpAny_bind (wpAny_bind ?_)))
  first | refine wpAny_bind (wpAny_typeNameOfWhole_keyiter ty (wpAny_pure (wpAny_bind (wpAny_fieldsOf ho hd ?_)))) | refine wpAny_bind (wpAny_typeNameOf_keyiter ty (wpAny_pure (wpAny_bind (wpAny_fieldsOf ho hd ?_))))
  simp only [own, Bool.false_eq_true, if_false]; show wpAny _ _ (if (Value.ref d == Value.none) = true then _ else _) _ _ s
  rw [if_neg (show ¬ ((Value.ref d == Value.none) = true) from Bool.false_ne_true)]; refine wpAny_bind (wpAny_pure (wpAny_bind (wpAny_dictEntries g gd ?_)))
  rw [if_neg (by rw [hn]; simp)]; refine wpAny_bind (wpAny_pure (wpAny_bind (wpAny_dictEpoch g gd ?_))); rw [if_neg (by simp)]; refine wpAny_pure ?_
  simp only [show ¬ ((i : Int) < 0) from by omega, if_false, Int.toNat_natCast, Array.getElem?_eq_none hi]; refine wpAny_bind ?_
  first | refine wpAny_bind (wpAny_typeNameOfWhole_keyiter ty (wpAny_pure ?_)) | refine wpAny_bind (wpAny_typeNameOf_keyiter ty (wpAny_pure ?_))
  show wpAny _ _ (setField (.ref u) 0 .none >>= _) _ _ s; refine wpAny_bind (wpAny_setField ho hd (by simp) ?_); show wpAny _ _ (newExc (.type "StopIteration") [] >>= _) _ _ _
  refine wpAny_bind ?_; simp only [newExc, newTuple]; refine wpAny_bind (wpAny_newObj_type ?_ (by size_fits))
  refine wpAny_bind (m := firstArgMember _ _) (wpAny_of_eq (a := Value.none) (by first | rfl | (simp only [firstArgMember]; rfl)) (wpAny_newObj_type ?_ (by size_fits)))
  simp only [raiseNew]; refine wpAny_bind (wpAny_handled ?_); rw [show A.in1.handled = none from hh]; refine wpAny_bind (wpAny_pure (wpAny_throw ?_))
  exact wpAny_bind (wpAny_isInstance (T := "StopIteration") (b := true) ⟨_, Heap.get?_push_size _ rfl, rfl⟩ isSubtype_stop (wpAny_pure (q _ (((Heap.SameBut.update ..).extBut.push _).push _))))
end
end L2
namespace L2
open PySem PySem.Spec PyProof.Rows
@[reducible] def intOrd : KeyOrd where
  α := Int
  blt a b := decide (a < b)
  irrefl a := by simp
  trans a b c h1 h2 := by simp only [decide_eq_true_eq] at *; omega
  negTrans a b c h := by simp only [decide_eq_true_eq] at *; omega
  total a b h1 h2 := by simp only [decide_eq_false_iff_not] at *; omega
def TnAt (h : Heap) (v : Value) (q : Int × Addr) : Prop := ∃ t rest, v = Value.ref q.2 ∧ IsTup h q.2 (Value.int q.1 t :: rest).toArray
def TnsAt (h : Heap) : List Value → List (Int × Addr) → Prop
  | [], [] => True
  | v :: vs, q :: qs => TnAt h v q ∧ TnsAt h vs qs
  | _, _ => False
theorem TnsAt.len {h : Heap} : ∀ {vs : List Value} {qs : List (Int × Addr)}, TnsAt h vs qs → vs.length = qs.length
  | [], [], _ => rfl
  | _ :: _, _ :: _, x => congrArg (· + 1) x.2.len
theorem TnsAt.keep {h h' : Heap} (k : ∀ v q, TnAt h v q → TnAt h' v q) : ∀ {vs : List Value} {qs : List (Int × Addr)}, TnsAt h vs qs → TnsAt h' vs qs
  | [], [], _ => True.intro
  | _ :: _, _ :: _, x => ⟨k _ _ x.1, x.2.keep k⟩
theorem TnsAt.get {h : Heap} : ∀ {vs : List Value} {qs : List (Int × Addr)} (i : Nat), TnsAt h vs qs → i < vs.length → TnAt h (vs.getD i Value.none) (qs.getD i ((0 : Int), 0))
  | v :: vs, q :: qs, 0, x, _ => x.1
  | v :: vs, q :: qs, i + 1, x, hi => by
    have := TnsAt.get i x.2 (by simpa using hi)
    simpa using this
theorem TnsAt.tups {h : Heap} : ∀ {vs : List Value} {qs : List (Int × Addr)}, TnsAt h vs qs → ∃ fs, W.KatTups h vs fs ∧ fs.length = vs.length ∧ ∀ v ∈ fs, ∃ x t, v = Value.int x t
  | [], [], _ => ⟨[], .nil, rfl, fun v hv => nomatch hv⟩
  | v :: vs, q :: qs, ⟨⟨t, rest, e, o, ho, hc, n, hd⟩, r⟩ => by
    obtain ⟨fs, h1, h2, h3⟩ := r.tups
    subst e
    refine ⟨Value.int q.1 t :: fs, .cons ho hc hd (by simp) h1, congrArg (· + 1) h2, fun v hv => ?_⟩
    rcases List.mem_cons.mp hv with e | hv
    · exact ⟨_, _, e⟩
    · exact h3 v hv
abbrev numKey (qs : List (Int × Addr)) (i : Nat) : intOrd.α := (qs.getD i ((0 : Int), 0)).1
section
variable {prog : Program} {w : World} {A : Around} {E : Value → Shared → Prop} {s : Shared}
theorem tn_lt {v v' : Value} {p q : Int × Addr} {Q : Bool → Shared → Prop} (hx : TnAt s.heap v p) (hy : TnAt s.heap v' q) (hne : p.1 = q.1 → p = q) (h : Q (decide (p.1 < q.1)) s) :
    wpAny (model prog w) A (keyLt' (tuples' true) v v') Q E s := by
  obtain ⟨t, rest, rfl, o, ho, _, n, hd⟩ := hx
  obtain ⟨t', rest', rfl, o', ho', _, n', hd'⟩ := hy
  by_cases e : p.1 = q.1
  · have e2 := hne e
    subst e2
    rw [ho] at ho'
    cases ho'
    refine W.kat_lt ho hd ho hd ?_
    have e4 : decide (p.1 < p.1) = false := by simpa using Int.lt_irrefl p.1
    rw [e4] at h
    refine lex_same _ 0 ?_
    simpa using h
  · refine W.kat_lt ho hd ho' hd' (W.kat_cons (wpAny_eqBool_int (W.kat_go (fun e' => absurd (eq_of_beq e') e) (fun _ => W.kat_no (oneLt_int h)))))
theorem list_sort_tns {a : Addr} {vs : List Value} {qs : List (Int × Addr)} {n : Nat} {R : PySem.Fin → Shared → Prop} (ho : s.heap.get? a = some (seqObj "list" vs.toArray n)) (hp : TnsAt s.heap vs qs) (hn : (qs.map (·.1)).Nodup) (h64 : vs.length < 64)
    (h : ∀ p : Array Nat, Prm vs.length p → Up (O := intOrd) (numKey qs) p vs.length → R (.done (.ret .none)) { s with heap := sortedHeap s.heap a vs (p.toList.map fun i => vs.getD i Value.none).toArray }) :
    wpAny (model prog w) A (Builtin.«list.sort» ⟨[.ref a], []⟩) R E s := by
  have ha : a < s.heap.objs.size := Heap.lt_size ho
  have hs1 : vs.toArray.size ≤ sizeLine := by rw [List.size_toArray]; exact Nat.le_trans (Nat.le_of_lt h64) (by decide)
  rw [list_sort_plain]
  apply wpAny_bind
  apply listItems_at ho rfl
  apply wpAny_bind
  refine listUpdate_at ho rfl ?_ hs1 (Nat.zero_le _)
  obtain ⟨e1, g1⟩ : ∃ e1, (s.heap.update a (Obj.mapSeq fun _ => (#[] : Array Value))).get? a = some (seqObj "list" #[] e1) := ⟨_, get?_update_seq ho fun _ => #[]⟩
  apply wpAny_bind
  apply seqEpoch_at g1 rfl
  apply wpAny_bind
  refine wpAny_newTuple ?_ (by simpa using hs1)
  apply wpAny_bind
  refine wpAny_newList ?_ (Nat.zero_le _)
  apply wpAny_holding
  have g3 : (((s.heap.update a (Obj.mapSeq fun _ => (#[] : Array Value))).push (seqObj "tuple" vs.toArray 0)).push (seqObj "list" #[] 0)).get? a = some (seqObj "list" #[] e1) := Heap.get?_push_of_some _ (Heap.get?_push_of_some _ g1)
  have kp : ∀ v q, TnAt s.heap v q → TnAt (((s.heap.update a (Obj.mapSeq fun _ => (#[] : Array Value))).push (seqObj "tuple" vs.toArray 0)).push (seqObj "list" #[] 0)) v q := by
    rintro v q ⟨t, rest, rfl, o, hb, hc, hd⟩
    have hne : q.2 ≠ a := by
      intro z
      rw [z] at hb
      rw [ho] at hb
      cases hb
      exact absurd (show (Value.type "list" : Value) = .type "tuple" from hc) (by decide)
    refine ⟨t, rest, rfl, o, Heap.get?_push_of_some _ (Heap.get?_push_of_some _ ?_), hc, hd⟩
    rw [Heap.get?_update_ne _ _ _ _ hne]
    exact hb
  have hp3 := hp.keep kp
  show wpAny (model prog w) A _ R E { s with heap := ((s.heap.update a (Obj.mapSeq fun _ => (#[] : Array Value))).push (seqObj "tuple" vs.toArray 0)).push (seqObj "list" #[] 0) }
  dsimp only
  by_cases h2 : vs.toArray.size < 2
  · rw [if_pos h2, if_pos h2]
    have hl2 : vs.length < 2 := by simpa using h2
    apply wpAny_bind
    apply wpAny_pure
    rw [StateT.run_pure]
    apply wpAny_bind
    apply wpAny_pure
    dsimp only
    have out : Array.map (fun x => x.2) (arrOf (SortSt.mk' general' (vs.toArray.zip vs.toArray) #[] 7 none)) = ((List.range vs.length).toArray.toList.map fun i => vs.getD i Value.none).toArray := by
      show Array.map (fun x => x.2) (vs.toArray.zip vs.toArray) = _
      match vs, hl2 with
      | [], _ => simp
      | [_], _ => simp [List.range_succ]
    rw [out]
    have hsz : ((List.range vs.length).toArray.toList.map fun i => vs.getD i Value.none).toArray.size ≤ sizeLine := by
      rw [List.size_toArray, List.length_map, List.toList_toArray, List.length_range]
      exact Nat.le_trans (Nat.le_of_lt h64) (by decide)
    apply wpAny_bind
    apply seqEpoch_at g3 rfl
    apply wpAny_bind
    refine listUpdate_at g3 rfl ?_ (Nat.zero_le _) (Nat.le_succ_of_le hsz)
    simp only [bne_self_eq_false, Bool.false_eq_true, if_false]
    refine wpAny_pure (h _ (Array.Perm.refl _) fun i j x y => ?_)
    obtain rfl : i = j := by omega
    exact KeyOrd.kle_refl _
  · rw [if_neg h2, if_neg h2]
    have hl2 : 2 ≤ vs.length := by
      have : ¬ vs.length < 2 := by simpa using h2
      omega
    obtain ⟨fs, t1, t2, t3⟩ := hp3.tups
    apply wpAny_bind
    refine W.kat_kind (T := .type "int") t1 (by omega) (fun v hv => ?_) (by decide) ?_
    · obtain ⟨x, t, rfl⟩ := t3 v hv
      exact W.Looks.of_pure rfl
    have et : tuples' (Value.type "int" != Value.type "tuple") = tuples' true := by rw [show (Value.type "int" != Value.type "tuple") = true by decide]
    rw [et]
    have run := W.kat_run (prog := prog) (w := w) (A := A) (E := E) (κ := tuples' true) (ks := vs) (vs := vs) (s := { s with heap := ((s.heap.update a (Obj.mapSeq fun _ => (#[] : Array Value))).push (seqObj "tuple" vs.toArray 0)).push (seqObj "list" #[] 0) })
      (Q := fun st' s' => ∃ p : Array Nat, p.size = vs.length ∧ arrOf st' = p.map (W.kas_item (vs.toArray.zip vs.toArray)) ∧ failedOf st' = none ∧ Prm vs.length p ∧ Up (O := intOrd) (numKey qs) p vs.length ∧ s' = { s with heap := ((s.heap.update a (Obj.mapSeq fun _ => (#[] : Array Value))).push (seqObj "tuple" vs.toArray 0)).push (seqObj "list" #[] 0) })
      (G := fun p s' => Prm vs.length p ∧ Up (O := intOrd) (numKey qs) p vs.length ∧ s' = { s with heap := ((s.heap.update a (Obj.mapSeq fun _ => (#[] : Array Value))).push (seqObj "tuple" vs.toArray 0)).push (seqObj "list" #[] 0) })
      rfl hl2 h64 (fun p st' s' a1 a2 a3 a4 => ⟨p, a1, a2, a3, a4⟩) ?_
    · apply wpAny_bind
      refine wpAny_mono run ?_ fun _ _ e => e
      rintro ⟨⟨⟩, st'⟩ s' ⟨p, hz, har, hf, pp, pu, rfl⟩
      dsimp only
      have hout := W.kat_snds rfl har
      rw [hout]
      have hsz : ((p.toList.map fun i => vs.getD i Value.none).toArray).size ≤ sizeLine := by
        rw [List.size_toArray, List.length_map, Array.length_toList, hz]
        exact Nat.le_trans (Nat.le_of_lt h64) (by decide)
      apply wpAny_bind
      apply seqEpoch_at g3 rfl
      apply wpAny_bind
      refine listUpdate_at g3 rfl ?_ (Nat.zero_le _) (Nat.le_succ_of_le hsz)
      rw [hf]
      simp only [bne_self_eq_false, Bool.false_eq_true, if_false]
      exact wpAny_pure (h p pp pu)
    · refine Ask.wp (lt := klt' (O := intOrd) (numKey qs)) (n := vs.length) (fun i j C hi hj hC => ?_) _ (ask_sort (by omega) fun p h1 h2 => ⟨h1, h2, rfl⟩)
      unfold W.kas_ask
      refine tn_lt (hp3.get i hi) (hp3.get j hj) (fun e => ?_) hC
      have hl := hp.len
      have ei : qs.getD i ((0 : Int), 0) = qs[i]'(by omega) := by simp [List.getD, List.getElem?_eq_getElem (show i < qs.length by omega)]
      have ej : qs.getD j ((0 : Int), 0) = qs[j]'(by omega) := by simp [List.getD, List.getElem?_eq_getElem (show j < qs.length by omega)]
      rw [ei, ej] at e ⊢
      have hij : i = j := (List.getElem_inj (xs := qs.map (·.1)) (h₀ := by rw [List.length_map]; omega) (h₁ := by rw [List.length_map]; omega) hn).mp (by simpa using e)
      subst hij
      rfl
theorem sorted_tns {l : Addr} {o : Obj} {vs : List Value} {qs : List (Int × Addr)} {n : Nat} {Q : Value → Shared → Prop} (ho : s.heap.get? l = some o) (hc : o.cls = .type "list") (hd : o.data = .seq vs.toArray n) (hp : TnsAt s.heap vs qs) (hn : (qs.map (·.1)).Nodup) (h64 : vs.length < 64)
    (h : ∀ (h1 h' : Heap) (p : Array Nat) (e : Nat), (∀ b ob, s.heap.get? b = some ob → h1.get? b = some ob) → (∀ b ob, h1.get? b = some ob → h'.get? b = some ob) → h'.get? h1.objs.size = some (seqObj "list" (p.toList.map fun i => vs.getD i Value.none).toArray e) →
      Prm vs.length p → Up (O := intOrd) (numKey qs) p vs.length → Q (.ref h1.objs.size) { s with heap := h' }) :
    wpAny (model prog w) A (call (.builtin "sorted") [.ref l]) Q E s := by
  apply Calls.call_function_entry kind_sorted plain_sorted entry_sorted (args_sorted1 _)
  unfold Builtin.«sorted»
  apply wpAny_bind (m := checkCount "sorted" 1 1 _)
  apply wpAny_pure
  apply wpAny_bind
  refine wpAny_collect_seq l (.inl rfl) ho hc hd (fun h1 k1 => ?_) (by rw [List.size_toArray]; exact Nat.le_trans (Nat.le_of_lt h64) (by decide))
  have e1 : vs.toArray.toList = vs := by simp
  rw [e1]
  apply wpAny_bind
  apply wpAny_newList
  · have g2 : (h1.push (seqObj "list" vs.toArray 0)).get? h1.objs.size = some (seqObj "list" vs.toArray 0) := Heap.get?_push_size _ rfl
    have hp2 : TnsAt (h1.push (seqObj "list" vs.toArray 0)) vs qs := hp.keep fun v q ⟨t, rest, e, ob, x1, x2⟩ => ⟨t, rest, e, ob, Heap.get?_push_of_some _ (k1 _ _ x1), x2⟩
    apply wpAny_bind
    apply wpAny_holding
    refine wpAny_call_entry slot_list_sort ⟨_, g2, rfl⟩ entry_list_sort (list_sort_tns (s := { s with heap := h1.push (seqObj "list" vs.toArray 0) }) g2 hp2 hn h64 fun p q1 q2 => ⟨_, rfl, wpAny_pure ⟨_, rfl, ?_⟩⟩) (args_list_sort _)
    obtain ⟨e, he⟩ := sortedHeap_at (out := (p.toList.map fun i => vs.getD i Value.none).toArray) g2
    refine h h1 _ p e k1 (fun b ob hb1 => ?_) he q1 q2
    have hlt := Heap.lt_size hb1
    rw [sortedHeap_old (Nat.ne_of_lt hlt) (by rw [size_push']; exact Nat.lt_succ_of_lt hlt)]
    exact Heap.get?_push_of_some _ hb1
  · exact Nat.le_trans (Nat.le_of_lt h64) (by decide)
end
abbrev Tn := Int × Addr × List V
def tln (x y : Tn) : Prop := x.1 ≤ y.1
def NAt (H : Hp) (zs : List Tn) : Prop := ∀ z ∈ zs, H z.2.1 = some (.tup (.int z.1 :: z.2.2))
def nref (zs : List Tn) : List V := zs.map fun z => V.ref z.2.1
section
variable {X : Cx} {pins : List (Addr × Obj)} {σ : St} {H : Hp} {s : Shared}
theorem tns_at (I : Inv X pins σ H s) : ∀ {zs : List Tn} {vs : List Value}, NAt H zs → Vals (nref zs) vs → TnsAt s.heap vs (zs.map (fun z => (z.1, z.2.1)))
  | [], [], _, _ => True.intro
  | z :: zs, v :: vs, hz, .cons r rs => by
    have e := hz z List.mem_cons_self
    obtain ⟨_, its, r1, it⟩ := (show ObjOk X.prog X.w H s.heap z.2.1 (.tup (.int z.1 :: z.2.2)) from I.hok _ _ e)
    cases r
    refine ⟨?_, tns_at I (fun y hy => hz y (List.mem_cons_of_mem _ hy)) rs⟩
    cases r1 with
    | cons a1 r2 =>
      obtain ⟨t, rfl⟩ := a1
      exact ⟨t, _, rfl, it⟩
def mSortedN (K : W.Frag) : List V → Hp → VK → Prop := fun vs H Q => match vs with
  | [.ref a] => ∃ zs : List Tn, SqL K H a (nref zs) ∧ NAt H zs ∧ (zs.map (·.1)).Nodup ∧ zs.length < 64 ∧ ∀ l zs', H l = none → zs'.Perm zs → zs'.Pairwise tln → Q (.ref l) (upd H l (.lst (nref zs')))
  | _ => False
theorem c_sortedN : CallR X (.builtin "sorted") (mSortedN X.K) := by
  intro pins s σ H xs us Q I r h
  unfold mSortedN at h
  split at h
  · rename_i a
    obtain ⟨zs, hq, hz, hnd, h64, q⟩ := h
    obtain ⟨u, rfl, ru⟩ := vals1 r
    cases ru
    obtain ⟨its, r1, p1, _⟩ := I.list hq
    obtain ⟨o, ho, hc, n, hd⟩ := p1.isList
    have hl : its.length = zs.length := by
      have := r1.length
      unfold nref at this
      rw [List.length_map] at this
      exact this.symm
    have hp := tns_at I hz r1
    refine sorted_tns ho hc hd hp (by rw [List.map_map]; exact hnd) (by omega) fun h1 h' p e k1 k he pp pu => ?_
    have I1 := I.kept (t' := s.toks) k1
    have hps : ∀ i ∈ p.toList, i < zs.length := fun i hi => by
      have := (Array.perm_iff_toList_perm.mp pp).mem_iff.mp hi
      rw [← hl]
      simpa using this
    have e1 : (p.toList.map fun i => zs.getD i ((0 : Int), 0, [])).Perm zs := by
      have e2 : (List.range zs.length).map (fun i => zs.getD i ((0 : Int), 0, [])) = zs := by
        apply List.ext_getElem
        · simp
        · intro i h1 h2
          simp [List.getD, List.getElem?_eq_getElem h2]
      have e3 := (Array.perm_iff_toList_perm.mp pp).map (fun i => zs.getD i ((0 : Int), 0, []))
      rw [List.toList_toArray, hl, e2] at e3
      exact e3
    have hsz : p.size = zs.length := by rw [pp.size, hl]
    refine ⟨.ref h1.objs.size, _, I1.laid (t' := s.toks) (o := .lst (nref (p.toList.map fun i => zs.getD i ((0 : Int), 0, [])))) k (Nat.le_refl _) ⟨?_, (p.toList.map fun i => its.getD i Value.none), e, ?_, he⟩, rfl, q _ _ (I1.hok.fresh (Nat.le_refl _)) e1 ?_⟩
    · unfold nref
      rw [List.length_map, List.length_map, Array.length_toList, hsz]
      exact Nat.le_trans (Nat.le_of_lt h64) (by decide)
    · unfold nref
      rw [List.map_map]
      refine vals_map fun i hi => ?_
      have hi' := hps i hi
      refine vals_getD i r1 (by unfold nref; rw [List.length_map]; exact hi') _ ?_
      unfold nref
      rw [List.getElem?_map, List.getElem?_eq_getElem hi']
      simp [List.getD, List.getElem?_eq_getElem hi']
    · rw [List.pairwise_iff_getElem]
      intro i j hi hj hij
      rw [List.length_map, Array.length_toList] at hi hj
      have hu := pu i j (Nat.le_of_lt hij) (by omega)
      unfold tln
      have key : ∀ k, k < p.size → (zs.getD (p.getD k 0) ((0 : Int), 0, [])).1 = kg (O := intOrd) (numKey (zs.map (fun z => (z.1, z.2.1)))) p k := fun k hk => by
        have hk' : p.getD k 0 < zs.length := by rw [← hl]; exact pp.lt (by rw [hl, ← hsz]; exact hk)
        unfold kg numKey
        generalize p.getD k 0 = i' at hk'
        simp [List.getD, List.getElem?_eq_getElem hk']
      have gi : ∀ k (hk : k < (p.toList.map fun i => zs.getD i ((0 : Int), 0, [])).length), (p.toList.map fun i => zs.getD i ((0 : Int), 0, []))[k] = zs.getD (p.getD k 0) ((0 : Int), 0, []) := fun k hk => by
        have hk' : k < p.size := by simpa using hk
        simp [Array.getD, hk']
      rw [gi, gi, key i (by omega), key j (by omega)]
      have hu2 : decide ((kg (O := intOrd) (numKey (zs.map (fun z => (z.1, z.2.1)))) p j : Int) < (kg (O := intOrd) (numKey (zs.map (fun z => (z.1, z.2.1)))) p i : Int)) = false := hu
      exact Int.not_lt.mp (of_decide_eq_false hu2)
  · exact h.elim
theorem R.ksortedN {K : W.Frag} (hK : X.K = K := by rfl) : XC X (.builtin "sorted") (mSortedN K) := hK ▸ ⟨c_sortedN⟩
end
end L2
namespace L2
open PySem PySem.Spec PyProof.Rows
structure FzT (o : Obj) (es : Array DictEntry) (ep : Nat) (bs : List Addr) : Prop where
  ex : o.ExactDict
  dat : o.data = .dict es ep
  keys : es.toList.map (·.key) = bs.map Value.ref
theorem FzT.size {o : Obj} {es : Array DictEntry} {ep : Nat} {bs : List Addr} (f : FzT o es ep bs) : es.size = bs.length := by
  have := congrArg List.length f.keys
  rw [List.length_map, List.length_map, Array.length_toList] at this
  exact this
theorem FzT.at {o : Obj} {es : Array DictEntry} {ep : Nat} {bs : List Addr} (f : FzT o es ep bs) {i : Nat} (hi : i < es.size) : ∃ hb : i < bs.length, es[i].key = Value.ref bs[i] := by
  have hb : i < bs.length := by rw [← f.size]; exact hi
  refine ⟨hb, ?_⟩
  have h1 : (es.toList.map (·.key))[i]? = some es[i].key := by rw [List.getElem?_map, Array.getElem?_toList, Array.getElem?_eq_getElem hi]; rfl
  rw [f.keys, List.getElem?_map, List.getElem?_eq_getElem hb] at h1
  exact (Option.some.inj h1).symm
def Itdt (a : Addr) (o : Obj) (kvs : List (List Key × V)) (bs : List Addr) : It :=
  ⟨fun i H => H a = some (.frz o (.dT kvs)) ∧ i < bs.length, fun i H x H' => H' = H ∧ (bs.map V.ref)[i]? = some x, fun i H => H a = some (.frz o (.dT kvs)) ∧ bs.length ≤ i⟩
theorem seq_dt (a : Addr) (o : Obj) (kvs : List (List Key × V)) (bs : List Addr) : Seqs (Itdt a o kvs bs) (bs.map V.ref) (fun H => H a = some (.frz o (.dT kvs))) :=
  ⟨fun i H hi e => ⟨e, by rwa [List.length_map] at hi⟩, fun i H x H' _ _ y => y, fun H e => ⟨e, by rw [List.length_map]; exact Nat.le_refl _⟩⟩
section
variable {X : Cx} {pins : List (Addr × Obj)} {σ : St} {H : Hp} {s : Shared} {a : Addr} {o : Obj} {kvs : List (List Key × V)}
theorem frzT_at {P : Program} {w : World} {h : Heap} (ok : HOk P w H h) (e : H a = some (.frz o (.dT kvs))) : h.get? a = some o :=
  (show ObjOk P w H h a (.frz o (.dT kvs)) from ok a _ e).1
theorem turn_dt {P : Program} {w : World} {K : W.Frag} {tg : Expr} (a it : Addr) {es : Array DictEntry} {ep : Nat} {bs : List Addr} (f : FzT o es ep bs) : Turn P w K tg (Itdt a o kvs bs) [it] it (fun i h => h.IsKeyIter it a i bs.length ep) where
  mem := by simp
  obj := fun i h st b hb => by
    obtain rfl : b = it := by simpa using hb
    obtain ⟨ob, e, c, d⟩ := st
    exact ⟨ob, e, fun v z => by rw [d] at z; cases z⟩
  keep := fun i h h' st k => st.at fun ob e => k it (by simp) ob e
  item := by
    intro X hP hw hK hc i pins s σ H E I hf st hg
    subst hP hw hK
    obtain ⟨ef, hi⟩ := hg
    have h1 := frzT_at I.hok ef
    obtain ⟨f0, f1, f2, f3, f4, f5⟩ := hf it (by simp)
    have hi' : i < es.size := by rw [f.size]; exact hi
    obtain ⟨hb, hk⟩ := f.at hi'
    refine raw_next st h1 f.dat f.size hi' fun h' st' sb => ?_
    have I1 : Inv X pins σ H { s with heap := h' } := I.turned (t' := s.toks) (fun b ob hb e => (sb.2 b hb).trans e) f0 f1 f3 f4 f5
    obtain ⟨ob, e, c, d⟩ := id st'
    rw [hk]
    refine ⟨_, rfl, go_of (s := { s with heap := h' }) e c d (by decide) ⟨.ref bs[i], H, I1, rfl, ⟨rfl, ?_⟩, st', fun b hb => (hf b hb).1⟩⟩
    rw [List.getElem?_map, List.getElem?_eq_getElem hb]
    rfl
  done := by
    intro X hP hw hK hc i pins s σ H E I hf st hg
    subst hP hw hK
    obtain ⟨ef, hi⟩ := hg
    have h1 := frzT_at I.hok ef
    obtain ⟨f0, f1, f2, f3, f4, f5⟩ := hf it (by simp)
    exact raw_end (I.ok.hd hc) st h1 f.dat f.size (by rw [f.size]; exact hi) fun h' eb => ⟨rfl, I.turned (t' := s.toks) (fun b ob hb e => eb b ob hb e) f0 f1 f3 f4 f5⟩
  self := fun _ _ _ _ _ st h => wpAny_pyIter_keyiter st h
theorem Inv.freezeT (I : Inv X pins σ H s) (e : H a = some (.dT kvs)) : ∃ (ob : Obj) (es : Array DictEntry) (ep : Nat) (bs : List Addr), s.heap.get? a = some ob ∧ FzT ob es ep bs ∧ bs.length = kvs.length ∧ (∀ (i : Nat) (b : Addr), bs[i]? = some b → ∃ p : List Key × V, kvs[i]? = some p ∧ H b = some (.tup (p.1.map kV))) ∧ (a == sysModules) = false ∧ Inv X pins σ (upd H a (.frz ob (.dT kvs))) s := by
  obtain ⟨z, hd, xs, rel, ob, es, ep, g, h2, h3, h4, h5⟩ := (show ObjOk X.prog X.w H s.heap a (.dT kvs) from I.hok a _ e)
  refine ⟨ob, es, ep, xs.map (·.2.1), g, ⟨h2, h3, ?_⟩, ?_, fun i b hb => ?_, hd, ?_⟩
  · rw [h4, List.map_map, List.map_map]
    rfl
  · rw [List.length_map]
    exact (Paired.length rel).symm
  · rw [List.getElem?_map] at hb
    obtain ⟨x, hx, rfl⟩ := Option.map_eq_some_iff.mp hb
    have hi : i < xs.length := (List.getElem?_eq_some_iff.mp hx).1
    obtain ⟨h2, _, hr, _⟩ := Paired.get' (j := i) rel hi
    have e1 : xs[i] = x := (List.getElem?_eq_some_iff.mp hx).2
    rw [e1] at hr
    exact ⟨kvs[i], List.getElem?_eq_getElem h2, hr⟩
  · have kt : ∀ b ys, H b = some (.tup ys) → (upd H a (.frz ob (.dT kvs))) b = some (.tup ys) := fun b ys q => by rw [upd_ne (ne_of q e (fun z => nomatch z))]; exact q
    exact I.write (t' := s.toks) (h' := s.heap) (x := a) (e := a) (o := .frz ob (.dT kvs)) (by rw [e]; exact True.intro) (.inl rfl) (fun b u _ q => q) ⟨ob, g⟩ ⟨g, z, hd, xs, KT.keeps rel kt, ob, es, ep, g, h2, h3, h4, h5⟩
theorem Inv.thawT (I : Inv X pins σ H s) (e : H a = some (.frz o (.dT kvs))) (hn : ∀ o' u, X.H₀ a ≠ some (.frz o' u)) : Inv X pins σ (upd H a (.dT kvs)) s where
  ok := I.ok
  os := I.os
  bare := I.bare
  base := by
    have na : ∀ b, H b = none → b ≠ a := fun b z q => by rw [q, e] at z; cases z
    refine ⟨I.base.keep, I.base.slot, fun b ob q n hx => ?_, I.base.there, fun b xs q => ?_, fun b ob u q => ?_, fun b ps q => ?_⟩
    · have := I.base.free b ob q n hx
      rw [upd_ne (na b this)]
      exact this
    · have := I.base.tups b xs q
      rw [upd_ne (ne_of this e (fun z => nomatch z))]
      exact this
    · have := I.base.frzs b ob u q
      by_cases hb : b = a
      · subst hb
        exact absurd q (hn ob u)
      · rw [upd_ne hb]
        exact this
    · obtain ⟨more, q2⟩ := I.base.tbls b ps q
      exact ⟨more, by rw [upd_ne (ne_of q2 e (fun z => nomatch z))]; exact q2⟩
  loc := I.loc
  cell := I.cell
  free := by
    have z := I.free
    rw [upd_ne (fun q => by rw [q, e] at z; cases z)]
    exact z
  freeC := fun x c h => by
    have z := I.freeC x c h
    rw [upd_ne (fun q => by rw [q, e] at z; cases z)]
    exact z
  pin := fun p hp => by
    obtain ⟨p1, p2, p3⟩ := I.pin p hp
    refine ⟨p1, ?_, p3⟩
    rw [upd_ne (fun q => by rw [q, e] at p2; cases p2)]
    exact p2
  hok := by
    intro b u hb
    have st : ∀ {c : Addr} {v : HO}, ObjOk X.prog X.w H s.heap c v → ObjOk X.prog X.w (upd H a (.dT kvs)) s.heap c v := fun x => x.stay (fun c v _ h => h) (fun c h => by rw [upd_ne (ne_of h e (fun z => nomatch z))]; exact h) fun c xs h => by rw [upd_ne (ne_of h e (fun z => nomatch z))]; exact h
    by_cases q : b = a
    · subst q
      rw [upd_same] at hb
      cases hb
      exact st (show ObjOk X.prog X.w H s.heap b (.frz o (.dT kvs)) from I.hok b _ e).2
    · rw [upd_ne q] at hb
      exact st (I.hok b u hb)
  len := I.len
def iDctT (te : TE) : TI := fun σ H R => te σ H fun x H1 => mR x fun a => ∃ kvs, H1 a = some (.dT kvs) ∧ ∀ (o : Obj) (bs : List Addr), bs.length = kvs.length → (∀ (i : Nat) (b : Addr), bs[i]? = some b → ∃ p : List Key × V, kvs[i]? = some p ∧ H1 b = some (.tup (p.1.map kV))) → R (Itdt a o kvs bs) (upd H1 a (.frz o (.dT kvs)))
theorem pi_dctT {tg l : Expr} {tl : TE} (hl : PE X l tl) : PI X tg l (iDctT tl) := by
  intro pins s σ H R I h
  refine thn (hl pins s σ H _ I h) fun v s1 ⟨x, H1, I1, r1, q1⟩ => ?_
  dsimp only at q1
  rw [mR_eq] at q1
  obtain ⟨a, rfl, kvs, e, q⟩ := q1
  cases r1
  obtain ⟨ob, es, ep, bs, g, f, hl', hb, lo, I2⟩ := I1.freezeT e
  have hn : (upd H1 a (.frz ob (.dT kvs))) s1.heap.objs.size = none := I2.hok.fresh (Nat.le_refl _)
  refine raw_iter lo g f.ex f.dat ?_
  refine ⟨s1.heap.objs.size, [s1.heap.objs.size], _, _, _, rfl, I2.kept (t' := s1.toks) fun b o e => Heap.get?_push_of_some _ e, turn_dt a _ f, ⟨_, Heap.get?_push_size _ rfl, rfl, ?_⟩, fun b hb => ?_, q ob bs hl' hb⟩
  · rw [f.size]; rfl
  · obtain rfl : b = s1.heap.objs.size := by simpa using hb
    exact I2.fpOk (Nat.le_refl _) hn
def tThawT (t : TE) : TE := fun σ H Q => t σ H fun v H2 => ∃ a kvs o, (∃ kvs0, H a = some (.dT kvs0)) ∧ H2 a = some (.frz o (.dT kvs)) ∧ Q v (upd H2 a (.dT kvs))
theorem pe_thawT {e : Expr} {t : TE} (he : PE X e t) : PE X e (tThawT t) := by
  intro pins s σ H Q I h
  refine thn (he pins s σ H _ I h) fun u s1 ⟨v, H2, I2, rv, a, kvs, o, ⟨kvs0, e0⟩, e2, q⟩ => ⟨v, _, I2.thawT e2 (fun o' u' z => ?_), rv, q⟩
  have := I.base.frzs a o' u' z
  rw [e0] at this
  cases this
def sThawT (t : TS) : TS := fun D σ H => t { nx := fun σ' H2 => ∃ a kvs o, (∃ kvs0, H a = some (.dT kvs0)) ∧ H2 a = some (.frz o (.dT kvs)) ∧ D.nx σ' (upd H2 a (.dT kvs)), rt := fun _ _ => False } σ H
theorem ps_thawT {e : Stmt} {t : TS} (he : PS X e t) : PS X e (sThawT t) := by
  intro pins s σ H D I h
  refine thn (he pins s σ H _ I h) fun f s1 q => ?_
  cases f with
  | next =>
    obtain ⟨σ', H2, I2, a, kvs, o, ⟨kvs0, e0⟩, e2, q⟩ := q
    refine ⟨σ', _, I2.thawT e2 (fun o' u' z => ?_), q⟩
    have := I.base.frzs a o' u' z
    rw [e0] at this
    cases this
  | brk => obtain ⟨_, _, _, q⟩ := q; exact q.elim
  | cont => obtain ⟨_, _, _, q⟩ := q; exact q.elim
  | ret u => obtain ⟨_, _, _, _, _, q⟩ := q; exact q.elim
end
namespace R
section
variable {X : Cx} {tg l e1 : Expr} {tl te : TE} {e : Stmt} {t : TS}
theorem wDt (hl : XE X l tl) : XI X tg l (iDctT tl) := ⟨pi_dctT hl.h⟩
theorem thawT (h : XE X e1 te) : XE X e1 (tThawT te) := ⟨pe_thawT h.h⟩
theorem sthawT (h : XS X e t) : XS X e (sThawT t) := ⟨ps_thawT h.h⟩
end
end R
end L2
namespace L2
open PySem PySem.Spec PyProof.Rows
section
variable {prog : Program} {w : World} {A : Around} {E : Value → Shared → Prop} {s : Shared} {u v d : Addr} {i n ep : Nat} {od : Obj} {es : Array DictEntry} {ok ov : Value}
theorem raw_items (lo : (d == sysModules) = false) : MeetsIn prog w (Builtin.«dict.items» ⟨[.ref d], []⟩) (fun _ R s => (∃ od, s.heap.get? d = some od ∧ od.ExactDict) ∧ R (.ok (.ret (.ref s.heap.objs.size))) { s with heap := s.heap.push { cls := .type "dict_items", data := .fields #[.ref d] } }) :=
  .of_wp fun A R s ⟨⟨od, g, ec⟩, q⟩ => by
    unfold Builtin.«dict.items»; refine wpAny_bind ?_; unfold Builtin.Dict.noArgs; refine wpAny_bind (wpAny_notOrdered_dict ⟨od, g, ec.1⟩ ?_)
    show wpAny _ _ (pure d) _ _ s; refine wpAny_pure ?_; show wpAny _ _ (Builtin.Dict.showsAll d >>= _) _ _ s; unfold Builtin.Dict.showsAll
    rw [if_neg (by rw [lo]; exact Bool.false_ne_true)]; exact wpAny_bind (wpAny_pure (wpAny_bind (wpAny_newObj_type (wpAny_pure ⟨_, rfl, q⟩))))
theorem raw_iiter {Q : Value → Shared → Prop} (hv : s.heap.IsItemsView v d) (g : s.heap.get? d = some od) (gd : od.data = .dict es ep)
    (q : Q (.ref s.heap.objs.size) { s with heap := s.heap.push { cls := .type "dict_itemiterator", data := .fields #[.none, .bool false, .ref d, .int 0 0, .int es.size 0, .int ep 0, .none, .none] } }) : wpAny (model prog w) A (pyIter (.ref v)) Q E s := by
  obtain ⟨vo, g1, c1, d1⟩ := id hv
  refine wpAny_pyIter_slot hv.typeIs PySem.F.slot_dict_items_iter (wpAny_call_entry PySem.F.slot_dict_items_iter hv.typeIs PySem.F.entry_dict_items_iter ?_ (PySem.F.args_dict_items_iter_1 _))
  unfold Builtin.«dict_items.__iter__»; refine wpAny_bind (wpAny_pure (wpAny_bind ?_)); unfold Builtin.Dict_items.dictOf; refine wpAny_bind (wpAny_field g1 d1 (x := .ref d) rfl (wpAny_pure (wpAny_bind ?_)))
  unfold Builtin.Dict_items.newIterator; refine wpAny_bind (wpAny_dictEntries g gd (wpAny_bind (wpAny_dictEpoch g gd ?_))); have own : Builtin.Dict_items.ownsTuple "dict_itemiterator" = true := by decide
  simp only [own, if_true]; refine wpAny_newObj_type (wpAny_pure ⟨_, rfl, "dict_itemiterator", _, ⟨_, Heap.get?_push_size _ rfl, rfl⟩, PySem.F.slot_dict_itemiterator_next.lookup, ?_⟩) (by simp only [sizeOk, Builtin.Dict_items.ownedTupleFields, List.size_toArray, List.length_append, List.length_cons, List.length_nil, sizeLine_eq]; omega)
  simpa [rawInt, Builtin.Dict_items.ownedTupleFields] using q
theorem raw_inext {Q : Option Value → Shared → Prop} (jt : IsItemIter s.heap u d i n ep ok ov) (g : s.heap.get? d = some od) (gd : od.data = .dict es ep) (hn : es.size = n) (hi : i < es.size)
    (q : ∀ h', IsItemIterOut h' u d (i + 1) n ep es[i].key es[i].val s.heap.objs.size → h'.get? s.heap.objs.size = some { cls := .type "tuple", data := .seq #[es[i].key, es[i].val] } → h'.objs.size = s.heap.objs.size + 1 → (∀ b o, b ≠ u → s.heap.get? b = some o → h'.get? b = some o) → Q (some (.ref s.heap.objs.size)) { s with heap := h' }) :
    wpAny (model prog w) A (pyNext (.ref u)) Q E s := by
  obtain ⟨hp, gg, dr, tk, os⟩ := s
  have ty : Shared.TypeIs ⟨hp, gg, dr, tk, os⟩ (.ref u) "dict_itemiterator" := ⟨_, jt, rfl⟩; have own : Builtin.Dict_items.ownsTuple "dict_itemiterator" = true := by decide
  unfold pyNext; refine wpAny_bind (wpAny_attempt (wpAny_callSpecial?_slot (name := Str.ofString "__next__") ty PySem.F.slot_dict_itemiterator_next (wpAny_call_entry PySem.F.slot_dict_itemiterator_next ty PySem.F.entry_dict_itemiterator_next ?_ (PySem.F.args_dict_itemiterator_next_1 _))))
  refine wpAny_bind (wpAny_pure (wpAny_bind (wpAny_bind ?_)))
  first | refine wpAny_bind (wpAny_typeNameOfWhole_itemiter ty (wpAny_pure (wpAny_bind (wpAny_fieldsOf jt rfl ?_)))) | refine wpAny_bind (wpAny_typeNameOf_itemiter ty (wpAny_pure (wpAny_bind (wpAny_fieldsOf jt rfl ?_))))
  simp only [own, if_true]; show wpAny _ _ (if (Value.ref d == Value.none) = true then _ else _) _ _ _
  rw [if_neg (show ¬ ((Value.ref d == Value.none) = true) from Bool.false_ne_true)]; refine wpAny_bind (wpAny_pure (wpAny_bind (wpAny_dictEntries g gd ?_)))
  rw [if_neg (by rw [hn]; simp)]; refine wpAny_bind (wpAny_pure (wpAny_bind (wpAny_dictEpoch g gd ?_))); rw [if_neg (by simp)]; refine wpAny_pure ?_
  simp only [show ¬ ((i : Int) < 0) from by omega, if_false, Int.toNat_natCast, Array.getElem?_eq_getElem hi]; refine wpAny_bind ?_
  first | refine wpAny_bind (wpAny_typeNameOfWhole_itemiter ty (wpAny_pure (wpAny_bind (wpAny_isOneOf_itemiter ty ?_)))) | refine wpAny_bind (wpAny_typeNameOf_itemiter ty (wpAny_pure (wpAny_bind (wpAny_isOneOf_itemiter ty ?_))))
  show wpAny _ _ (setField (.ref u) 3 (rawInt ((i : Int) + 1)) >>= _) _ _ ⟨hp, gg, dr, tk, os⟩; refine wpAny_bind (wpAny_setField_rec jt (by simp) fun h1 e1 b1 => ?_)
  replace b1 : Heap.SameBut u hp h1 := b1
  replace e1 : IsItemIter h1 u d (i + 1) n ep ok ov := by
    have ee : ((i + 1 : Nat) : Int) = (i : Int) + 1 := by omega
    unfold IsItemIter
    rw [ee]; simpa [rawInt] using e1
  have ty1 : Shared.TypeIs ⟨h1, gg, dr, tk, os⟩ (.ref u) "dict_itemiterator" := ⟨_, e1, rfl⟩
  refine wpAny_bind (wpAny_holding (wpAny_bind (wpAny_isOneOf_itemiter ty1 (wpAny_bind (wpAny_isOneOf_itemiter ty1 ?_)))))
  show wpAny _ _ (Builtin.Dict_items.pairFromOwner (.ref u) 6 es[i].key es[i].val) _ _ ⟨h1, gg, dr, tk, os⟩; unfold Builtin.Dict_items.pairFromOwner; refine wpAny_bind (wpAny_newTuple ?_)
  have e2 : IsItemIter (h1.push { cls := .type "tuple", data := .seq #[es[i].key, es[i].val] }) u d (i + 1) n ep ok ov := Heap.get?_push_of_some _ e1
  have lu : u < hp.objs.size := Heap.lt_size jt; have z1 : h1.objs.size = hp.objs.size := b1.1
  have t2 : (h1.push { cls := .type "tuple", data := .seq #[es[i].key, es[i].val] }).get? hp.objs.size = some { cls := .type "tuple", data := .seq #[es[i].key, es[i].val] } := by rw [← z1]; exact Heap.get?_push_size _ rfl
  have z2 : (h1.push { cls := .type "tuple", data := .seq #[es[i].key, es[i].val] }).objs.size = hp.objs.size + 1 := by rw [Heap.size_push, z1]
  have k2 : ∀ b o, b ≠ u → hp.get? b = some o → (h1.push { cls := .type "tuple", data := .seq #[es[i].key, es[i].val] }).get? b = some o := fun b o hb e => Heap.get?_push_of_some _ (b1.extBut b o hb e)
  generalize h1.push { cls := .type "tuple", data := .seq #[es[i].key, es[i].val] } = h2 at e2 t2 z2 k2
  show wpAny _ _ (Builtin.Dict_items.ownedTupleIsFree (.ref u) >>= _) _ _ ⟨h2, gg, dr, tk, os⟩; rw [z1]; clear e1 b1 ty1 z1 h1
  refine wpAny_bind ?_; unfold Builtin.Dict_items.ownedTupleIsFree; refine wpAny_bind (wpAny_field e2 rfl (x := .none) rfl (wpAny_pure ?_)); simp only [if_true]
  refine wpAny_bind (wpAny_field e2 rfl (x := ok) rfl (wpAny_bind (wpAny_field e2 rfl (x := ov) rfl (wpAny_bind (wpAny_setField_rec e2 (by simp) fun h3 e3 b3 => ?_)))))
  replace b3 : Heap.SameBut u h2 h3 := b3; replace e3 : IsItemIter h3 u d (i + 1) n ep es[i].key ov := e3
  refine wpAny_bind (wpAny_setField_rec e3 (by simp) fun h4 e4 b4 => ?_); replace b4 : Heap.SameBut u h3 h4 := b4; replace e4 : IsItemIter h4 u d (i + 1) n ep es[i].key es[i].val := e4
  refine wpAny_bind (wpAny_setField_rec e4 (by simp) fun h5 e5 b5 => ?_); replace b5 : Heap.SameBut u h4 h5 := b5; replace e5 : IsItemIterOut h5 u d (i + 1) n ep es[i].key es[i].val hp.objs.size := e5
  refine wpAny_bind (wpAny_setField_rec e5 (by simp) fun h6 e6 b6 => ?_); replace b6 : Heap.SameBut u h5 h6 := b6; replace e6 : IsItemIterOut h6 u d (i + 1) n ep es[i].key es[i].val hp.objs.size := e6
  have kk : ∀ b o, b ≠ u → h2.get? b = some o → h6.get? b = some o := fun b o hb e => b6.extBut b o hb (b5.extBut b o hb (b4.extBut b o hb (b3.extBut b o hb e)))
  refine wpAny_bind (wpAny_letGo (wpAny_pure (wpAny_pure ⟨_, rfl, wpAny_pure (q h6 e6 (kk _ _ (Nat.ne_of_gt lu) t2) ?_ fun b o hb e => kk _ _ hb (k2 _ _ hb e))⟩)))
  show h6.objs.size = hp.objs.size + 1; rw [b6.1, b5.1, b4.1, b3.1, z2]
theorem raw_iend {Q : Option Value → Shared → Prop} (hh : A.handled = none) (jt : IsItemIter s.heap u d i n ep ok ov) (g : s.heap.get? d = some od) (gd : od.data = .dict es ep) (hn : es.size = n) (hi : es.size ≤ i)
    (q : ∀ h', Heap.ExtBut u s.heap h' → Q none { s with heap := h' }) : wpAny (model prog w) A (pyNext (.ref u)) Q E s := by
  have ty : s.TypeIs (.ref u) "dict_itemiterator" := ⟨_, jt, rfl⟩; have own : Builtin.Dict_items.ownsTuple "dict_itemiterator" = true := by decide
  unfold pyNext; refine wpAny_bind (wpAny_attempt (wpAny_callSpecial?_slot (name := Str.ofString "__next__") ty PySem.F.slot_dict_itemiterator_next (wpAny_call_entry PySem.F.slot_dict_itemiterator_next ty PySem.F.entry_dict_itemiterator_next ?_ (PySem.F.args_dict_itemiterator_next_1 _))))
  refine wpAny_bind (wpAny_pure (wpAny_bind (wpAny_bind ?_)))
  first | refine wpAny_bind (wpAny_typeNameOfWhole_itemiter ty (wpAny_pure (wpAny_bind (wpAny_fieldsOf jt rfl ?_)))) | refine wpAny_bind (wpAny_typeNameOf_itemiter ty (wpAny_pure (wpAny_bind (wpAny_fieldsOf jt rfl ?_))))
  simp only [own, if_true]; show wpAny _ _ (if (Value.ref d == Value.none) = true then _ else _) _ _ s
  rw [if_neg (show ¬ ((Value.ref d == Value.none) = true) from Bool.false_ne_true)]; refine wpAny_bind (wpAny_pure (wpAny_bind (wpAny_dictEntries g gd ?_)))
  rw [if_neg (by rw [hn]; simp)]; refine wpAny_bind (wpAny_pure (wpAny_bind (wpAny_dictEpoch g gd ?_))); rw [if_neg (by simp)]; refine wpAny_pure ?_
  simp only [show ¬ ((i : Int) < 0) from by omega, if_false, Int.toNat_natCast, Array.getElem?_eq_none hi]; refine wpAny_bind ?_
  first | refine wpAny_bind (wpAny_typeNameOfWhole_itemiter ty (wpAny_pure ?_)) | refine wpAny_bind (wpAny_typeNameOf_itemiter ty (wpAny_pure ?_))
  show wpAny _ _ (setField (.ref u) 2 .none >>= _) _ _ s; refine wpAny_bind (wpAny_setField jt rfl (by simp) ?_); show wpAny _ _ (newExc (.type "StopIteration") [] >>= _) _ _ _
  refine wpAny_bind ?_; simp only [newExc, newTuple]; refine wpAny_bind (wpAny_newObj_type ?_ (by size_fits))
  refine wpAny_bind (m := firstArgMember _ _) (wpAny_of_eq (a := Value.none) (by first | rfl | (simp only [firstArgMember]; rfl)) (wpAny_newObj_type ?_ (by size_fits)))
  simp only [raiseNew]; refine wpAny_bind (wpAny_handled ?_); rw [show A.in1.handled = none from hh]; refine wpAny_bind (wpAny_pure (wpAny_throw ?_))
  exact wpAny_bind (wpAny_isInstance (T := "StopIteration") (b := true) ⟨_, Heap.get?_push_size _ rfl, rfl⟩ isSubtype_stop (wpAny_pure (q _ (((Heap.SameBut.update ..).extBut.push _).push _))))
end
end L2
namespace L2
open PySem PySem.Spec PyProof.Rows
structure FzI (o : Obj) (es : Array DictEntry) (ep : Nat) (ps : List (Addr × V)) : Prop where
  ex : o.ExactDict
  dat : o.data = .dict es ep
  prs : Paired (fun (p : Addr × V) (e : DictEntry) => e.key = Value.ref p.1 ∧ RelV p.2 e.val) ps es.toList
theorem FzI.size {o : Obj} {es : Array DictEntry} {ep : Nat} {ps : List (Addr × V)} (f : FzI o es ep ps) : es.size = ps.length := by
  rw [← Array.length_toList]
  exact (Paired.length f.prs).symm
theorem FzI.at {o : Obj} {es : Array DictEntry} {ep : Nat} {ps : List (Addr × V)} (f : FzI o es ep ps) {i : Nat} (hi : i < es.size) : ∃ hb : i < ps.length, es[i].key = Value.ref ps[i].1 ∧ RelV ps[i].2 es[i].val := by
  obtain ⟨h2, hr⟩ := Paired.get' (j := i) f.prs (by rw [Array.length_toList]; exact hi)
  refine ⟨h2, ?_⟩
  have e : es.toList[i]'(by rw [Array.length_toList]; exact hi) = es[i] := by simp
  rw [e] at hr
  exact hr
def Itsi (a : Addr) (o : Obj) (kvs : List (List Key × V)) (ps : List (Addr × V)) : It :=
  ⟨fun i H => H a = some (.frz o (.dT kvs)) ∧ i < ps.length, fun i H x H' => ∃ t b y, H t = none ∧ x = .ref t ∧ H' = upd H t (.tup [.ref b, y]) ∧ ps[i]? = some (b, y), fun i H => H a = some (.frz o (.dT kvs)) ∧ ps.length ≤ i⟩
section
variable {X : Cx} {pins : List (Addr × Obj)} {σ : St} {H : Hp} {s : Shared} {a : Addr} {o : Obj} {kvs : List (List Key × V)}
theorem turn_items {P : Program} {w : World} {K : W.Frag} {tes : List Expr} {n : Nat} {pos : Pos} (a it : Addr) {es : Array DictEntry} {ep : Nat} {ps : List (Addr × V)} (f : FzI o es ep ps) : Turn P w K (.Tuple tes n pos) (Itsi a o kvs ps) [it] it (fun i h => ∃ ok ov, IsItemIter h it a i ps.length ep ok ov) where
  mem := by simp
  obj := fun i h st b hb => by
    obtain rfl : b = it := by simpa using hb
    obtain ⟨ok, ov, e⟩ := st
    exact ⟨_, e, fun v z => by cases z⟩
  keep := fun i h h' ⟨ok, ov, e⟩ k => ⟨ok, ov, k it (by simp) _ e⟩
  item := by
    intro X hP hw hK hc i pins s σ H E I hf st hg
    subst hP hw hK
    obtain ⟨ef, hi⟩ := hg
    have h1 := frzT_at I.hok ef
    obtain ⟨f0, f1, f2, f3, f4, f5⟩ := hf it (by simp)
    have hi' : i < es.size := by rw [f.size]; exact hi
    obtain ⟨hb, hk, hr⟩ := f.at hi'
    obtain ⟨ok, ov, jt⟩ := st
    have elt : it < s.heap.objs.size := Heap.lt_size jt
    refine raw_inext jt h1 f.dat f.size hi' fun h' e1 t1 z1 k1 => ⟨_, rfl, ?_⟩
    refine wpAny_letOwnedTupleGo_items e1 fun h2 e2 b2 => ?_
    have t2 : h2.get? s.heap.objs.size = some { cls := .type "tuple", data := .seq #[es[i].key, es[i].val] } := b2.extBut _ _ (Nat.ne_of_gt elt) t1
    rw [hk] at t2
    refine ⟨.ref s.heap.objs.size, upd H s.heap.objs.size (.tup [.ref ps[i].1, ps[i].2]), I.turnLaid (t' := s.toks) hf (fun b o hb e' => ?_) (Nat.le_refl _) ⟨by show 2 ≤ sizeLine; decide, [.ref ps[i].1, es[i].val], .cons rfl (.cons hr .nil), ⟨_, t2, rfl, _, rfl⟩⟩, rfl, ?_, ⟨_, _, e2⟩, fun b hb => ?_⟩
    · have hb' : b ≠ it := by simpa using hb
      exact b2.extBut _ _ hb' (k1 b o hb' e')
    · exact ⟨_, _, _, I.hok.fresh (Nat.le_refl _), rfl, rfl, List.getElem?_eq_getElem hb⟩
    · obtain rfl : b = it := by simpa using hb
      rw [upd_ne (Nat.ne_of_lt elt)]
      exact f0
  done := by
    intro X hP hw hK hc i pins s σ H E I hf st hg
    subst hP hw hK
    obtain ⟨ef, hi⟩ := hg
    have h1 := frzT_at I.hok ef
    obtain ⟨f0, f1, f2, f3, f4, f5⟩ := hf it (by simp)
    obtain ⟨ok, ov, jt⟩ := st
    exact raw_iend (I.ok.hd hc) jt h1 f.dat f.size (by rw [f.size]; exact hi) fun h' eb => ⟨rfl, I.turned (t' := s.toks) (fun b ob hb e => eb b ob hb e) f0 f1 f3 f4 f5⟩
  self := fun _ _ _ _ _ ⟨ok, ov, e⟩ h => W.kcp_self e h
theorem Inv.freezeI (I : Inv X pins σ H s) (e : H a = some (.dT kvs)) : ∃ (ob : Obj) (es : Array DictEntry) (ep : Nat) (ps : List (Addr × V)), s.heap.get? a = some ob ∧ FzI ob es ep ps ∧ ps.length = kvs.length ∧ (∀ (i : Nat) (b : Addr) (y : V), ps[i]? = some (b, y) → ∃ k : List Key, kvs[i]? = some (k, y) ∧ H b = some (.tup (k.map kV))) ∧ (a == sysModules) = false ∧ Inv X pins σ (upd H a (.frz ob (.dT kvs))) s := by
  obtain ⟨z, hd, xs, rel, ob, es, ep, g, h2, h3, h4, h5⟩ := (show ObjOk X.prog X.w H s.heap a (.dT kvs) from I.hok a _ e)
  have kt : ∀ b ys, H b = some (.tup ys) → (upd H a (.frz ob (.dT kvs))) b = some (.tup ys) := fun b ys q => by rw [upd_ne (ne_of q e (fun z => nomatch z))]; exact q
  have I' : Inv X pins σ (upd H a (.frz ob (.dT kvs))) s := I.write (t' := s.toks) (h' := s.heap) (x := a) (e := a) (o := .frz ob (.dT kvs)) (by rw [e]; exact True.intro) (.inl rfl) (fun b u _ q => q) ⟨ob, g⟩ ⟨g, z, hd, xs, KT.keeps rel kt, ob, es, ep, g, h2, h3, h4, h5⟩
  have mk : ∀ {kvs : List (List Key × V)} {xs : List (List Key × Addr × Value)}, KT H kvs xs → ∃ ps : List (Addr × V), Paired (fun (p : Addr × V) (e : DictEntry) => e.key = Value.ref p.1 ∧ RelV p.2 e.val) ps (xs.map (entryOfKey (tupleKind (mixKind X.prog X.w)))) ∧ ps.length = kvs.length ∧ (∀ (i : Nat) (b : Addr) (y : V), ps[i]? = some (b, y) → ∃ k : List Key, kvs[i]? = some (k, y) ∧ H b = some (.tup (k.map kV))) := by
    intro kvs xs r
    induction r with
    | nil => exact ⟨[], .nil, rfl, fun i b y h => by simp at h⟩
    | @cons p q ps qs hq t ih =>
      obtain ⟨rs, r1, r2, r3⟩ := ih
      refine ⟨(q.2.1, p.2) :: rs, .cons ⟨rfl, hq.2.2⟩ r1, congrArg (· + 1) r2, fun i b y h => ?_⟩
      cases i with
      | zero =>
        simp only [List.getElem?_cons_zero, Option.some.injEq, Prod.mk.injEq] at h
        obtain ⟨rfl, rfl⟩ := h
        exact ⟨p.1, rfl, hq.2.1⟩
      | succ j => exact r3 j b y (by simpa using h)
  obtain ⟨ps, p1, p2, p3⟩ := mk rel
  rw [← h4] at p1
  exact ⟨ob, es, ep, ps, g, ⟨h2, h3, p1⟩, p2, p3, hd, I'⟩
def iItems (te : TE) : TI := fun σ H R => te σ H fun x H1 => mR x fun a => ∃ kvs, H1 a = some (.dT kvs) ∧ ∀ (o : Obj) (ps : List (Addr × V)), ps.length = kvs.length → (∀ (i : Nat) (b : Addr) (y : V), ps[i]? = some (b, y) → ∃ k : List Key, kvs[i]? = some (k, y) ∧ H1 b = some (.tup (k.map kV))) → R (Itsi a o kvs ps) (upd H1 a (.frz o (.dT kvs)))
theorem pi_items {l : Expr} {tl : TE} {tes : List Expr} {n : Nat} {tpos apos cpos : Pos} (hl : PE X l tl) (hbase : attributeBase l "items" X.env (eval l X.env) = eval l X.env) (hline : (apos.endLine == cpos.line) = true) : PI X (.Tuple tes n tpos) (.Call (.Attribute l "items" apos) [] [] cpos) (iItems tl) := by
  intro pins s σ H R I h
  refine wpAny_Call_method0_late hbase hline (thn (hl pins s σ H _ I h) fun v s1 ⟨x, H1, I1, r1, q1⟩ => ?_)
  dsimp only at q1
  rw [mR_eq] at q1
  obtain ⟨a, rfl, kvs, e, q⟩ := q1
  cases r1
  obtain ⟨t1, t2, _⟩ := isD_at I1 (.inr ⟨_, .inl e⟩)
  obtain ⟨ob, es, ep, ps, g, f, hl', hb, lo, I2⟩ := I1.freezeI e
  refine ⟨"dict", "dict.items", PySem.F.plainAttrs_dict, PySem.F.slot_dict_items, PySem.F.type_dict_items, t1, t2, Calls.callWith_builtin rfl (PySem.evalArgs_none ?_)⟩
  refine call_meetsIn PySem.F.slot_dict_items ⟨ob, g, f.ex.1⟩ PySem.F.entry_dict_items (PySem.F.args_dict_items_1 _) (raw_items lo) ⟨⟨ob, g, f.ex⟩, ?_⟩
  have I3 := I2.kept (t' := s1.toks) (h' := s1.heap.push { cls := .type "dict_items", data := .fields #[.ref a] }) fun b o e => Heap.get?_push_of_some _ e
  have hview : (s1.heap.push { cls := .type "dict_items", data := .fields #[.ref a] }).IsItemsView s1.heap.objs.size a := ⟨_, Heap.get?_push_size _ rfl, rfl, rfl⟩
  refine raw_iiter (s := { s1 with heap := s1.heap.push { cls := .type "dict_items", data := .fields #[.ref a] } }) hview (Heap.get?_push_of_some _ g) f.dat ?_
  have hn : (upd H1 a (.frz ob (.dT kvs))) (s1.heap.push { cls := .type "dict_items", data := .fields #[.ref a] }).objs.size = none := I3.hok.fresh (Nat.le_refl _)
  refine ⟨_, [_], _, _, _, rfl, I3.kept (t' := s1.toks) fun b o e => Heap.get?_push_of_some _ e, turn_items a _ f, ⟨.none, .none, ?_⟩, fun b hb => ?_, q ob ps hl' hb⟩
  · rw [← f.size]
    exact Heap.get?_push_size _ rfl
  · obtain rfl : b = (s1.heap.push { cls := .type "dict_items", data := .fields #[.ref a] }).objs.size := by simpa using hb
    exact I3.fpOk (Nat.le_refl _) hn
theorem R.items {l : Expr} {tl : TE} {tes : List Expr} {n : Nat} {tpos apos cpos : Pos} (hl : XE X l tl) (hbase : attributeBase l "items" X.env (eval l X.env) = eval l X.env := by rfl) (hline : (apos.endLine == cpos.line) = true := by rfl) : XI X (.Tuple tes n tpos) (.Call (.Attribute l "items" apos) [] [] cpos) (iItems tl) := ⟨pi_items hl.h hbase hline⟩
end
theorem comp_items {a : Addr} {o : Obj} {kvs : List (List Key × V)} {ps : List (Addr × V)} {js : List (Option Nat)} {g : TG} {tt : TT} {te : TE} {σ : St} {H : Hp} {Q : List V → Hp → Prop} (hz : ps.length ≤ 100000) (Pv : Nat → List V → Hp → Prop) (hA : ∀ i zs H, Pv i zs H → H a = some (.frz o (.dT kvs)) ∧ zs.length ≤ i) (h0 : Pv 0 [] H)
    (hs : ∀ (i : Nat) (b : Addr) (y : V) zs H t, ps[i]? = some (b, y) → Pv i zs H → H t = none → g (.ref t) (stC js σ) (upd H t (.tup [.ref b, y])) fun σ2 H2 => tt σ2 H2 fun c H3 => if c = true then te σ2 H3 fun v H4 => Pv (i + 1) (zs ++ [v]) H4 else Pv (i + 1) zs H3)
    (hd : ∀ zs H, Pv ps.length zs H → Q zs H) : wComp js g tt te σ (Itsi a o kvs ps) H Q := by
  refine ⟨fun i m zs H => m = ps.length - i ∧ i ≤ ps.length ∧ Pv i zs H, ⟨_, rfl, Nat.zero_le _, h0⟩, ?_⟩
  rintro i m zs H ⟨rfl, hi, p⟩
  obtain ⟨q1, q3⟩ := hA i zs H p
  by_cases hlt : i < ps.length
  · refine .inr ⟨⟨q1, hlt⟩, Nat.lt_of_le_of_lt (m := 100000) (by omega) (by decide), Pv (i + 1), fun zs' H' p' => ⟨_, by omega, rfl, hlt, p'⟩, ?_⟩
    rintro v H' ⟨t, b, y, ht, rfl, rfl, e1⟩
    exact hs i b y zs H t e1 p ht
  · have e : i = ps.length := by omega
    subst e
    exact .inl ⟨⟨q1, Nat.le_refl _⟩, hd zs H p⟩
end L2
namespace L2
open PySem PySem.Spec PyProof.Rows
section
variable {prog : Program} {w : World} {A : Around} {E : Value → Shared → Prop} {h : Heap} {g : Array GenState} {d : Drawn} {t : Nat} {os : OsState}
variable {nm q : Str} {C N : Addr} {bs bm bmB : List Value} {hdct : Bool} {sn : List Str} {sub : List Value} {ab : Bool} {col : Option Bool} {dd : Option Addr} {k0 k1 k2 k3 k5 : Option Value} {B newId initId : String}
abbrev excNew (C t : Addr) : Obj := { cls := .ref C, data := .fields #[.ref t, .none, .none, .none, .bool false, .none] }
abbrev heapX (h : Heap) (C : Addr) (rest : List Value) : Heap := (h.push { cls := .type "tuple", data := .seq rest.toArray }).push (excNew C h.objs.size)
theorem heapX_keep {rest : List Value} {b : Addr} {o : Obj} (e : h.get? b = some o) : (heapX h C rest).get? b = some o := Heap.get?_push_of_some _ (Heap.get?_push_of_some _ e)
theorem heapX_at {rest : List Value} : (heapX h C rest).get? (h.objs.size + 1) = some (excNew C h.objs.size) := by
  have := Heap.get?_push_size (h.push { cls := .type "tuple", data := .seq rest.toArray }) (o := excNew C h.objs.size) rfl
  rwa [Heap.size_push] at this
theorem tcall_initT (F : ExcBaseFacts B newId initId bmB) (T : OwnTail h bmB bm) {mN : Str → Option Value} {rest : List Value} {fI : Addr} {oI : Obj} {Q : Fin → Shared → Prop}
    (hC : h.get? C = some (excClassObj nm q C N bs bm hdct sn sub ab col dd k0 k1 k2 k3 k5 newId)) (hn : h.Ns N mN) (hi : mN "__init__" = some (.ref fI)) (hfI : h.get? fI = some oI) (hfc : oI.cls = .type "function")
    (go : wpAny (model prog w) A (call (.ref fI) (.ref (h.objs.size + 1) :: rest)) (fun r s' => r = .none ∧ Q (.done (.ret (.ref (h.objs.size + 1)))) s') E ⟨heapX h C rest, g, d, t, os⟩) (hrest : rest.length ≤ sizeLine) :
    wpAny (model prog w) A (Builtin.«type.__call__» ⟨.ref C :: rest, []⟩) Q E ⟨h, g, d, t, os⟩ := by
  repeat (first | with_reducible refine wpAny_loadPart_at hC ?_ | with_reducible refine wpAny_madeBy_exc hC ?_ | wp_step)
  refine codeAny_call_builtin_code (Code.quiet_builtin _ F.quiet) (wpAny_check_new_subT F T hC (codeAny_exc_new_subT F T hC ?_ hrest)); show wpAny _ _ _ _ _ _
  have cx : (heapX h C rest).get? C = _ := heapX_keep hC; have fx : (heapX h C rest).get? fI = _ := heapX_keep hfI; have nx : (heapX h C rest).Ns N mN := let ⟨o, es, ep, e, r⟩ := hn; ⟨o, es, ep, heapX_keep e, r⟩
  have gx : (heapX h C rest).get? (h.objs.size + 1) = some (excNew C h.objs.size) := heapX_at; have me : (Value.ref C :: bm).contains (.ref C) = true := by simp
  have tx := T.keeps (h' := heapX h C rest) fun b o e => heapX_keep e; unfold isInstance
  repeat (first | with_reducible refine wpAny_loadPart_at gx ?_ | (with_reducible refine wpAny_isSubtype_exc cx ?_; rw [me]) | wp_step)
  show wpAny _ _ (typeLookup (.ref C) _) _ _ _; refine wpAny_typeLookup_tail cx nx tx F.mroIs F.init.lookup ?_; rw [hi]; refine wpAny_holding (wpAny_bind ?_); unfold bindSpecial
  refine wpAny_bind (wpAny_typeOf (T := "function") ⟨_, fx, hfc⟩ ?_); rw [if_pos (by decide)]; refine wpAny_pure (wpAny_bind (wpAny_mono go (fun r s' hr => ?_) fun _ _ x => x)); obtain ⟨rfl, hQ⟩ := hr
  wp_walk; exact hQ
theorem call_initT (F : ExcBaseFacts B newId initId bmB) (T : OwnTail h bmB bm) {mN : Str → Option Value} {rest : List Value} {fI : Addr} {oI : Obj} {Q : Value → Shared → Prop}
    (hC : h.get? C = some (excClassObj nm q C N bs bm hdct sn sub ab col dd k0 k1 k2 k3 k5 newId)) (hn : h.Ns N mN) (hi : mN "__init__" = some (.ref fI)) (hfI : h.get? fI = some oI) (hfc : oI.cls = .type "function")
    (go : wpAny (model prog w) (A.under (.builtin "type.__call__" ⟨.ref C :: rest, []⟩)) (call (.ref fI) (.ref (h.objs.size + 1) :: rest)) (fun r s' => r = .none ∧ Q (.ref (h.objs.size + 1)) s') E ⟨heapX h C rest, g, d, t, os⟩) (hrest : rest.length ≤ sizeLine) :
    wpAny (model prog w) A (call (.ref C) rest) Q E ⟨h, g, d, t, os⟩ := by
  have f1 := tc_lookup; have f2 := tc_bind (.ref C); have hT : (⟨h, g, d, t, os⟩ : Shared).TypeIs (.ref C) "type" := ⟨_, hC, rfl⟩
  refine wpAny_call (codeAny_of_tree ?_); show wpAny _ _ (callAny (.ref C) _) _ _ _
  repeat (any_goals (first | assumption | with_reducible refine wpAny_loadPart_at hC ?_ | wp_step))
  refine ⟨rfl, codeAny_call_builtin_at (Code.quiet_builtin _ (by decide +kernel)) entry_typeCall (wpAny_check_type_call_sub hC (tcall_initT F T hC hn hi hfI hfc ?_ hrest))⟩; exact go
end
end L2
namespace L2
open PySem PySem.Spec PyProof.Rows
section
variable {prog : Program} {w : World} {A : Around} {E : Value → Shared → Prop} {s : Shared} {env : Env}
variable {nm q : Str} {C N : Addr} {bs bm bmB : List Value} {hdct : Bool} {sn : List Str} {sub : List Value} {ab : Bool} {col : Option Bool} {dd : Option Addr} {k0 k1 k2 k3 k5 : Option Value} {B newId initId : String}
theorem raise_any {x : Sem Value} {Q : Flow → Shared → Prop} (hb : bm.contains (.type "BaseException") = true) (hh : A.handled = none)
    (h : wpAny (model prog w) A x (fun v s1 => ∃ e t dx sl, v = .ref e ∧ s1.heap.get? C = some (excClassObj nm q C N bs bm hdct sn sub ab col dd k0 k1 k2 k3 k5 newId) ∧
      s1.heap.get? e = some { cls := .ref C, dict := dx, data := .fields #[.ref t, .none, .none, .none, .bool false, .none], slots := sl } ∧ E (.ref e) s1) E s) : wpAny (model prog w) A (raiseStmt env (some x) none) Q E s := by
  have cB : (Value.ref C :: bm).contains (.type "BaseException") = true := by rw [List.contains_cons, hb, Bool.or_true]
  unfold raiseStmt; refine wpAny_bind (wpAny_mono h (fun v s1 h1 => ?_) fun _ _ x => x); obtain ⟨e, t, dx, sl, rfl, hC, he, hE⟩ := h1; obtain ⟨hp, g, d, tk, os⟩ := s1
  repeat (first | with_reducible refine wpAny_loadPart_at he ?_ | with_reducible refine wpAny_loadPart_at hC ?_ | (with_reducible refine wpAny_isSubtype_exc hC ?_; rw [cB]) | wp_step)
  exact wpAny_raiseNew_none hh hE
theorem raise_initT (F : ExcBaseFacts B newId initId bmB) {mN : Str → Option Value} {x : Str} {np cpos pos : Pos} {args : List Expr} {fI : Addr} {oI : Obj} {Q : Flow → Shared → Prop}
    (hb : bm.contains (.type "BaseException") = true) (hh : A.handled = none) (hp : (backTo cpos (starEach args env)).any (·.1) = false) (hi : mN "__init__" = some (.ref fI)) (hfc : oI.cls = .type "function")
    (h : wpAny (model prog w) A (eval (.Name x np) env) (fun f s1 => f = .ref C ∧ wpAny (model prog w) A (evalArgs (.ref C) true (backTo cpos (starEach args env)) [])
      (fun a s2 => a.kw = [] ∧ a.pos.length ≤ sizeLine ∧ s2.heap.get? C = some (excClassObj nm q C N bs bm hdct sn sub ab col dd k0 k1 k2 k3 k5 newId) ∧ s2.heap.Ns N mN ∧ OwnTail s2.heap bmB bm ∧ s2.heap.get? fI = some oI ∧
        wpAny (model prog w) (A.under (.builtin "type.__call__" ⟨.ref C :: a.pos, []⟩)) (call (.ref fI) (.ref (s2.heap.objs.size + 1) :: a.pos)) (fun r s' => r = .none ∧ ∃ t dx sl, s'.heap.get? C = some (excClassObj nm q C N bs bm hdct sn sub ab col dd k0 k1 k2 k3 k5 newId) ∧
          s'.heap.get? (s2.heap.objs.size + 1) = some { cls := .ref C, dict := dx, data := .fields #[.ref t, .none, .none, .none, .bool false, .none], slots := sl } ∧ E (.ref (s2.heap.objs.size + 1)) s') E { s2 with heap := heapX s2.heap C a.pos }) E s1) E s) :
    wpAny (model prog w) A (exec (.Raise (some (.Call (.Name x np) args [] cpos)) none pos) env) Q E s := by
  rw [arm_exec_Raise]
  simp only [evalOpt, Option.map]
  refine wpAny_bind (wpAny_standAt (raise_any (C := C) (nm := nm) (q := q) (N := N) (bs := bs) (bm := bm) (hdct := hdct) (sn := sn) (sub := sub) (ab := ab) (col := col) (dd := dd) (k0 := k0) (k1 := k1) (k2 := k2) (k3 := k3) (k5 := k5) (newId := newId) hb hh (wpAny_bind (wpAny_mono (wpAny_Call_ofName (wpAny_mono h (fun f s1 h1 => ?_) fun _ _ x => x)) (fun v s3 h3 => wpAny_bind (wpAny_standAt (wpAny_pure h3))) fun _ _ x => x))))
  obtain ⟨rfl, h1⟩ := h1
  unfold callWith; refine wpAny_bind (wpAny_holding (wpAny_mono h1 (fun a s2 h2 => wpAny_bind (wpAny_standAt ?_)) fun _ _ x => x))
  obtain ⟨ap, ak⟩ := a; obtain ⟨hkw, hlen, hC, hn, T, hf, h2⟩ := h2; obtain rfl : ak = [] := hkw; obtain ⟨hp', g, d, tk, os⟩ := s2
  simp only [hp]; refine wpAny_bind (wpAny_keeperOf_exc hC (wpAny_bind (call_initT F T hC hn hi hf hfc (wpAny_mono h2 (fun r s' hr => ⟨hr.1, wpAny_bind (wpAny_holding (wpAny_point (wpAny_pure ?_)))⟩) fun _ _ x => x) hlen)))
  obtain ⟨t, dx, sl, g1, g2, g3⟩ := hr.2
  exact ⟨_, t, dx, sl, rfl, g1, g2, g3⟩
end
end L2
namespace L2
open PySem PySem.Spec PyProof.Rows
def excMro : List Value → Bool
  | .ref _ :: r => excMro r
  | [.type a, .type b, .type c, .type d] => a == "ValueError" && b == "Exception" && c == "BaseException" && d == "object"
  | _ => false
theorem excMro_passes (v : Value) : ∀ {l : List Value}, excMro l = true → refuseLoop v "__setattr__" l = pure () ∧ l.contains (.type "object") = true
  | .ref _ :: r, h => by
    have := excMro_passes v (l := r) h
    exact ⟨by rw [refuseLoop_ref]; exact this.1, by rw [List.contains_cons, this.2, Bool.or_true]⟩
  | [.type a, .type b, .type c, .type d], h => by
    simp only [excMro, Bool.and_eq_true, beq_iff_eq] at h
    obtain ⟨⟨⟨rfl, rfl⟩, rfl⟩, rfl⟩ := h
    exact ⟨PySem.F.store_ValueError.passes v, by decide⟩
def excOver (K : W.Frag) (C : Addr) : Bool := (W.clsIn K C).any fun cd => excMro cd.mro && cd.hasDict
section
variable {prog : Program} {w : World} {A : Around} {E : Value → Shared → Prop} {s : Shared} {K : W.Frag} {C x t : Addr} {name : Str} {v : Value}
theorem setX {Q : Unit → Shared → Prop} (X : K.In s.heap) (gx : s.heap.get? x = some (excNew C t)) (hs : W.findIn K (.ref C) "__setattr__" = some (some (.builtin "object.__setattr__"))) (ho : excOver K C = true) (ht : W.takerIn K C name = some none)
    (h : ∀ h' tk', h'.get? x = some { excNew C t with dict := some s.heap.objs.size } → (∀ b o, b ≠ x → s.heap.get? b = some o → h'.get? b = some o) → h'.Ns1 s.heap.objs.size (fun y => if y = name then some v else none) → Q () { s with heap := h', toks := tk' }) :
    wpAny (model prog w) A (setAttr (.ref x) name v) Q E s := by
  have J : W.InstAt s.heap x (excNew C t) C none := ⟨gx, rfl, rfl, True.intro⟩
  obtain ⟨cd, hc, hm⟩ := W.any_some ho
  obtain ⟨hm, hdd⟩ := Bool.and_eq_true _ _ ▸ hm
  refine W.set_plain X J hs ?_
  have SF := PySem.F.store_object
  obtain ⟨p1, p2⟩ := excMro_passes (.ref x) hm
  have ne : cd.mro.isEmpty = false := by cases q : cd.mro with | nil => (rw [q] at p2; cases p2) | cons _ _ => rfl
  have sub : W.Looks (model prog w) s.heap (isInstance (.ref x) (.type "object")) true := J.type.andThen (W.looks_mroIn X (by unfold W.mroIn; rw [hc, Option.bind_some, if_neg (by rw [ne]; decide), p2]))
  have lm : W.Looks (model prog w) s.heap (mroOf (.ref C)) cd.mro := (W.looks_clsIn X hc).andThen .now
  obtain ⟨attr, ha, hr⟩ := Option.bind_eq_some_iff.mp ht
  have l3 : W.Looks (model prog w) s.heap (Builtin.ObjectAttr.storeTaker? attr) none := by
    cases attr with
    | none => cases hr; exact .now
    | some a =>
      obtain ⟨b, hb, e⟩ := Option.map_eq_some_iff.mp hr
      refine (W.looks_takesIn X hb).andThen ?_
      cases b with
      | true => cases e
      | false => exact .now
  refine codeAny_call_builtin SF.slot.plain SF.entry (@W.check_slot (model prog w) _ _ { s with toks := s.toks + 1 } "object.__setattr__" "object" "__setattr__" (.ref x) [.str name s.toks, v] [] _ SF.kind SF.split sub (SF.args (.ref x) (.str name s.toks) v) ?_)
  rw [W.osa_eq, refuse_eq]
  refine wpAny_bind (wpAny_bind (W.Looks.here (s := { s with toks := s.toks + 1 }) J.type (wpAny_bind (W.Looks.here (s := { s with toks := s.toks + 1 }) lm ?_))))
  rw [p1]
  refine wpAny_pure (wpAny_bind (W.Looks.here (s := { s with toks := s.toks + 1 }) J.type (wpAny_bind (W.Looks.here (s := { s with toks := s.toks + 1 }) (W.looks_findIn X ha) (wpAny_bind (W.Looks.here (s := { s with toks := s.toks + 1 }) l3 ?_))))))
  refine wpAny_bind (wpAny_pure (wpAny_bind (wpAny_bind (wpAny_loadPart (s := { s with toks := s.toks + 1 }) gx (wpAny_bind (W.Looks.here (s := { s with toks := s.toks + 1 }) (W.looks_clsIn X hc) ?_))))))
  rw [hdd]
  have hxs : x ≠ s.heap.objs.size := Nat.ne_of_lt (Heap.lt_size gx)
  have g1 : (s.heap.push { cls := .type "dict", data := .dict #[] }).get? x = some (excNew C t) := Heap.get?_push_of_some _ gx
  refine wpAny_bind (wpAny_alloc' ?_)
  refine wpAny_bind (wpAny_update' g1 ?_)
  have gd : ((s.heap.push { cls := .type "dict", data := .dict #[] }).update x fun o => { o with dict := some s.heap.objs.size }).get? s.heap.objs.size = some { cls := .type "dict", data := .dict #[] } := (Heap.get?_update_ne _ _ _ _ hxs.symm).trans (Heap.get?_push_at rfl rfl)
  have nd : ((s.heap.push { cls := .type "dict", data := .dict #[] }).update x fun o => { o with dict := some s.heap.objs.size }).Ns s.heap.objs.size (fun _ => none) := ⟨_, #[], _, gd, rfl, fun e he => absurd he (by simp), fun _ => rfl⟩
  refine wpAny_pure ?_
  show wpAny _ _ (Builtin.ObjectAttr.storeInDict s.heap.objs.size (.str name s.toks) name v) _ _ _
  unfold Builtin.ObjectAttr.storeInDict Builtin.ObjectAttr.newKeyGuard; refine wpAny_bind (wpAny_pure (wpAny_bind (wpAny_nsSet1 (Heap.Ns1.of_empty nd) fun h' n1 b1 => ?_)))
  obtain ⟨oD, eD, pD, q1, q2, q3⟩ := n1.count (Within.cons name v Within.nil)
  refine wpAny_bind (wpAny_lookBehind q1 (by rw [q2]; exact pastItsLine_dict (Nat.le_trans q3 (by rw [List.length_cons, List.length_nil, sizeLine_eq]; omega))) (wpAny_pure ?_))
  refine h h' _ ((b1.2 x hxs).trans (Heap.get?_update_self _ g1 rfl)) (fun b o hb e => ?_) n1
  exact (b1.2 b (Nat.ne_of_lt (Heap.lt_size e))).trans ((Heap.get?_update_ne _ _ _ _ hb).trans (Heap.get?_push_of_some _ e))
end
end L2
namespace L2
open PySem PySem.Spec PyProof.Rows
def XN (e C t : Addr) : Heap → Prop := fun h => h.get? e = some (excNew C t)
def XE' (e C t dx : Addr) : Heap → Prop := fun h => h.get? e = some { excNew C t with dict := some dx }
structure XAtt (K : W.Frag) (C : Addr) (f : Str) : Prop where
  sa : W.findIn K (.ref C) "__setattr__" = some (some (.builtin "object.__setattr__"))
  ov : excOver K C = true
  tk : W.takerIn K C f = some none
section
variable {X : Cx} {pins : List (Addr × Obj)} {σ : St} {H : Hp} {s : Shared} {a e C t : Addr} {φ : Heap → Prop}
theorem xn_ok {P : Program} {w : World} {h : Heap} (g : h.get? e = some (excNew C t)) : ObjOk P w H h e (.ext (XN e C t)) := ⟨g, ⟨_, g⟩, fun _ _ q k => k _ q⟩
theorem xe_ok {P : Program} {w : World} {h : Heap} {dx : Addr} (g : h.get? e = some { excNew C t with dict := some dx }) : ObjOk P w H h e (.ext (XE' e C t dx)) := ⟨g, ⟨_, g⟩, fun _ _ q k => k _ q⟩
theorem Inv.drop (I : Inv X pins σ (upd H a (.ext φ)) s) (na : H a = none) : Inv X pins σ H s := by
  have back : ∀ b u, (upd H a (.ext φ)) b = some u → (∀ ψ, u ≠ .ext ψ) → H b = some u := fun b u q n => by
    by_cases z : b = a
    · rw [z, upd_same] at q; cases q; exact absurd rfl (n φ)
    · rw [upd_ne z] at q; exact q
  have none' : ∀ b, (upd H a (.ext φ)) b = none → H b = none := fun b q => by
    by_cases z : b = a
    · rw [z, upd_same] at q; cases q
    · rw [upd_ne z] at q; exact q
  refine ⟨I.ok, I.os, I.bare, ⟨I.base.keep, I.base.slot, fun b ob q n hx => none' _ (I.base.free b ob q n hx), I.base.there, fun b xs q => back _ _ (I.base.tups b xs q) (fun _ z => nomatch z), fun b ob u q => back _ _ (I.base.frzs b ob u q) (fun _ z => nomatch z), fun b ps q => ?_⟩, I.loc, I.cell, none' _ I.free, fun x c h => none' _ (I.freeC x c h), fun p hp => ?_, fun b u q => ?_, I.len⟩
  · obtain ⟨more, z⟩ := I.base.tbls b ps q
    exact ⟨more, back _ _ z (fun _ z => nomatch z)⟩
  · obtain ⟨p1, p2, p3⟩ := I.pin p hp
    exact ⟨p1, none' _ p2, p3⟩
  · have nb : b ≠ a := ne_of_none q na
    exact (I.hok b u (by rw [upd_ne nb]; exact q)).stay (fun c v _ h => h) (fun c h => back _ _ h (fun _ z => nomatch z)) fun c xs h => back _ _ h (fun _ z => nomatch z)
variable {o value : Expr} {f : Str} {pos pos' : Pos} {ta tv : TE} {K : W.Frag}
def mSFldX (K : W.Frag) (ta tv : TE) (f : Str) : TS := fun D σ H => tv σ H fun y H1 => ta σ H1 fun x H2 => mR x fun e => ∃ C t, H2 e = some (.ext (XN e C t)) ∧ XAtt K C f ∧ ∀ dx, H2 dx = none → dx ≠ e → D.nx σ (upd (upd H2 dx (.xd [(f, y)])) e (.ext (XE' e C t dx)))
theorem ps_mfldX (ha : PE X o ta) (hv : PE X value tv) (hs : swapsWith value (some (.Attribute o f pos')) pos.line X.env = pure false) : PS X (.Assign [.Attribute o f pos'] value pos) (mSFldX X.K ta tv f) := by
  intro pins s σ H D I h
  refine plainObj_wpAny_Assign_Attribute (thn (hv pins s σ H _ I h) fun u s1 ⟨y, H1, I1, ry, q⟩ => thn (ha pins s1 σ H1 _ I1 q) fun ov s2 ⟨x, H2, I2, rx, q1⟩ => ?_) hs
  dsimp only at q1
  rw [mR_eq] at q1
  obtain ⟨a, rfl, C, t, ea, c, q2⟩ := q1
  obtain rfl : ov = Value.ref a := rx
  have gx : s2.heap.get? a = some (excNew C t) := (show ObjOk X.prog X.w H2 s2.heap a (.ext (XN a C t)) from I2.hok a _ ea).1
  refine setX I2.kIn gx c.sa c.ov c.tk fun h' tk' g1 k n1 => ?_
  have n2 : H2 s2.heap.objs.size = none := I2.hok.fresh (Nat.le_refl _)
  have nx : s2.heap.objs.size ≠ a := (ne_of_none ea n2).symm
  obtain ⟨oD, eD, pD, d1, d2⟩ := id n1
  have gD : (s2.heap.push oD).get? s2.heap.objs.size = some oD := Heap.get?_push_size _ (Heap.get?_some_iff.mp d1).2
  have I3 := I2.laid (a := s2.heap.objs.size) (o := .xd [(f, y)]) (t' := tk') (h' := s2.heap.push oD) (fun b u q => Heap.get?_push_of_some _ q) (Nat.le_refl _) ⟨_, ⟨oD, eD, pD, gD, d2⟩, fun g => ?_⟩
  · have I4 := I3.write (x := a) (e := a) (o := .ext (XE' a C t s2.heap.objs.size)) (t' := tk') (h' := h') (by rw [upd_ne nx.symm, ea]; exact True.intro) (.inl rfl) (fun b u hb q => ?_) ⟨_, g1⟩ (xe_ok g1)
    · exact ⟨σ, _, I4, q2 _ n2 nx⟩
    · by_cases z : b = s2.heap.objs.size
      · rw [z, show (s2.heap.push oD).get? s2.heap.objs.size = some oD from gD] at q
        cases q
        rw [z]; exact d1
      · refine k b u hb ?_
        have lt : b < (s2.heap.push oD).objs.size := Heap.lt_size q
        rw [Heap.size_push] at lt
        rw [Heap.get?_push_ne] at q
        · exact q
        · omega
  · show RelO (List.lookup g [(f, y)]) (if g = f then some u else none)
    by_cases z : g = f
    · rw [z, if_pos rfl, List.lookup_cons, beq_self_eq_true]; exact ry
    · rw [if_neg z, List.lookup_cons, beq_eq_false_iff_ne.mpr z]; exact trivial
theorem R.ksfldX (ha : XE X o ta) (hv : XE X value tv) (hK : X.K = K := by rfl) (hs : swapsWith value (some (.Attribute o f pos')) pos.line X.env = pure false := by rfl) : XS X (.Assign [.Attribute o f pos'] value pos) (mSFldX K ta tv f) := hK ▸ ⟨ps_mfldX ha.h hv.h hs⟩
end
end L2
namespace L2
open PySem PySem.Spec PyProof.Rows
def excInI (K : W.Frag) (C fI : Addr) (bmB : List Value) (newId : String) : Bool := match K.lookup C with
  | some ⟨.type "type", _, .cls cd, sl⟩ => (match cd.mro, sl.toList with
    | .ref C' :: bm, [_, _, _, _, some (.builtin n), _] => C' == C && n == newId && !cd.hasDel && W.tailIn K bmB bm && W.nsOkIn K cd.ns && (match W.nsIn K cd.ns "__init__" with | some (some (.ref f)) => f == fI | _ => false)
    | _, _ => false)
  | _ => false
structure XClsI (K : W.Frag) (mg : Str → Option Value) (x : Str) (C fI : Addr) : Prop where
  at_ : mg x = some (.ref C)
  ok : excInI K C fI mroVE "ValueError.__new__" = true
theorem ns_some_of {K : W.Frag} {h : Heap} {N : Addr} {mg : Str → Option Value} {n : Str} {v : Value} (X : K.In h) (G : h.Ns N mg) (e : W.nsIn K N n = some (some v)) : mg n = some v := by
  obtain ⟨o, es, ep, ho, hd, _, hf⟩ := G
  unfold W.nsIn at e
  split at e
  · rename_i c d es' n' sl q
    have z := X _ _ q
    rw [ho] at z; cases z; cases hd
    split at e
    · rename_i en he
      cases e
      rw [← hf]; unfold nsFind findBy; rw [← Array.find?_toList, he]; rfl
    · split at e <;> cases e
  · cases e
theorem XClsI.obj {K : W.Frag} {mg : Str → Option Value} {x : Str} {C fI : Addr} {h : Heap} (c : XClsI K mg x C fI) (X : K.In h) :
    ∃ bm N nm q bs hdct sn sub ab col dd k0 k1 k2 k3 k5 mN, h.get? C = some (excClassObj nm q C N bs bm hdct sn sub ab col dd k0 k1 k2 k3 k5 "ValueError.__new__") ∧ h.Ns N mN ∧ mN "__init__" = some (.ref fI) ∧ OwnTail h mroVE bm := by
  have q := c.ok
  unfold excInI at q
  split at q
  · rename_i dd cd sl ho
    split at q
    · rename_i C' bm k0 k1 k2 k3 n k5 hm hs
      simp only [Bool.and_eq_true, beq_iff_eq, Bool.not_eq_true'] at q
      obtain ⟨⟨⟨⟨⟨e1, e2⟩, hdel⟩, ht⟩, hok⟩, hni⟩ := q
      subst e1 e2
      obtain ⟨nm, bs, mro, ns, qn, hd, sn, sub, ab, col, del⟩ := cd
      dsimp only at hm hdel hok hni
      subst hm hdel
      have hsl : sl = #[k0, k1, k2, k3, some (.builtin "ValueError.__new__"), k5] := by
        obtain ⟨l⟩ := sl
        simp only at hs
        rw [hs]
      subst hsl
      refine ⟨bm, ns, nm, qn, bs, hd, sn, sub, ab, col, dd, k0, k1, k2, k3, k5, _, X _ _ ho, .of_isNs (W.isNs_of_in X hok), ?_, W.tail_of_in X ht⟩
      split at hni
      · rename_i f hf
        rw [← eq_of_beq hni]
        exact ns_some_of X (.of_isNs (W.isNs_of_in X hok)) hf
      · cases hni
    · cases q
  · cases q
def LeavesH (X : Cx) (E : XK) : Prop := ∀ (pins : List (Addr × Obj)) (σ0 σ : St) (H0 H : Hp) (s s3 : Shared) (e t : Addr) (cls : Value) (dx : Option Addr), Inv X pins σ0 H0 s → s.heap.get? e = none → H e = none → Inv X pins σ H s3 → s3.heap.get? e = some { cls := cls, dict := dx, data := .fields #[.ref t, .none, .none, .none, .bool false, .none] } → E cls dx H → X.xe (.ref e) s3
theorem fly_here {pins : List (Addr × Obj)} {σ0 σ : St} {cls : Value} {P : Program} {w : World} {K : W.Frag} {mg : Str → Option Value} {base : Heap} {N : List Str} {qual : Str} {scope : Scope} {f : Addr} {cd : Value} {A : Around} {outer : List Env} {s s0 s1 : Shared} {H H0 H1 : Hp} {E : XK} {e t : Addr} {dx : Option Addr}
    (I0 : Inv (cxOf (CXf P w) P w K mg base N qual scope f cd A outer s H E) pins σ0 H0 s0) (n0 : s0.heap.get? e = none) (he1 : H1 e = none) (I : Inv (cxOf (CXf P w) P w K mg base N qual scope f cd A outer s H E) pins σ H1 s1) (hf : (envOfC qual scope s.heap.objs.size f cd).frame = some (envOfC qual scope s.heap.objs.size f cd).locals)
    (he : s1.heap.get? e = some { cls := cls, dict := dx, data := .fields #[.ref t, .none, .none, .none, .bool false, .none] }) (q : E cls dx H1) :
    (cxOf (CXf P w) P w K mg base N qual scope f cd A outer s H E).xe (.ref e) s1 := by
  have und : Un (frs outer) [] H H1 s.heap s1.heap := I.base
  have und0 : Un (frs outer) [] H H0 s.heap s0.heap := I0.base
  have fr0 : ∀ b ∈ frs outer, H b = none ∧ ∃ o, s.heap.get? b = some o ∧ ∀ vs, o.data ≠ .fields vs := fun b hb => ⟨I.ok.frf b hb, (I.ok.funs.mem hb).2⟩
  have st : (cxOf (CXf P w) P w K mg base N qual scope f cd A outer s H E).stack = envOfC qual scope s.heap.objs.size f cd :: outer := rfl
  have nL : s.heap.get? (envOfC qual scope s.heap.objs.size f cd).locals = none := Heap.get?_none_of_le I.ok.above
  have ne0 : s.heap.get? e = none := by
    cases z : s.heap.get? e with
    | none => rfl
    | some ob =>
      obtain ⟨o', y⟩ := und0.there e ob z (by simp)
      rw [n0] at y
      cases y
  have hin : ∀ env ∈ (envOfC qual scope s.heap.objs.size f cd :: outer), ∀ b, env.frame = some b → b ∈ frs (envOfC qual scope s.heap.objs.size f cd :: outer) ++ [e] := fun env he b hb => List.mem_append_left _ (frs_mem he hb)
  have hh : ∀ b ∈ frs (envOfC qual scope s.heap.objs.size f cd :: outer) ++ [e], b ∈ frs outer ∨ (s.heap.get? b = none ∧ H1 b = none) := fun b hb => by
    rcases List.mem_append.mp hb with z | z
    · unfold frs at z
      rw [List.filterMap_cons, hf] at z
      rcases List.mem_cons.mp z with y | y
      · rw [y]; exact .inr ⟨nL, I.free⟩
      · exact .inl y
    · rw [List.mem_singleton.mp z]; exact .inr ⟨ne0, he1⟩
  have hsub : ∀ b ∈ frs outer, b ∈ frs (envOfC qual scope s.heap.objs.size f cd :: outer) ++ [e] := fun b hb => by
    refine List.mem_append_left _ ?_
    unfold frs
    rw [List.filterMap_cons, hf]
    exact List.mem_cons_of_mem _ hb
  have hm1 : e ∈ frs (envOfC qual scope s.heap.objs.size f cd :: outer) ++ [e] := List.mem_append_right _ List.mem_cons_self
  have ff0 : s1.heap.FunFrames base (envOfC qual scope s.heap.objs.size f cd :: outer) := I.stack
  have go := leaveD (M := model P w) (A := A.deeper (envOfC qual scope s.heap.objs.size f cd)) (E := fun e' s'' => CXf P w outer H s E e' s'') (Q := fun _ s'' => CXf P w outer H s E (.ref e) s'') (s := s1) (base := W.hideAll s1.heap (frs (envOfC qual scope s.heap.objs.size f cd :: outer) ++ [e])) (env := envOfC qual scope s.heap.objs.size f cd) (outer := outer) (e := e) (a0 := .ref t)
    I.ok.frames (W.funFrames_hide ff0 hin) hf he (fun b o q => W.of_hideAll _ q) (W.hideAll_none _ hm1) rfl rfl rfl ?_
  · exact go
  · rintro h2 ⟨k1, k2, ⟨oe', vs', T', oT', ts', q1, ⟨q2, q3⟩, q4, q5, q6, q7, q8, q9, q10⟩, k4⟩ ⟨od', d1, d2⟩
    obtain ⟨u2, ok2⟩ := hid_un und I.hok hh hsub fr0 k1 k4
    obtain ⟨n1, n2⟩ := hid_rec und I.hok hh fr0 k4 q6 q8 q9
    exact ⟨e, cls, dx, H1, rfl, ⟨ne0, I.os, I.bare, u2, ok2, he1, ⟨T', ⟨oe', vs', _, oT', ts', q1, q2, q3, q4, q5, q7, q8, q9, q10⟩, n1, n2⟩, fun dx' hdx => ⟨od', d1, d2.trans hdx⟩⟩, q⟩
theorem leaves_here {P : Program} {w : World} {K : W.Frag} {mg : Str → Option Value} {base : Heap} {N : List Str} {qual : Str} {scope : Scope} {f : Addr} {cd : Value} {A : Around} {outer : List Env} {s : Shared} {H : Hp} {E : XK}
    (hf : (envOfC qual scope s.heap.objs.size f cd).frame = some (envOfC qual scope s.heap.objs.size f cd).locals := by rfl) : LeavesH (cxOf (CXf P w) P w K mg base N qual scope f cd A outer s H E) E :=
  fun pins σ0 σ H0 H1 s0 s1 e t cls dx I0 n0 h1 I he q => fly_here I0 n0 h1 I hf he q
def spXI (C : Addr) (f : Str) : Sp := fun vs H Q _ => ∃ (e t : Addr) (v : V), vs = [.ref e, v] ∧ H e = some (.ext (XN e C t)) ∧ ∀ dx, H dx = none → dx ≠ e → Q .non (upd (upd H dx (.xd [(f, v)])) e (.ext (XE' e C t dx)))
structure XInit (P : Program) (w : World) (K : W.Frag) (mg : Str → Option Value) (base : Heap) (n : Nat) (C fI : Addr) (fl : Str) : Prop where
  ex : ∃ fd ps, FnOk P w K mg base CX0 n fI fd ps (spXI C fl) ∧ Binds K fd ps []
  fn : W.isFn K (.ref fI) = true
section
variable {X : Cx} {x fl : Str} {C fI : Addr} {E : XK} {e : Expr} {t : TA} {np cpos pos : Pos} {n : Nat}
def tRaiseI (C : Addr) (fl : Str) (E : XK) (t : TA) : TS := fun _ σ H => t σ H fun vs H1 => ∃ v, vs = [v] ∧ ∀ dx, H1 dx = none → E (.ref C) (some dx) (upd H1 dx (.xd [(fl, v)]))
theorem ps_raiseI (c : XClsI X.K X.mg x C fI) (ci : XInit X.prog X.w X.K X.mg X.base n C fI fl) (hr : Room (n + 1) X.A) (hl : LeavesH X E) (hc : X.calm = true) (hg : Gl X x) (ha : PA X [e] t) (hs : notStar e = true) (hdb : (x == ("__debug__" : Str)) = false) :
    PS X (.Raise (some (.Call (.Name x np) [e] [] cpos)) none pos) (tRaiseI C fl E t) := by
  intro pins s σ H D I h
  obtain ⟨tl, N, nm, q, bs, hdct, sn, sub, ab, col, dd, k0, k1, k2, k3, k5, mN, hC, hN, hni, T⟩ := c.obj I.mod.kin
  obtain ⟨⟨fd, ps, F, hb⟩, hfn⟩ := ci
  have he : starEach [e] X.env = [(false, eval e X.env)] := by rw [star_cons hs]; rfl
  have hft := beq_iff_eq.mp hfn
  obtain ⟨oI, hoI, hoc⟩ : ∃ oI, X.base.get? fI = some oI ∧ oI.cls = .type "function" := by
    obtain ⟨oI, ho, e'⟩ := Option.map_eq_some_iff.mp (show (X.K.lookup fI).map (·.cls) = some (.type "function") from hft)
    exact ⟨oI, I.mod.kin _ _ ho, e'⟩
  refine raise_initT (C := C) (nm := nm) (q := q) (N := N) (bs := bs) (bm := tl) (hdct := hdct) (sn := sn) (sub := sub) (ab := ab) (col := col) (dd := dd) (k0 := k0) (k1 := k1) (k2 := k2) (k3 := k3) (k5 := k5) (fI := fI) (oI := oI)
    PySem.F.excBase_ValueError (mN := mN) (T.hasType PySem.F.excBase_ValueError.hasBase) (I.ok.hd hc) (by rw [he]; rfl) hni hoc (ld_glob I hg c.at_ ⟨rfl, ?_⟩ hdb)
  have hp := ha cpos pins s σ H _ I h
  rw [he] at hp ⊢
  refine Calls.evalArgs_plain (thn hp fun us s1 ⟨vs, H1, I1, r, v, ev, q⟩ => ?_)
  subst ev
  have hul : us.length = 1 := r.length.symm
  refine ⟨rfl, by rw [hul]; decide, I1.bk _ _ hC, hN.keeps I1.bk, T.keeps I1.bk, I1.bk _ _ hoI, ?_⟩
  have I2 := I1.laid (a := s1.heap.objs.size + 1) (o := .ext (XN (s1.heap.objs.size + 1) C s1.heap.objs.size)) (t' := s1.toks) (h' := heapX s1.heap C us) (fun b u q => heapX_keep q) (Nat.le_succ _) (xn_ok heapX_at)
  have n1 : H1 (s1.heap.objs.size + 1) = none := I1.hok.fresh (Nat.le_succ _)
  have hq : spXI C fl (.ref (s1.heap.objs.size + 1) :: [v]) (upd H1 (s1.heap.objs.size + 1) (.ext (XN (s1.heap.objs.size + 1) C s1.heap.objs.size))) (fun u H2 => u = .non ∧ ∃ dx, H1 dx = none ∧ dx ≠ s1.heap.objs.size + 1 ∧ H2 = upd (upd H1 dx (.xd [(fl, v)])) (s1.heap.objs.size + 1) (.ext (XE' (s1.heap.objs.size + 1) C s1.heap.objs.size dx))) E0 := by
    refine ⟨_, _, v, rfl, upd_same, fun dx h0 hne => ⟨rfl, dx, by rw [upd_ne hne] at h0; exact h0, hne, ?_⟩⟩
    funext b
    unfold upd
    by_cases z : b = s1.heap.objs.size + 1
    · rw [if_pos z, if_pos z]
    · simp only [if_neg z]
  have hl2 : (Value.ref (s1.heap.objs.size + 1) :: us).length = ps.length := by
    have e1 := F.len _ _ _ _ hq
    rw [List.length_cons, hul, ← e1]; rfl
  have hb' := hb { s1 with heap := heapX s1.heap C us } (Value.ref (s1.heap.objs.size + 1) :: us) I2.kIn (by rw [List.append_nil]; exact hl2)
  rw [List.append_nil] at hb'
  refine wpAny_call (codeAny_mono (F.run _ X.stack _ _ ⟨Value.ref (s1.heap.objs.size + 1) :: us, []⟩ (Value.ref (s1.heap.objs.size + 1) :: us) (.ref (s1.heap.objs.size + 1) :: [v]) _ E0 (hr.make C us []) (I2.env0.make C us []) hb' (.cons rfl r) hq) fun rs s' hq' => ?_)
  cases rs with
  | error e' => exact False.elim hq'
  | ok fl =>
    cases fl with
    | ret u =>
      obtain ⟨v', H', I3, rv, ev, dx, f0, hne, eH⟩ := I2.after hq'
      subst ev eH
      have gx := (show ObjOk X.prog X.w _ s'.heap _ (.ext (XE' (s1.heap.objs.size + 1) C s1.heap.objs.size dx)) from I3.hok _ _ upd_same).1
      have n2 : (upd H1 dx (.xd [(fl, v)])) (s1.heap.objs.size + 1) = none := by rw [upd_ne hne.symm]; exact n1
      have I4 := I3.drop n2
      exact ⟨rv, s1.heap.objs.size, some dx, #[], I4.bk _ _ hC, gx, hl pins σ σ H1 _ s1 s' _ _ _ _ I1 (Heap.get?_none_of_le (Nat.le_succ _)) n2 I4 gx (q dx f0)⟩
    | next => exact False.elim hq'
    | brk => exact False.elim hq'
    | cont => exact False.elim hq'
theorem R.raiseI (c : XClsI X.K X.mg x C fI) (ci : XInit X.prog X.w X.K X.mg X.base n C fI fl) (hr : Room (n + 1) X.A) (hl : LeavesH X E) (hc : X.calm = true) (hg : Gl X x := by rfl) (ha : XA X [e] t) (hs : notStar e = true := by rfl) (hdb : (x == ("__debug__" : Str)) = false := by decide) :
    XS X (.Raise (some (.Call (.Name x np) [e] [] cpos)) none pos) (tRaiseI C fl E t) := ⟨ps_raiseI c ci hr hl hc hg ha.h hs hdb⟩
end
end L2
namespace L2
open PySem PySem.Spec PyProof.Rows
section
variable {prog : Program} {w : World} {A : Around} {E : Value → Shared → Prop} {s : Shared} {K : W.Frag} {x D : Addr}
end
section
variable {X : Cx} {e : Expr} {te : TE} {f : Str} {pos : Pos} {K : W.Frag}
end
namespace R
end R
end L2
namespace L2
open PySem PySem.Spec PyProof.Rows
structure InitAt (K : W.Frag) (fI : Addr) (qual : Str) (st : Stmt) (ps : List Str) : Prop where
  ex : ∃ fd, Fun K "__init__" qual st fI fd ∧ Binds K fd ps []
  fn : W.isFn K (.ref fI) = true
theorem InitAt.go {P : Program} {w : World} {K : W.Frag} {mg : Str → Option Value} {base : Heap} {qual fl : Str} {st : Stmt} {N ps : List Str} {k : Nat} {C fI : Addr} (D : InitAt K fI qual st ps) (S : FnScope N ps (defScope st)) (len : ps.length = 2)
    (hbody : ∀ (cdv : Value) (A : Around) (outer : List Env) (s : Shared) (H : Hp) (vs : List V) (Q : VK) (E : XK), Room k (A.deeper (envOfC qual (defScope st) s.heap.objs.size fI cdv)) → spXI C fl vs H Q E →
      ∃ t, XB (cxOf CX0 P w K mg base N qual (defScope st) fI cdv A outer s H E).nox (defBody st) t ∧ t { nx := fun _ H' => Q .non H', rt := Q } (start N vs) H) : XInit P w K mg base (k + 1) C fI fl := by
  obtain ⟨fd, F, hb⟩ := D.ex
  exact ⟨⟨fd, ps, F.go S (fun vs H Q E h => by obtain ⟨e, t, v, rfl, _⟩ := h; rw [len]; rfl) hbody, hb⟩, D.fn⟩
end L2
namespace L2
open PySem PySem.Spec PyProof.Rows
end L2
namespace L2
open PySem PySem.Spec PyProof.Rows
def Itm (lo : Int) (n : Nat) : It := ⟨fun i _ => i < n, fun i H x H' => H' = H ∧ x = .int (lo - i), fun i _ => n ≤ i⟩
theorem turn_rangeM {P : Program} {w : World} {K : W.Frag} {tg : Expr} (it : Addr) (lo : Int) (n : Nat) : Turn P w K tg (Itm lo n) [it] it (fun i h => IsRangeIter h it (lo + (i : Nat) * (-1)) ((n : Int) - (i : Nat)) (-1)) where
  mem := by simp
  obj := fun i h st b hb => by
    have e : b = it := by simpa using hb
    subst e
    exact ⟨_, st, fun v z => by
      have z' : Data.fields _ = Data.cell v := z
      cases z'⟩
  keep := fun i h h' st k => k it (by simp) _ st
  item := by
    intro X hP hw hK hc i pins s σ H E I hf st hg
    subst hP hw hK
    obtain ⟨f0, f1, f2, f3, f4, f5⟩ := hf it (by simp)
    have W := Walks.range (prog := X.prog) (w := X.w) (I.ok.hd hc) it lo (-1) n
    refine W.item i s _ _ hg st fun v h' tk hv st' kk => ?_
    obtain ⟨t, rfl⟩ := hv
    have I1 : Inv X pins σ H { s with heap := h', toks := tk } := I.turned (fun b o hb e => kk b o (by simpa using hb) e) f0 f1 f3 f4 f5
    refine ⟨_, rfl, go_of (s := { s with heap := h', toks := tk }) (n := "range_iterator") st' rfl rfl (by decide) ⟨.int (lo - i), H, I1, ⟨t, ?_⟩, ⟨rfl, rfl⟩, st', fun b hb => (hf b hb).1⟩⟩
    have e : lo + (i : Int) * (-1) = lo - i := by omega
    rw [e]
  done := by
    intro X hP hw hK hc i pins s σ H E I hf st hg
    subst hP hw hK
    obtain ⟨f0, f1, f2, f3, f4, f5⟩ := hf it (by simp)
    exact wpAny_pyNext_range_end (I.ok.hd hc) st (by have : n ≤ i := hg; omega) fun h' eb => ⟨rfl, I.turned (t' := s.toks) (fun b o hb e => eb b o hb e) f0 f1 f3 f4 f5⟩
  self := fun _ _ _ _ _ st h => wpAny_pyIter_rangeiter st h
theorem rangeSize_m (a b : Int) : Builtin.Range.rangeSize a b (-1) = if b < a then a - b else 0 := by
  unfold Builtin.Range.rangeSize
  simp
theorem small_m {a b : Int} (h1 : -(2 ^ 62) ≤ a) (h2 : a < 2 ^ 62) (h3 : -(2 ^ 62) ≤ b) (h4 : b < 2 ^ 62) : Builtin.Range.small a b (-1) = true := by
  unfold Builtin.Range.small
  rw [rangeSize_m]
  simp only [Builtin.Range.rangeFitsLong, Bool.and_eq_true, Bool.or_eq_true, decide_eq_true_eq, beq_iff_eq, show ¬ (-1 : Int) > 0 by decide, if_false]
  split <;> omega
section
variable {X : Cx} {tg : Expr}
theorem range_itm {pins : List (Addr × Obj)} {σ : St} {H : Hp} {s : Shared} {R : It → Hp → Prop} {E : Value → Shared → Prop} {lo hi : Int} {t u v : Tok} {tk : Nat} (I : Inv X pins σ H s) (h1 : -(2 ^ 62) ≤ lo) (h2 : lo < 2 ^ 62) (h3 : -(2 ^ 62) ≤ hi) (h4 : hi < 2 ^ 62)
    (q : R (Itm lo (lo - hi).toNat) H) : wpAny (model X.prog X.w) X.A (pyIter (.ref s.heap.objs.size)) (PIE X pins σ tg R) E { s with heap := s.heap.push { cls := .type "range", data := .fields #[.int lo t, .int hi u, .int (-1) v] }, toks := tk } := by
  refine wpAny_pyIter_range (IsRange.new ..) (small_m h1 h2 h3 h4) ?_
  have I1 : Inv X pins σ H { s with heap := s.heap.push { cls := .type "range", data := .fields #[.int lo t, .int hi u, .int (-1) v] }, toks := tk } := I.kept fun b o e => Heap.get?_push_of_some _ e
  refine ⟨(s.heap.push { cls := .type "range", data := .fields #[.int lo t, .int hi u, .int (-1) v] }).objs.size, [(s.heap.push { cls := .type "range", data := .fields #[.int lo t, .int hi u, .int (-1) v] }).objs.size], _, _, H, rfl,
    I1.kept (t' := tk) fun b o e => Heap.get?_push_of_some _ e, turn_rangeM _ lo (lo - hi).toNat, ?_, fun b hb => ?_, q⟩
  · have e1 : lo + ((0 : Nat) : Int) * (-1) = lo := by simp
    have e2 : (((lo - hi).toNat : Nat) : Int) - ((0 : Nat) : Int) = Builtin.Range.rangeSize lo hi (-1) := by rw [rangeSize_m]; split <;> omega
    show IsRangeIter _ _ (lo + ((0 : Nat) : Int) * (-1)) ((((lo - hi).toNat : Nat) : Int) - ((0 : Nat) : Int)) (-1)
    rw [e1, e2]
    exact Heap.get?_push_size _ rfl
  · obtain rfl : b = (s.heap.push { cls := .type "range", data := .fields #[.int lo t, .int hi u, .int (-1) v] }).objs.size := by simpa using hb
    exact I1.fpOk (Nat.le_refl _) (I1.hok.fresh (Nat.le_refl _))
def iRngM (ta : TA) : TI := fun σ H R => ta σ H fun vs H1 => ∃ i j : Int, vs = [.int i, .int j, .int (-1)] ∧ (-100000 ≤ i ∧ i ≤ 100000 ∧ -100000 ≤ j ∧ j ≤ 100000) ∧ R (Itm i (i - j).toNat) H1
theorem pi_rangeM {a b c : Expr} {ta : TA} {p pos : Pos} (hg : Gl X "range") (hm : X.mg "range" = none) (ha : PA X [a, b, c] ta) (hs : starEach [a, b, c] X.env = [(false, eval a X.env), (false, eval b X.env), (false, eval c X.env)]) (hs2 : starEach [b, c] X.env = [(false, eval b X.env), (false, eval c X.env)]) :
    PI X tg (.Call (.Name "range" p) [a, b, c] [] pos) (iRngM ta) := by
  intro pins s σ H R I h
  refine Call_ (ld_blt I hg hm boot_range (PyProof.Rows.callWith_type1 (thn (ha pos pins s σ H _ I h) fun us s1 ⟨vs, H1, I1, r1, q1⟩ => ?_) (by rw [hs, hs2]) (by rw [hs2]; rfl)))
  obtain ⟨i, j, e, ⟨q1, q2, q3, q4⟩, q⟩ := q1
  subst e
  cases r1 with
  | cons r rr =>
    cases rr with
    | cons r' rr =>
      cases rr with
      | cons r'' rr =>
        cases rr
        obtain ⟨t, rfl⟩ := r
        obtain ⟨t', rfl⟩ := r'
        obtain ⟨t'', rfl⟩ := r''
        exact call_range_3 (by decide) (range_itm I1 (by omega) (by omega) (by omega) (by omega) q) (Or.inl (PyProof.noPylong_small (by omega)))
theorem R.rangeM {a b c : Expr} {t : TA} {p pos : Pos} (hg : Gl X "range") (hm : X.mg "range" = none) (ha : XA X [a, b, c] t) (h1 : notStar a = true := by rfl) (h2 : notStar b = true := by rfl) (h3 : notStar c = true := by rfl) : XI X tg (.Call (.Name "range" p) [a, b, c] [] pos) (iRngM t) :=
  ⟨pi_rangeM hg hm ha.h (by rw [star_cons h1, star_cons h2, star_cons h3]; rfl) (by rw [star_cons h2, star_cons h3]; rfl)⟩
end
def rangeM (lo : Int) (n : Nat) : List V := (List.range n).map fun i : Nat => V.int (lo - (i : Int))
theorem seq_rangeM (lo : Int) (n : Nat) : Seqs (Itm lo n) (rangeM lo n) (fun _ => True) := by
  have hl : (rangeM lo n).length = n := by simp [rangeM]
  refine ⟨fun i H hi _ => by rw [hl] at hi; exact hi, fun i H v H' hi _ ⟨e, ev⟩ => ⟨e, ?_⟩, fun H _ => by rw [hl]; exact Nat.le_refl _⟩
  subst ev
  rw [hl] at hi
  unfold rangeM
  rw [List.getElem?_map, List.getElem?_range hi]
  rfl
theorem takes_none {X : Cx} : Takes X (fun _ _ _ _ => False) := fun pins σ H s e s' I h => by
  obtain ⟨a, cls, od, H', rfl, F, hE⟩ := h
  exact hE.elim
end L2
namespace L2
open PySem PySem.Spec PyProof.Rows
section
variable {prog : Program} {w : World} {A : Around} {E : Value → Shared → Prop} {s : Shared}
theorem sorted_seqI {l : Addr} {o : Obj} {vs : List Value} {ns : List Int} {n : Nat} {Q : Value → Shared → Prop} (ho : s.heap.get? l = some o) (hc : o.cls = .type "list") (hd : o.data = .seq vs.toArray n) (hI : IntsAre vs ns) (h64 : vs.length < 64)
    (h : ∀ (h1 h' : Heap) (out : Array Value) (e : Nat) (ns' : List Int), (∀ b ob, s.heap.get? b = some ob → h1.get? b = some ob) → (∀ b ob, h1.get? b = some ob → h'.get? b = some ob) → h'.get? h1.objs.size = some (seqObj "list" out e) → IntsAre out.toList ns' → ns'.Perm ns → ns'.Pairwise (· ≤ ·) → Q (.ref h1.objs.size) { s with heap := h' }) :
    wpAny (model prog w) A (call (.builtin "sorted") [.ref l]) Q E s := by
  apply Calls.call_function_entry kind_sorted plain_sorted entry_sorted (args_sorted1 _)
  unfold Builtin.«sorted»
  apply wpAny_bind (m := checkCount "sorted" 1 1 _)
  apply wpAny_pure
  apply wpAny_bind
  refine wpAny_collect_seq l (.inl rfl) ho hc hd (fun h1 k1 => ?_) (by rw [List.size_toArray]; exact Nat.le_trans (Nat.le_of_lt h64) (by decide))
  rw [show vs.toArray.toList = vs by simp]
  apply wpAny_bind
  apply wpAny_newList
  · have g2 : (h1.push (seqObj "list" vs.toArray 0)).get? h1.objs.size = some (seqObj "list" vs.toArray 0) := Heap.get?_push_size _ rfl
    apply wpAny_bind
    apply wpAny_holding
    refine wpAny_call_entry slot_list_sort ⟨_, g2, rfl⟩ entry_list_sort (list_sort_tree g2 hI h64 fun out ns' a1 a2 a3 => ⟨_, rfl, wpAny_pure ⟨_, rfl, ?_⟩⟩) (args_list_sort _)
    obtain ⟨e, he⟩ := sortedHeap_at (out := out) g2
    refine h h1 _ _ e ns' k1 (fun b ob hb1 => ?_) he a1 a2 a3
    have hlt := Heap.lt_size hb1
    rw [sortedHeap_old (Nat.ne_of_lt hlt) (by rw [size_push']; exact Nat.lt_succ_of_lt hlt)]
    exact Heap.get?_push_of_some _ hb1
  · exact Nat.le_trans (Nat.le_of_lt h64) (by decide)
end
theorem ints_vals : ∀ {vs : List Value} {ns : List Int}, IntsAre vs ns → Vals (ns.map V.int) vs
  | _, _, .nil => .nil
  | _, _, .cons x t h => .cons ⟨t, rfl⟩ (ints_vals h)
section
variable {X : Cx}
def mSortedI (K : W.Frag) : List V → Hp → VK → Prop := fun vs H Q => match vs with
  | [.ref a] => ∃ ns : List Int, SqL K H a (ns.map V.int) ∧ ns.length < 64 ∧ ∀ (l : Addr) (ns' : List Int), H l = none → ns'.Perm ns → ns'.Pairwise (· ≤ ·) → Q (.ref l) (upd H l (.lst (ns'.map V.int)))
  | _ => False
theorem c_sortedI : CallR X (.builtin "sorted") (mSortedI X.K) := by
  intro pins s σ H xs us Q I r h
  unfold mSortedI at h
  split at h
  · rename_i a
    obtain ⟨ns, hq, h64, q⟩ := h
    obtain ⟨u, rfl, ru⟩ := vals1 r
    cases ru
    obtain ⟨its, r1, p1, _⟩ := I.list hq
    obtain ⟨o, ho, hc, n, hd⟩ := p1.isList
    have hl := r1.length
    rw [List.length_map] at hl
    refine sorted_seqI ho hc hd (intsAre_of r1) (by omega) fun h1 h' out e ns' k1 k he hS hp hs => ?_
    have I1 := I.kept (t' := s.toks) k1
    refine ⟨.ref h1.objs.size, _, I1.laid (t' := s.toks) (o := .lst (ns'.map V.int)) k (Nat.le_refl _) ?_, rfl, q _ _ (I1.hok.fresh (Nat.le_refl _)) hp hs⟩
    refine ⟨?_, out.toList, e, ints_vals hS, he⟩
    rw [List.length_map, hp.length_eq]
    exact Nat.le_trans (Nat.le_of_lt h64) (by decide)
  · exact h.elim
theorem R.ksortedI {K : W.Frag} (hK : X.K = K := by rfl) : XC X (.builtin "sorted") (mSortedI K) := hK ▸ ⟨c_sortedI⟩
end
end L2
namespace L2
open PySem PySem.Spec PyProof.Rows
def SetI (a : Addr) (n : Nat) : Heap → Prop := fun h => ∃ o es ep t, h.get? a = some o ∧ o.ExactSet ∧ o.data = .set es ep t ∧ t.fits es.size = true ∧ es.size = n
theorem set_ok {P : Program} {w : World} {H : Hp} {h : Heap} {a : Addr} {n : Nat} (g : SetI a n h) : ObjOk P w H h a (.ext (SetI a n)) :=
  ⟨g, (let ⟨o, _, _, _, e, _⟩ := g; ⟨o, e⟩), fun _ _ ⟨o, es, ep, t, e, r⟩ k => ⟨o, es, ep, t, k _ e, r⟩⟩
theorem dedup_nodup : ∀ (xs acc : List Int), (acc ++ xs).Nodup → xs.foldl step_dedup acc = acc ++ xs
  | [], acc, _ => by simp
  | x :: r, acc, h => by
    have hx : x ∉ acc := fun hin => (List.nodup_append.mp h).2.2 x hin x List.mem_cons_self rfl
    have e : step_dedup acc x = acc ++ [x] := by
      unfold step_dedup
      simp [hx]
    rw [List.foldl_cons, e, dedup_nodup r (acc ++ [x]) (by rw [List.append_assoc]; exact h), List.append_assoc]
    rfl
theorem firstMet_nodup {ns : List Int} (h : ns.Nodup) : firstMet (fun i => ns.getD i 0) ns.length = ns := by
  have e : (List.range ns.length).map (fun i => ns.getD i 0) = ns := by
    refine List.ext_getElem (by simp) fun i h1 h2 => ?_
    simp [List.getElem?_eq_getElem h2]
  unfold firstMet
  rw [e, dedup_nodup ns [] (by simpa using h)]
  rfl
section
variable {X : Cx}
def mSetI (K : W.Frag) : List V → Hp → VK → Prop := fun vs H Q => match vs with
  | [.ref a] => ∃ ns : List Int, SqL K H a (ns.map V.int) ∧ ns.length < 64 ∧ ns.Nodup ∧ ∀ l : Addr, H l = none → Q (.ref l) (upd H l (.ext (SetI l ns.length)))
  | _ => False
theorem c_setI (hc : X.calm = true) : CallR X (.type "set") (mSetI X.K) := by
  intro pins s σ H xs us Q I r h
  unfold mSetI at h
  split at h
  · rename_i a
    obtain ⟨ns, hq, h64, hn, q⟩ := h
    obtain ⟨u, rfl, ru⟩ := vals1 r
    cases ru
    obtain ⟨its, r1, p1, _⟩ := I.list hq
    have hl := r1.length
    rw [List.length_map] at hl
    refine call_set_list (I.ok.hd hc) p1.isList (by simpa using intsAre_of r1) (by rw [List.size_toArray]; exact Nat.lt_trans (show its.length + 1 < 100 by omega) (by decide)) fun h' tk hS hk => ?_
    have e1 : its.toArray.size = ns.length := by rw [List.size_toArray]; exact hl.symm
    rw [e1, firstMet_nodup hn] at hS
    obtain ⟨o, es, ep, t, g1, g2, g3, _, _, _, g4, g5⟩ := hS
    refine ⟨.ref s.heap.objs.size, _, I.laid (a := s.heap.objs.size) (o := .ext (SetI s.heap.objs.size ns.length)) (h' := h') (t' := tk) (fun b ob e => hk b ob (Heap.lt_size e) e) (Nat.le_refl _) (set_ok ⟨o, es, ep, t, g1, g2, g3, g4, g5⟩), rfl, q _ (I.hok.fresh (Nat.le_refl _))⟩
  · exact h.elim
theorem R.ksetI {K : W.Frag} (hc : X.calm = true) (hK : X.K = K := by rfl) : XC X (.type "set") (mSetI K) := hK ▸ ⟨c_setI hc⟩
def mLenSt : List V → Hp → VK → Prop := fun vs H Q => match vs with
  | [.ref a] => ∃ n : Nat, H a = some (.ext (SetI a n)) ∧ n < 1000 ∧ Q (.int n) H
  | _ => False
theorem c_lenSt : CallR X (.builtin "len") mLenSt := by
  intro pins s σ H xs us Q I r h
  unfold mLenSt at h
  split at h
  · rename_i a
    obtain ⟨n, e, hn, q⟩ := h
    obtain ⟨u, rfl, ru⟩ := vals1 r
    cases ru
    obtain ⟨⟨o, es, ep, t, g1, g2, g3, g4, g5⟩, _⟩ := (show ObjOk X.prog X.w H s.heap a (.ext (SetI a n)) from I.hok a _ e)
    refine call_len_set g1 g2 g3 g4 (by rw [g5]; omega) ⟨.int n, H, I.tok _, ⟨_, by rw [g5]⟩, q⟩
  · exact h.elim
theorem R.lenSt : XC X (.builtin "len") mLenSt := ⟨c_lenSt⟩
end
end L2
theorem L2.bb_set : PySem.bootBuiltins "set" = some (.type "set") := by decide +kernel
namespace KL
open PySem L2
def top (i : Nat) : Stmt := PySem.Challenge.pw_oncedoor_k44_whole_keys_by_their_log.main.body.getD i (.Pass ⟨0, 0, 0, 0⟩)
abbrev s_Busy___init__ : Stmt := inClass (top 3) 0
abbrev s_Keys___init__ : Stmt := inClass (top 5) 0
abbrev s_Keys_look : Stmt := inClass (top 5) 1
abbrev s_Keys_begin : Stmt := inClass (top 5) 2
abbrev s_Keys_drop : Stmt := inClass (top 5) 3
abbrev s_Keys_settle : Stmt := inClass (top 5) 4
abbrev s_Keys_kept : Stmt := inClass (top 5) 5
abbrev s_Keys_under : Stmt := inClass (top 5) 6
abbrev s_Keys_end : Stmt := inClass (top 5) 7
abbrev s_Keys_is_kept : Stmt := inClass (top 5) 8
abbrev s_is_alive : Stmt := top 6
abbrev s_law_pen : Stmt := top 8
abbrev s_law_take : Stmt := top 9
abbrev s_law_cell_at : Stmt := top 10
abbrev s_law_names : Stmt := top 11
abbrev s_law_keys : Stmt := top 12
abbrev s_law_number : Stmt := top 13
abbrev s_law_deed : Stmt := top 14
abbrev s_law_answer : Stmt := top 15
abbrev s_law_same : Stmt := top 16
abbrev s_law_pairs : Stmt := top 17
abbrev s_law_last : Stmt := top 18
abbrev s_law_looked : Stmt := top 19
abbrev s_law_do : Stmt := top 20
abbrev s_law_refused : Stmt := top 21
abbrev s_law_right : Stmt := top 22
abbrev s_law : Stmt := top 23
theorem sc_Busy___init__ : FnScope ["self", "number"] ["self", "number"] (defScope s_Busy___init__) := ⟨rfl, rfl, rfl, by decide +kernel, rfl, by decide +kernel, by decide +kernel⟩
theorem sc_Keys___init__ : FnScope ["self", "life"] ["self", "life"] (defScope s_Keys___init__) := ⟨rfl, rfl, rfl, by decide +kernel, rfl, by decide +kernel, by decide +kernel⟩
theorem sc_Keys_look : FnScope ["self", "asker", "key", "turn", "pair", "entry"] ["self", "asker", "key", "turn"] (defScope s_Keys_look) := ⟨rfl, rfl, rfl, by decide +kernel, rfl, by decide +kernel, by decide +kernel⟩
theorem sc_Keys_begin : FnScope ["self", "asker", "key", "number", "deed", "pair"] ["self", "asker", "key", "number", "deed"] (defScope s_Keys_begin) := ⟨rfl, rfl, rfl, by decide +kernel, rfl, by decide +kernel, by decide +kernel⟩
theorem sc_Keys_drop : FnScope ["self", "asker", "key"] ["self", "asker", "key"] (defScope s_Keys_drop) := ⟨rfl, rfl, rfl, by decide +kernel, rfl, by decide +kernel, by decide +kernel⟩
theorem sc_Keys_settle : FnScope ["self", "asker", "key", "turn", "answer", "entry"] ["self", "asker", "key", "turn", "answer"] (defScope s_Keys_settle) := ⟨rfl, rfl, rfl, by decide +kernel, rfl, by decide +kernel, by decide +kernel⟩
theorem sc_Keys_kept : FnScope ["self", "turn", "told", "pair", "entry"] ["self", "turn"] (defScope s_Keys_kept) := ⟨rfl, rfl, rfl, by decide +kernel, rfl, by decide +kernel, by decide +kernel⟩
theorem sc_Keys_under : FnScope ["self"] ["self"] (defScope s_Keys_under) := ⟨rfl, rfl, rfl, by decide +kernel, rfl, by decide +kernel, by decide +kernel⟩
theorem sc_Keys_end : FnScope ["self", "pair"] ["self", "pair"] (defScope s_Keys_end) := ⟨rfl, rfl, rfl, by decide +kernel, rfl, by decide +kernel, by decide +kernel⟩
theorem sc_Keys_is_kept : FnScope ["self", "pair", "turn"] ["self", "pair", "turn"] (defScope s_Keys_is_kept) := ⟨rfl, rfl, rfl, by decide +kernel, rfl, by decide +kernel, by decide +kernel⟩
theorem sc_is_alive : FnScope ["since", "life", "turn"] ["since", "life", "turn"] (defScope s_is_alive) := ⟨rfl, rfl, rfl, by decide +kernel, rfl, by decide +kernel, by decide +kernel⟩
theorem sc_law_pen : FnScope ["_law_cell", "_law_k"] ["_law_cell", "_law_k"] (defScope s_law_pen) := ⟨rfl, rfl, rfl, by decide +kernel, rfl, by decide +kernel, by decide +kernel⟩
theorem sc_law_take : FnScope ["_law_pen_here", "_law_most", "_law_found", "_law_turn", "_law_mixed"] ["_law_pen_here", "_law_most"] (defScope s_law_take) := ⟨rfl, rfl, rfl, by decide +kernel, rfl, by decide +kernel, by decide +kernel⟩
theorem sc_law_cell_at : FnScope ["_law_script", "_law_k"] ["_law_script", "_law_k"] (defScope s_law_cell_at) := ⟨rfl, rfl, rfl, by decide +kernel, rfl, by decide +kernel, by decide +kernel⟩
theorem sc_law_names : FnScope ["_law_pen_here", "_law_many", "_law_letters", "_law_size", "_law_at", "_law_step", "_law_base", "_law_names_here", "_law_k", "_law_long", "_law_signs"] ["_law_pen_here", "_law_many"] (defScope s_law_names) := ⟨rfl, rfl, rfl, by decide +kernel, rfl, by decide +kernel, by decide +kernel⟩
theorem sc_law_keys : FnScope ["_law_pen_here", "_law_many", "_law_signs", "_law_size", "_law_at", "_law_step", "_law_base", "_law_rows", "_law_k", "_law_row"] ["_law_pen_here", "_law_many"] (defScope s_law_keys) := ⟨rfl, rfl, rfl, by decide +kernel, rfl, by decide +kernel, by decide +kernel⟩
theorem sc_law_number : FnScope ["_law_pen_here", "_law_least", "_law_most", "_law_way"] ["_law_pen_here", "_law_least", "_law_most"] (defScope s_law_number) := ⟨rfl, rfl, rfl, by decide +kernel, rfl, by decide +kernel, by decide +kernel⟩
theorem sc_law_deed : FnScope ["_law_pen_here", "_law_names_here", "_law_word", "_law_one", "_law_other", "_law_name", "_law_n"] ["_law_pen_here", "_law_names_here"] (defScope s_law_deed) := ⟨rfl, rfl, rfl, by decide +kernel, rfl, by decide +kernel, by decide +kernel⟩
theorem sc_law_answer : FnScope ["_law_pen_here", "_law_deed_here", "_law_word", "_law_n", "_law_short", "_law_full", "_law_less", "_law_more", "_law_some"] ["_law_pen_here", "_law_deed_here"] (defScope s_law_answer) := ⟨rfl, rfl, rfl, by decide +kernel, rfl, by decide +kernel, by decide +kernel⟩
theorem sc_law_same : FnScope ["_law_found", "_law_due"] ["_law_found", "_law_due"] (defScope s_law_same) := ⟨rfl, rfl, rfl, by decide +kernel, rfl, by decide +kernel, by decide +kernel⟩
theorem sc_law_pairs : FnScope ["_law_names_here", "_law_keys_here", "_law_pairs_here", "_law_asker"] ["_law_names_here", "_law_keys_here"] (defScope s_law_pairs) := ⟨rfl, rfl, rfl, by decide +kernel, rfl, by decide +kernel, by decide +kernel⟩
theorem sc_law_last : FnScope ["_law_log", "_law_pair", "_law_at", "_law_begun"] ["_law_log", "_law_pair"] (defScope s_law_last) := ⟨rfl, rfl, rfl, by decide +kernel, rfl, by decide +kernel, by decide +kernel⟩
theorem sc_law_looked : FnScope ["_law_log", "_law_pair", "_law_life", "_law_turn", "_law_found", "_law_number_here", "_law_deed_here", "_law_when", "_law_answer_here"] ["_law_log", "_law_pair", "_law_life", "_law_turn"] (defScope s_law_looked) := ⟨rfl, rfl, rfl, by decide +kernel, rfl, by decide +kernel, by decide +kernel⟩
theorem sc_law_do : FnScope ["_law_keys_here", "_law_entry", "_law_asker", "_law_key"] ["_law_keys_here", "_law_entry"] (defScope s_law_do) := ⟨rfl, rfl, rfl, by decide +kernel, rfl, by decide +kernel, by decide +kernel⟩
theorem sc_law_refused : FnScope ["_law_keys_here", "_law_entry", "_law_found", "e"] ["_law_keys_here", "_law_entry"] (defScope s_law_refused) := ⟨rfl, rfl, rfl, by decide +kernel, rfl, by decide +kernel, by decide +kernel⟩
theorem sc_law_right : FnScope ["_law_keys_here", "_law_log", "_law_pairs_here", "_law_life", "_law_turn", "_law_numbers", "_law_pair", "_law_due", "_law_found"] ["_law_keys_here", "_law_log", "_law_pairs_here", "_law_life", "_law_turn"] (defScope s_law_right) := ⟨rfl, rfl, rfl, by decide +kernel, rfl, by decide +kernel, by decide +kernel⟩
theorem sc_law : FnScope ["_law_script", "_law_pen_here", "_law_pairs_here", "_law_names_here", "_law_life", "_law_start", "_law_step", "_law_keys_here", "_law_log", "_law_k", "_law_cell", "_law_pair", "_law_turn", "_law_deed_here", "_law_last_here", "_law_busy", "_law_entry", "_law_way", "_law_alone"] ["_law_script"] (defScope s_law) := ⟨rfl, rfl, rfl, by decide +kernel, rfl, by decide +kernel, by decide +kernel⟩
structure Txt (K : W.Frag) (mg : Str → Option Value) : Prop where
  b_isinstance : mg "isinstance" = none
  b_int : mg "int" = none
  b_bool : mg "bool" = none
  b_all : mg "all" = none
  b_str : mg "str" = none
  b_len : mg "len" = none
  b_tuple : mg "tuple" = none
  b_zip : mg "zip" = none
  b_dict : mg "dict" = none
  b_sorted : mg "sorted" = none
  b_sum : mg "sum" = none
  b_list : mg "list" = none
  b_reversed : mg "reversed" = none
  b_range : mg "range" = none
  b_min : mg "min" = none
  b_max : mg "max" = none
  b_enumerate : mg "enumerate" = none
  b_ValueError : mg "ValueError" = none
  b_set : mg "set" = none
section
variable {P : Program} {w : World} {K : W.Frag} {mg : Str → Option Value} {base : Heap}
theorem ok_pen (T : Txt K mg) (D : DefAt K mg "_law_pen" s_law_pen ["_law_cell", "_law_k"]) : Callee P w K mg base 1 "_law_pen" ["_law_cell", "_law_k"] spPen := by
  refine D.go sc_law_pen (fun vs H Q E h => ?_) (fun f cdv A outer s H vs Q E hr h => ?_)
  · obtain ⟨c, k, rfl, _⟩ := h; rfl
  · obtain ⟨c, k, rfl, q⟩ := h
    refine ⟨_, (R.sone (R.ret (R.lst (R.cons (R.callB (R.max rfl) rfl T.b_max bb_max (R.cons R.int (R.cons (R.op R.sub (R.v 0) (R.op R.pow R.int R.int)) R.nil))) (R.cons (R.op R.mod (R.op R.add (R.op R.add (R.op R.mul (R.op R.mod (R.v 0) R.int) R.int) (R.op R.mul R.int (R.v 1))) R.int) R.int) R.nil))))), ?_⟩
    refine ⟨⟨by decide, by decide, by decide⟩, ?_⟩
    refine ⟨by show (0 : Int) < _; decide, .inr ⟨by decide, by decide⟩, .inl ⟨by decide, by decide⟩, by show (0 : Int) < _; decide, szl rfl, fun p hp => ?_⟩
    refine q p _ hp (same_upd hp) ⟨_, _, upd_same, ?_, Int.emod_nonneg _ (by decide), Int.emod_lt_of_pos _ (by decide)⟩
    split <;> omega
theorem ok_take (T : Txt K mg) (D : DefAt K mg "_law_take" s_law_take ["_law_pen_here", "_law_most"]) : Callee P w K mg base 1 "_law_take" ["_law_pen_here", "_law_most"] spTake := by
  refine D.go sc_law_take (fun vs H Q E h => ?_) (fun f cdv A outer s H vs Q E hr h => ?_)
  · obtain ⟨p, m, rfl, _⟩ := h; rfl
  · obtain ⟨p, m, rfl, ⟨i, j, g, i0, j0, j1⟩, m0, m1, q⟩ := h
    refine ⟨_, (R.scons (R.ife (R.tcmp R.gt (R.ix (R.kiL (K := K)) (R.v 0) R.int) R.int)
      (R.scons (R.set (i := 2) sc_law_take.nd (R.op R.mod (R.ix (R.kiL (K := K)) (R.v 0) R.int) (R.v 1)))
      (R.scons (R.asg (R.op R.fdivL (R.ix (R.kiL (K := K)) (R.v 0) R.int) (R.v 1)) (R.gsub (R.v 0) R.int R.setL))
      (R.sone (R.ret (R.v 2)))))
      R.snil)
      (R.scons (R.set (i := 2) sc_law_take.nd R.int)
      (R.scons (R.for_ PassesOwn.never rfl (R.range1 rfl T.b_range (R.cons (R.op R.add R.int (R.callTy R.toInt rfl T.b_int bb_int (R.cons (R.cmp R.gt (R.v 1) (R.op R.pow R.int R.int)) R.nil))) R.nil)) (R.gn (i := 3) sc_law_take.nd)
      (R.scons (R.asg (R.op R.mod (R.op R.add (R.op R.add (R.op R.mul (R.ix (R.kiL (K := K)) (R.v 0) R.int) (R.ix (R.kiL (K := K)) (R.v 0) R.int)) (R.op R.mul R.int (R.ix (R.kiL (K := K)) (R.v 0) R.int))) R.int) R.int) (R.gsub (R.v 0) R.int R.setL))
      (R.scons (R.set (i := 4) sc_law_take.nd (R.op R.mod (R.op R.add (R.op R.mul (R.ix (R.kiL (K := K)) (R.v 0) R.int) R.int) R.int) R.int))
      (R.sone (R.set (i := 2) sc_law_take.nd (R.op R.add (R.op R.mul (R.v 2) R.int) (R.op R.mod (R.op R.mul (R.v 4) (R.v 4)) R.int)))))))
      (R.sone (R.ret (R.op R.mod (R.op R.fdivL (R.v 2) R.int) (R.v 1))))))), ?_⟩
    refine ⟨_, SqL.of g, _, rfl, ?_⟩
    refine if_b (fun h => ?_) (fun h => ?_)
    · have hi : 0 < i := of_decide_eq_true h
      refine ⟨_, SqL.of g, _, rfl, m0, _, SqL.of g, _, rfl, ⟨m0, by omega⟩, p, _, _, _, rfl, rfl, g, rfl, ?_⟩
      exact q _ _ (Int.emod_nonneg _ (by omega)) (Int.emod_lt_of_pos _ m0) ⟨_, _, upd_same, Int.ediv_nonneg i0 (by omega), j0, j1⟩ fun c o e n => by rw [upd_ne n]; exact e
    · dsimp only [tNext]
      refine ⟨⟨by decide, by decide, by decide⟩, ?_⟩
      refine ⟨_, rfl, by split <;> decide, by split <;> decide, ?_⟩
      refine for_seq (seq_range 0 _) (fun _ σ H' => ∃ (f : Int) (o3 o4 : Option V), σ = [some (.ref p), some (.int m), some (.int f), o3, o4] ∧ 0 ≤ f ∧ PenAt H' p ∧ K1 p H H') (fun _ _ _ _ => trivial) ⟨0, _, _, rfl, by decide, ⟨i, j, g, i0, j0, j1⟩, fun c o e _ => e⟩ ?_ ?_
      · rintro _ v σ H' hv ⟨f, o3, o4, rfl, f0, ⟨i', j', g', i0', j0', j1'⟩, k'⟩
        dsimp only [gName]
        refine ⟨_, SqL.of g', _, rfl, _, SqL.of g', _, rfl, .inl ⟨by omega, by omega⟩, _, SqL.of g', _, rfl, .inl ⟨by decide, by decide⟩, by show (0 : Int) < _; decide, p, _, _, _, rfl, rfl, g', rfl, ?_⟩
        have h0 := Int.emod_nonneg (j' * j' + 48271 * j' + 11) (show (2147483629 : Int) ≠ 0 by decide)
        have h1 := Int.emod_lt_of_pos (j' * j' + 48271 * j' + 11) (show (0 : Int) < 2147483629 by decide)
        refine ⟨_, SqL.of upd_same, _, rfl, .inr ⟨by decide, by decide⟩, by show (0 : Int) < _; decide, ?_⟩
        dsimp only [gName]
        generalize hx : ((j' * j' + 48271 * j' + 11) % 2147483629 * 40692 + 5) % 2147483399 = x
        have x0 : 0 ≤ x := by rw [← hx]; exact Int.emod_nonneg _ (by decide)
        have x1 : x < 2147483399 := by rw [← hx]; exact Int.emod_lt_of_pos _ (by decide)
        refine ⟨.inr ⟨by decide, by decide⟩, .inl ⟨by omega, by omega⟩, by show (0 : Int) < _; decide, _, _, _, rfl, ?_, ⟨_, _, upd_same, i0', h0, h1⟩, fun c o e n => by rw [upd_ne n]; exact k' c o e n⟩
        have := Int.emod_nonneg (x * x) (show (998244353 : Int) ≠ 0 by decide)
        omega
      · rintro σ H' ⟨f, o3, o4, rfl, f0, pn, k'⟩
        exact ⟨⟨by decide, by decide⟩, m0, q _ _ (Int.emod_nonneg _ (by omega)) (Int.emod_lt_of_pos _ m0) pn k'⟩
theorem ok_cell (T : Txt K mg) (D : DefAt K mg "_law_cell_at" s_law_cell_at ["_law_script", "_law_k"]) : Callee P w K mg base 1 "_law_cell_at" ["_law_script", "_law_k"] (spCell K) := by
  refine D.go sc_law_cell_at (fun vs H Q E h => ?_) (fun f cdv A outer s H vs Q E hr h => ?_)
  · obtain ⟨a, ns, k, rfl, _⟩ := h; rfl
  · obtain ⟨a, ns, k, rfl, hS, q⟩ := h
    refine ⟨_, (R.scons (R.ife (R.tcmp R.lt (R.v 1) (R.callB (R.klenL (K := K)) rfl T.b_len bb_len (R.cons (R.v 0) R.nil)))
      (R.sone (R.ret (R.ix (R.kiL (K := K)) (R.v 0) (R.v 1))))
      R.snil)
      (R.sone (R.ret R.int))), ?_⟩
    refine ⟨_, .inl hS, ?_⟩
    refine if_b (fun h => ?_) (fun h => q 0)
    have hk : k < ns.length := by
      have := of_decide_eq_true h
      rw [List.length_map] at this
      omega
    exact ⟨_, hS, _, atI_nat (by rw [List.getElem?_map, List.getElem?_eq_getElem hk]; rfl), q _⟩
theorem ok_number20 (T : Txt K mg) (c__law_take : Callee P w K mg base 1 "_law_take" ["_law_pen_here", "_law_most"] spTake) (D : DefAt K mg "_law_number" s_law_number ["_law_pen_here", "_law_least", "_law_most"]) : Callee P w K mg base 2 "_law_number" ["_law_pen_here", "_law_least", "_law_most"] spNumber20 := by
  refine D.go sc_law_number (fun vs H Q E h => ?_) (fun f cdv A outer s H vs Q E hr h => ?_)
  · obtain ⟨p, lo, hi, rfl, _⟩ := h; rfl
  · obtain ⟨p, lo, hi, rfl, pn, hlh, hd, q⟩ := h
    have hr__law_take := hr
    refine ⟨_, (R.scons (R.set (i := 3) sc_law_number.nd (R.fn c__law_take hr__law_take rfl (R.cons (R.v 0) (R.cons R.int R.nil))))
      (R.scons (R.ife (R.tcmp R.lt (R.v 3) R.int)
      (R.sone (R.ret (R.ix (R.kiL (K := K)) (R.lst (R.cons (R.v 1) (R.cons (R.v 2) R.nil))) (R.v 3))))
      R.snil)
      (R.scons (R.ife (R.tcmp R.eq (R.v 3) R.int)
      (R.sone (R.ret (R.callB (R.min rfl) rfl T.b_min bb_min (R.cons (R.v 2) (R.cons (R.op R.add (R.v 1) (R.fn c__law_take hr__law_take rfl (R.cons (R.v 0) (R.cons R.int R.nil)))) R.nil)))))
      R.snil)
      (R.scons (R.ife (R.tcmp R.eq (R.v 3) R.int)
      (R.sone (R.ret (R.callB (R.max rfl) rfl T.b_max bb_max (R.cons (R.v 1) (R.cons (R.op R.sub (R.v 2) (R.fn c__law_take hr__law_take rfl (R.cons (R.v 0) (R.cons R.int R.nil)))) R.nil)))))
      R.snil)
      (R.sone (R.ret (R.op R.add (R.v 1) (R.fn c__law_take hr__law_take rfl (R.cons (R.v 0) (R.cons (R.op R.add (R.op R.sub (R.v 2) (R.v 1)) R.int) R.nil)))))))))), ?_⟩
    refine ⟨p, 5, rfl, pn, by decide, by decide, fun r H1 a0 a1 p1 k1 => ?_⟩
    dsimp only [gName]
    rcases (by omega : r = 0 ∨ r = 1 ∨ r = 2 ∨ r = 3 ∨ r = 4) with rfl | rfl | rfl | rfl | rfl
    · refine ⟨szl rfl, fun l hl => ⟨_, SqL.of upd_same, _, rfl, q _ _ (Int.le_refl _) hlh (p1.same (same_upd hl)) (k1.trans (.of (same_upd hl)))⟩⟩
    · refine ⟨szl rfl, fun l hl => ⟨_, SqL.of upd_same, _, rfl, q _ _ hlh (Int.le_refl _) (p1.same (same_upd hl)) (k1.trans (.of (same_upd hl)))⟩⟩
    · refine ⟨p, 9, rfl, p1, by decide, by decide, fun r2 H2 b0 b1 p2 k2 => q _ _ ?_ ?_ p2 (k1.trans k2)⟩ <;> split <;> omega
    · refine ⟨p, 9, rfl, p1, by decide, by decide, fun r2 H2 b0 b1 p2 k2 => q _ _ ?_ ?_ p2 (k1.trans k2)⟩ <;> split <;> omega
    · exact ⟨p, _, rfl, p1, by omega, by omega, fun r2 H2 b0 b1 p2 k2 => q _ _ (by omega) (by omega) p2 (k1.trans k2)⟩
theorem ok_names20 (T : Txt K mg) (c__law_take : Callee P w K mg base 1 "_law_take" ["_law_pen_here", "_law_most"] spTake) (D : DefAt K mg "_law_names" s_law_names ["_law_pen_here", "_law_many"]) : Callee P w K mg base 2 "_law_names" ["_law_pen_here", "_law_many"] spNames20 := by
  refine D.go sc_law_names (fun vs H Q E h => ?_) (fun f cdv A outer s H vs Q E hr h => ?_)
  · obtain ⟨p, m, rfl, _⟩ := h; rfl
  · obtain ⟨p, m, rfl, pn, hm, q⟩ := h
    have hr__law_take := hr
    refine ⟨_, (R.scons (R.set (i := 2) sc_law_names.nd R.str)
      (R.scons (R.ife (R.tcmp R.eq (R.fn c__law_take hr__law_take rfl (R.cons (R.v 0) (R.cons R.int R.nil))) R.int)
      (R.sone (R.ret (R.sl (R.ksL (K := K)) (R.lst (R.cons R.str (R.cons R.str (R.cons R.str (R.cons R.str (R.cons R.str (R.cons R.str R.nil))))))) R.pn (R.ps (R.v 1)))))
      R.snil)
      (R.scons (R.set (i := 3) sc_law_names.nd (R.op R.add R.int (R.fn c__law_take hr__law_take rfl (R.cons (R.v 0) (R.cons R.int R.nil)))))
      (R.scons (R.set (i := 4) sc_law_names.nd (R.fn c__law_take hr__law_take rfl (R.cons (R.v 0) (R.cons (R.v 3) R.nil))))
      (R.scons (R.set (i := 5) sc_law_names.nd (R.ix (R.kiL (K := K)) (R.lst (R.cons R.int (R.cons R.int (R.cons R.int (R.cons R.int (R.cons R.int (R.cons R.int R.nil))))))) (R.fn c__law_take hr__law_take rfl (R.cons (R.v 0) (R.cons R.int R.nil)))))
      (R.scons (R.scomp (i := 6) sc_law_names.nd rfl (Or.inl rfl) rfl (js := [none, some 0]) (N := ["_law_j", "_law_pen_here"]) (CompScope.by (defScope s_law_names) ["_law_pen_here", "_law_many", "_law_letters", "_law_size", "_law_at", "_law_step", "_law_base", "_law_names_here", "_law_k", "_law_long", "_law_signs"] rfl rfl (by decide +kernel)) (gown_name rfl) (R.range1 rfl T.b_range (R.cons (R.v 3) R.nil)) (fun C s₂ H₂ fp => ⟨(R.gn (i := 0) (show (["_law_j", "_law_pen_here"] : List Str).Nodup by decide +kernel)), R.ts0, (R.fn c__law_take hr__law_take rfl (R.cons (R.v 1) (R.cons R.int R.nil)))⟩) rfl)
      (R.scons (R.set (i := 7) sc_law_names.nd (R.lst R.nil))
      (R.scons (R.for_ PassesOwn.never rfl (R.range1 rfl T.b_range (R.cons (R.v 1) R.nil)) (R.gn (i := 8) sc_law_names.nd)
      (R.scons (R.set (i := 9) sc_law_names.nd (R.op R.add (R.op R.add (R.v 4) R.int) (R.fn c__law_take hr__law_take rfl (R.cons (R.v 0) (R.cons (R.op R.sub (R.v 3) (R.v 4)) R.nil)))))
      (R.scons (R.set (i := 10) sc_law_names.nd (R.sl (R.ksL (K := K)) (R.v 6) R.pn (R.ps (R.v 9))))
      (R.scons (R.asg (R.op R.mod (R.op R.add (R.ix (R.kiL (K := K)) (R.v 6) (R.v 4)) (R.op R.mul (R.v 5) (R.v 8))) R.int) (R.gsub (R.v 10) (R.v 4) R.setL))
      (R.sone (R.expr (R.kbm (K := K) PySem.F.plainAttrs_list PySem.F.slot_list_append PySem.F.type_list_append R.append (R.v 7) (R.cons (R.kbm (K := K) PySem.F.plainAttrs_str PySem.F.slot_str_join PySem.F.type_str_join (R.kjoin (K := K)) R.str (R.cons (R.comp rfl (js := [none, some 2]) (N := ["_law_sign", "_law_letters"]) (CompScope.by (defScope s_law_names) ["_law_pen_here", "_law_many", "_law_letters", "_law_size", "_law_at", "_law_step", "_law_base", "_law_names_here", "_law_k", "_law_long", "_law_signs"] rfl rfl (by decide +kernel)) (gown_name rfl) (R.kwL (K := K) (R.v 10)) (fun C s₂ H₂ fp => ⟨(R.gn (i := 0) (show (["_law_sign", "_law_letters"] : List Str).Nodup by decide +kernel)), R.ts0, (R.ix R.iS (R.v 1) (R.v 0))⟩)) R.nil)) R.nil))))))))
      (R.sone (R.ret (R.v 7))))))))))), ?_⟩
    refine ⟨p, 5, rfl, pn, by decide, by decide, fun r0 H1 a0 a1 p1 k1 => ?_⟩
    refine if_b (fun _ => ?_) (fun _ => ?_)
    · refine ⟨szl rfl, fun l hl => ⟨_, SqL.of upd_same, fun l2 hl2 => ?_⟩⟩
      rw [show ([V.str "add", .str "take", .str "move", .str "send", .str "is", .str "no"] : List V) = (["add", "take", "move", "send", "is", "no"] : List Str).map V.str from rfl, cut_to, ← List.map_take]
      have p2 := p1.same (same_upd (o := .lst ((["add", "take", "move", "send", "is", "no"] : List Str).map V.str)) hl)
      have k2 : K1 p H _ := k1.trans (.of (same_upd (o := .lst ((["add", "take", "move", "send", "is", "no"] : List Str).map V.str)) hl))
      refine q l2 ((["add", "take", "move", "send", "is", "no"] : List Str).take m) _ ?_ ?_ ?_ (k2.free p2 hl2) upd_same (p2.same (same_upd hl2)) (k2.trans (.of (same_upd hl2)))
      · rw [List.length_take]; show min m 6 = m; omega
      · intro z hz
        have : ∀ z ∈ (["add", "take", "move", "send", "is", "no"] : List Str), isNm z := by
          intro z hz
          simp only [List.mem_cons, List.not_mem_nil, or_false] at hz
          rcases hz with rfl | rfl | rfl | rfl | rfl | rfl <;> exact ⟨by decide +kernel, by decide +kernel, by decide +kernel⟩
        exact this z (List.mem_of_mem_take hz)
      · exact (show (["add", "take", "move", "send", "is", "no"] : List Str).Nodup by decide +kernel).sublist (List.take_sublist _ _)
    dsimp only [tNext]
    refine ⟨p, 8, rfl, p1, by decide, by decide, fun r1 H2 b0 b1 p2 k2 => ?_⟩
    dsimp only [gName]
    refine ⟨p, _, rfl, p2, by omega, by omega, fun a' H3 c0 c1 p3 k3 => ?_⟩
    dsimp only [gName]
    obtain ⟨a, rfl⟩ := Int.eq_ofNat_of_zero_le c0
    refine ⟨szl rfl, fun ls hls => ⟨p, 6, rfl, p3.same (same_upd hls), by decide, by decide, fun r2 H4 d0 d1 p4 k4 => ⟨_, SqL.of (k4 _ _ upd_same (p3.ne hls)), ?_⟩⟩⟩
    have hst : ∃ s : Int, atI ([V.int 1, .int 3, .int 5, .int 7, .int 9, .int 11] : List V) r2 = some (.int s) ∧ stepOk s := by
      rcases six d0 d1 with rfl | rfl | rfl | rfl | rfl | rfl
      · exact ⟨_, rfl, .inl rfl⟩
      · exact ⟨_, rfl, .inr (.inl rfl)⟩
      · exact ⟨_, rfl, .inr (.inr (.inl rfl))⟩
      · exact ⟨_, rfl, .inr (.inr (.inr (.inl rfl)))⟩
      · exact ⟨_, rfl, .inr (.inr (.inr (.inr (.inl rfl))))⟩
      · exact ⟨_, rfl, .inr (.inr (.inr (.inr (.inr rfl))))⟩
    obtain ⟨st, hst, hok⟩ := hst
    refine ⟨_, hst, ?_⟩
    dsimp only [gName]
    have k14 : K1 p H H4 := ((k1.trans k2).trans (k3.trans (.of (same_upd hls)))).trans k4
    refine ⟨1 + r1, rfl, by omega, by omega, ?_⟩
    refine comp_seq (seq_range 0 (1 + r1).toNat) (by simp [rangeV]; omega) (fun i ys H' => ∃ bs : List Int, ys = bs.map V.int ∧ bs.length = i ∧ (∀ x ∈ bs, 0 ≤ x ∧ x < 26) ∧ PenAt H' p ∧ K1 p H H') (fun i ys H' ⟨bs, e, e2, _⟩ => ⟨trivial, by rw [e, List.length_map, e2]; exact Nat.le_refl _⟩) ⟨[], rfl, rfl, (fun _ h => nomatch h), p4, k14⟩ (fun i x ys H' hx ⟨bs, e, e2, e3, pi, ki⟩ => ?_) (fun ys H' ⟨bs, e, e2, e3, pi, ki⟩ => ?_)
    · refine ⟨p, 26, rfl, pi, by decide, by decide, fun r H'' f0 f1 pj kj => ⟨bs ++ [r], by rw [e, List.map_append]; rfl, by rw [List.length_append, e2]; rfl, fun x hx => ?_, pj, ki.trans kj⟩⟩
      rcases List.mem_append.mp hx with h | h
      · exact e3 x h
      · rw [List.mem_singleton.mp h]; exact ⟨f0, f1⟩
    intro lb hlb
    subst e
    have hbl : bs.length = (1 + r1).toNat := by rw [e2]; simp [rangeV]
    have ha : a < bs.length := by omega
    have gb : (upd H' lb (.lst (bs.map V.int))) lb = some (.lst (bs.map V.int)) := upd_same
    have p5 := pi.same (same_upd (o := .lst (bs.map V.int)) hlb)
    have k5 : K1 p H (upd H' lb (.lst (bs.map V.int))) := ki.trans (.of (same_upd hlb))
    generalize upd H' lb (.lst (bs.map V.int)) = H5 at gb p5 k5 ⊢
    refine ⟨szl rfl, fun l hl => ?_⟩
    dsimp only [gName]
    have nlb : lb ≠ l := ne_of_none gb hl
    have npb : lb ≠ p := pi.ne hlb
    have npl : l ≠ p := p5.ne hl
    have hl0 : H l = none := k5.free p5 hl
    refine ⟨m, rfl, by omega, by omega, ?_⟩
    refine for_seq (seq_range 0 (m : Int).toNat) (fun i σ H' => ∃ (zs : List Str) (o8 o9 o10 : Option V), σ = [some (.ref p), some (.int m), some (.str "abcdefghijklmnopqrstuvwxyz"), some (.int (1 + r1)), some (.int a), some (.int st), some (.ref lb), some (.ref l), o8, o9, o10] ∧ zs.length = i ∧ (∀ z ∈ zs, isNm z) ∧ (∀ (j : Nat) (z : Str), zs[j]? = some z → z.cps.toList[a]? = some (sgn LET ((bs[a] + st * (j : Int)) % 26))) ∧ H' l = some (.lst (zs.map V.str)) ∧ H' lb = some (.lst (bs.map V.int)) ∧ PenAt H' p ∧ K1 p H H')
      (fun _ _ _ _ => trivial) ⟨[], _, _, _, rfl, rfl, (fun _ h => nomatch h), (fun _ _ h => by cases h), upd_same, same_upd hl _ _ gb, p5.same (same_upd hl), k5.trans (.of (same_upd hl))⟩ ?_ ?_
    · rintro i x σ G1 hx ⟨zs, o8, o9, o10, rfl, hzl, hnm, hat, gl, glb, q1, j1⟩
      have hi : i < m := by
        have := (List.getElem?_eq_some_iff.mp hx).1
        simp [rangeV] at this
        omega
      have ex : x = .int (i : Int) := by
        unfold rangeV at hx
        rw [List.getElem?_map, List.getElem?_range (by omega)] at hx
        have := Option.some.inj hx
        rw [← this]
        show V.int (0 + (i : Int)) = _
        rw [Int.zero_add]
      subst ex
      dsimp only [gName]
      refine ⟨p, _, rfl, q1, by omega, by omega, fun t' G2 t0 t1 q2 j2 => ?_⟩
      dsimp only [gName]
      obtain ⟨t, rfl⟩ := Int.eq_ofNat_of_zero_le t0
      have glb2 := j2 _ _ glb npb
      have gl2 := j2 _ _ gl npl
      refine ⟨_, SqL.of glb2, fun lg hlg => ?_⟩
      have ec : cut (bs.map V.int) none (some ((a : Int) + 1 + t)) = (bs.take (a + 1 + t)).map V.int := by
        rw [show ((a : Int) + 1 + t) = ((a + 1 + t : Nat) : Int) by omega, cut_to, List.map_take]
      rw [ec]
      dsimp only [gName]
      have htl : (bs.take (a + 1 + t)).length = a + 1 + t := by rw [List.length_take]; omega
      refine ⟨_, SqL.of (same_upd hlg _ _ glb2), .int bs[a], atI_nat (by rw [List.getElem?_map, List.getElem?_eq_getElem ha]; rfl), .inl (by rcases hok with rfl | rfl | rfl | rfl | rfl | rfl <;> exact ⟨by decide, by decide⟩), by show (0 : Int) < _; decide, lg, _, _, a, rfl, rfl, upd_same, ?_, ?_⟩
      · unfold ixN
        rw [List.length_map, htl, if_pos (by omega), if_pos (by omega)]
        rfl
      dsimp only
      generalize hv : (bs[a] + st * (i : Int)) % 26 = v
      have v0 : 0 ≤ v := by rw [← hv]; exact Int.emod_nonneg _ (by decide)
      have v1 : v < 26 := by rw [← hv]; exact Int.emod_lt_of_pos _ (by decide)
      rw [show ((bs.take (a + 1 + t)).map V.int).set a (V.int v) = ((bs.take (a + 1 + t)).set a v).map V.int by rw [List.map_set]]
      generalize hss : (bs.take (a + 1 + t)).set a v = ss
      have hsl : ss.length = a + 1 + t := by rw [← hss, List.length_set, htl]
      have hsb : ∀ x ∈ ss, 0 ≤ x ∧ x < 26 := fun x hx => by
        rw [← hss] at hx
        rcases List.mem_or_eq_of_mem_set hx with h | h
        · exact e3 x (List.mem_of_mem_take h)
        · rw [h]; exact ⟨v0, v1⟩
      have hsa : ss[a]? = some v := by rw [← hss, List.getElem?_set_self (by omega)]
      have sg : Same G2 (upd (upd G2 lg (.lst ((bs.take (a + 1 + t)).map V.int))) lg (.lst (ss.map V.int))) := fun c o e => by
        rw [upd_ne (ne_of_none e hlg), upd_ne (ne_of_none e hlg)]; exact e
      have gg : (upd (upd G2 lg (.lst ((bs.take (a + 1 + t)).map V.int))) lg (.lst (ss.map V.int))) lg = some (.lst (ss.map V.int)) := upd_same
      generalize upd (upd G2 lg (.lst ((bs.take (a + 1 + t)).map V.int))) lg (.lst (ss.map V.int)) = G3 at sg gg ⊢
      have el : (("abcdefghijklmnopqrstuvwxyz" : Str).cps.toList) = LET := let_eq
      refine ⟨.inl ⟨rfl, _, SqL.of (sg _ _ gl2)⟩, rfl, lg, rfl, ⟨_, SqL.of gg⟩, ?_⟩
      refine comp_pure (seq_list K lg (ss.map V.int)) (by rw [List.length_map]; omega) (fun _ => true) (fun v => match v with | .int i => .str (tx [sgn LET i]) | _ => v) (SqL.of gg) (fun y ys N hy ht hf => ?_) ?_
      · obtain ⟨i', hi', rfl⟩ := List.mem_map.mp hy
        have hb := hsb i' hi'
        exact ⟨by decide +kernel, _, (by rw [el]; exact (sgn_at (cs := LET) hb.1 (show i' < 26 from hb.2)).1), ht rfl⟩
      intro l3 h3
      have ef : ((ss.map V.int).filter (fun _ => true)).map (fun v => match v with | .int i => .str (tx [sgn LET i]) | _ => v) = ((ss.map (sgn LET)).map (fun c => tx [c])).map V.str := by
        rw [List.filter_eq_self.mpr (fun _ _ => rfl), List.map_map, List.map_map, List.map_map]
        rfl
      rw [ef]
      have hz : isNm (tx (ss.map (sgn LET))) := ⟨by rw [tx_len, List.length_map]; omega, by rw [tx_len, List.length_map]; omega, fun c hc => by
        rw [cps_tx] at hc
        obtain ⟨i', hi', rfl⟩ := List.mem_map.mp hc
        have hb := hsb i' hi'
        exact (sgn_at (cs := LET) hb.1 (show i' < 26 from hb.2)).2⟩
      have hza : (tx (ss.map (sgn LET))).cps.toList[a]? = some (sgn LET ((bs[a] + st * (i : Int)) % 26)) := by
        rw [cps_tx, List.getElem?_map, hsa, hv]; rfl
      refine ⟨_, l3, (ss.map (sgn LET)).map (fun c => tx [c]), rfl, rfl, SqL.of upd_same, ?_, ?_⟩
      · rw [sum_ones, List.length_map, List.length_map, emp_eq, tx_len]; simp; omega
      rw [emp_eq, join_signs]
      have gl3 := same_upd (o := .lst (((ss.map (sgn LET)).map (fun c => tx [c])).map V.str)) h3 _ _ (sg _ _ gl2)
      refine ⟨l, _, _, rfl, rfl, gl3, Nat.lt_of_le_of_lt (m := 60) (by rw [List.length_map]; omega) (by decide), ?_⟩
      have sz : K1 p G2 (upd G3 l3 (.lst (((ss.map (sgn LET)).map (fun c => tx [c])).map V.str))) := .of (sg.trans (same_upd h3))
      refine ⟨zs ++ [tx (ss.map (sgn LET))], _, _, _, rfl, by rw [List.length_append, hzl]; rfl, fun y hy => ?_, fun j z hj => ?_, by rw [upd_same, List.map_append]; rfl, ?_, ?_, fun c o e n => ?_⟩
      · rcases List.mem_append.mp hy with h | h
        · exact hnm y h
        · rw [List.mem_singleton.mp h]; exact hz
      · by_cases hji : j < zs.length
        · rw [List.getElem?_append_left hji] at hj
          exact hat j z hj
        · have hj' := (List.getElem?_eq_some_iff.mp hj).1
          rw [List.length_append] at hj'
          have : j = zs.length := by simp at hj'; omega
          subst this
          rw [List.getElem?_append_right (Nat.le_refl _), Nat.sub_self] at hj
          cases hj
          rw [hzl]
          exact hza
      · rw [upd_ne nlb]
        exact sz _ _ glb2 npb
      · obtain ⟨i', j', g', r'⟩ := q2
        exact ⟨i', j', by rw [upd_ne npl.symm]; exact (sg.trans (same_upd h3)) _ _ g', r'⟩
      · rw [upd_ne (ne_of_none e hl0)]
        exact (j1.trans (j2.trans sz)) c o e n
    · rintro σ G1 ⟨zs, o8, o9, o10, rfl, hzl, hnm, hat, gl, glb, q1, j1⟩
      have hzm : zs.length = m := by rw [hzl]; simp [rangeV]
      exact q l zs G1 hzm hnm (nd_at a (fun j => sgn LET ((bs[a] + st * (j : Int)) % 26)) hat fun j j' h h' => let_inj hok h (by omega)) hl0 gl q1 j1
theorem Callee.no {x : Str} {st : Stmt} {N ps : List Str} {k : Nat} (D : DefAt K mg x st ps) (S : FnScope N ps (defScope st)) : Callee P w K mg base (k + 1) x ps (fun _ _ _ _ => False) :=
  D.go S (fun _ _ _ _ h => h.elim) (fun _ _ _ _ _ _ _ _ _ _ h => h.elim)
theorem ok_same_step (T : Txt K mg) (D : DefAt K mg "_law_same" s_law_same ["_law_found", "_law_due"]) {k : Nat} {sp : Sp} (c__law_same : Callee P w K mg base (k + 1) "_law_same" ["_law_found", "_law_due"] sp) (n : Nat)
    (hsp : ∀ m t, n = m + 1 → okT m t → ∀ x y H Q E, Rep H m t x → Rep H m t y → (∀ H', Same H H' → Q (.bl true) H') → sp [x, y] H Q E) : Callee P w K mg base (k + 2) "_law_same" ["_law_found", "_law_due"] (spSame n) := by
  refine D.go sc_law_same (fun vs H Q E h => ?_) (fun f cdv A outer s H vs Q E hr h => ?_)
  · obtain ⟨x, y, t, rfl, _⟩ := h; rfl
  · obtain ⟨x, y, t, rfl, hx, hy, hok, q⟩ := h
    have hr__law_same := hr
    refine ⟨_, (R.scons (R.ife (R.val (R.callB R.isLT rfl T.b_isinstance bb_isinstance (R.cons (R.v 1) (R.cons (R.wtup (R.cons (R.bty rfl T.b_list bb_list) (R.cons (R.bty rfl T.b_tuple bb_tuple) R.nil))) R.nil))))
      (R.scons (R.ife (R.tw (R.wor (R.tcmp R.ne (R.isi .lst (R.v 0) rfl T.b_isinstance rfl T.b_list bb_list) (R.isi .lst (R.v 1) rfl T.b_isinstance rfl T.b_list bb_list)) (R.wor1 (R.tcmp R.ne (R.isi .tup (R.v 0) rfl T.b_isinstance rfl T.b_tuple bb_tuple) (R.isi .tup (R.v 1) rfl T.b_isinstance rfl T.b_tuple bb_tuple)))))
      (R.sone (R.ret R.bl))
      R.snil)
      (R.sone (R.ret (R.and (R.cmp R.eq (R.callB (R.klenL (K := K)) rfl T.b_len bb_len (R.cons (R.v 0) R.nil)) (R.callB (R.klenL (K := K)) rfl T.b_len bb_len (R.cons (R.v 1) R.nil))) (R.one (R.callB (R.kall (K := K) rfl) rfl T.b_all bb_all (R.cons (R.comp rfl (js := [none, none]) (N := ["_law_one", "_law_other"]) (CompScope.by (defScope s_law_same) ["_law_found", "_law_due"] rfl rfl (by decide +kernel)) (gown_tup (gowns_cons rfl (gowns_cons rfl gowns_nil))) (R.zip (K := K) rfl T.b_zip (R.v 0) (R.v 1)) (fun C s₂ H₂ fp => ⟨(R.kgt (K := K) (n := 2) rfl (R.gsc (R.gn (i := 0) (show (["_law_one", "_law_other"] : List Str).Nodup by decide +kernel)) (R.gsc (R.gn (i := 1) (show (["_law_one", "_law_other"] : List Str).Nodup by decide +kernel)) R.gsn))), R.ts0, (R.fn c__law_same hr__law_same rfl (R.cons (R.v 0) (R.cons (R.v 1) R.nil)))⟩)) R.nil)))))))
      R.snil)
      (R.scons (R.ife (R.tcmp R.isN (R.v 1) R.non)
      (R.sone (R.ret (R.cmp R.isN (R.v 0) R.non)))
      R.snil)
      (R.scons (R.ife (R.val (R.isi .str (R.v 1) rfl T.b_isinstance rfl T.b_str bb_str))
      (R.sone (R.ret (R.and (R.isi .str (R.v 0) rfl T.b_isinstance rfl T.b_str bb_str) (R.one (R.cmp R.eq (R.v 0) (R.v 1))))))
      R.snil)
      (R.sone (R.ret (R.and (R.isi .int (R.v 0) rfl T.b_isinstance rfl T.b_int bb_int) (R.and (R.not (R.isi .bl (R.v 0) rfl T.b_isinstance rfl T.b_bool bb_bool)) (R.one (R.cmp R.eq (R.v 0) (R.v 1)))))))))), ?_⟩
    refine ⟨by simp, fun p1 H1 s1 g1 => ⟨g1, ?_⟩⟩
    cases t with
    | sc v =>
      have ex : x = v ∧ isSc v = true := by cases n <;> exact hx
      have ey : y = v ∧ isSc v = true := by cases n <;> exact hy
      obtain ⟨rfl, hv⟩ := ex
      obtain ⟨rfl, _⟩ := ey
      cases y with
      | non => exact ⟨.non, trivial, q _ s1⟩
      | str z =>
        refine ⟨.str, trivial, .str, trivial, .str, trivial, ?_⟩
        show Q (.bl (decide (z = z))) H1
        rw [decide_eq_true rfl]
        exact q _ s1
      | int z =>
        refine ⟨.int, trivial, .int, trivial, .int, trivial, .int, trivial, ?_⟩
        show Q (.bl (decide (z = z))) H1
        rw [decide_eq_true rfl]
        exact q _ s1
      | bl z => cases n <;> exact hok.elim
      | _ => cases hv
    | tp ts =>
      cases n with
      | zero => exact hx.elim
      | succ n =>
        obtain ⟨a, xs, rfl, ga, hP⟩ := hx
        obtain ⟨b, ys, rfl, gb, hR⟩ := hy
        obtain ⟨hl, hts⟩ := hok
        have lx := hP.length
        have ly := hR.length
        have ga1 := s1 _ _ ga
        have gb1 := s1 _ _ gb
        refine ⟨.tup, ⟨_, gb1⟩, .tup, ⟨_, ga1⟩, .tup, ⟨_, gb1⟩, .tup, ⟨_, ga1⟩, .tup, ⟨_, gb1⟩, ?_⟩
        refine ⟨xs, .inr (SqT.of ga1), ys, .inr (SqT.of gb1), ?_⟩
        show if decide ((xs.length : Int) = (ys.length : Int)) = true then _ else _
        refine if_b (fun _ => ?_) (fun h => absurd (show (xs.length : Int) = (ys.length : Int) by omega) (of_decide_eq_false h))
        refine ⟨false, false, xs, ys, SqT.of ga1, SqT.of gb1, ?_⟩
        refine comp_zip (by omega) (fun i zs H' => zs = (List.replicate i true).map V.bl ∧ Same H1 H') (fun i zs H' ⟨e, s'⟩ => ⟨SqT.of (s' _ _ ga1), SqT.of (s' _ _ gb1), by rw [e, List.length_map, List.length_replicate]; exact Nat.le_refl _⟩) ⟨rfl, Same.refl _⟩ (fun i u v zs H' t' hu hv ⟨e, s'⟩ ht' => ?_) (fun zs H' ⟨e, s'⟩ => ?_)
        · have s2 := s'.trans (same_upd (o := .tup [u, v]) ht')
          have hiu : i < xs.length := (List.getElem?_eq_some_iff.mp hu).1
          have hiv : i < ys.length := (List.getElem?_eq_some_iff.mp hv).1
          obtain ⟨h1, r1⟩ := Paired.get' (j := i) hP hiu
          obtain ⟨h2, r2⟩ := Paired.get' (j := i) hR hiv
          rw [(List.getElem?_eq_some_iff.mp hu).2] at r1
          rw [(List.getElem?_eq_some_iff.mp hv).2] at r2
          refine ⟨t', _, rfl, SqT.of upd_same, rfl, _, _, rfl, _, _, rfl, rfl, hsp n ts[i] rfl (hts _ (List.getElem_mem h1)) u v _ _ _ ((r1.same s1).same s2) ((r2.same s1).same s2) fun H'' s'' => ⟨?_, s2.trans s''⟩⟩
          rw [e, List.replicate_succ', List.map_append]
          rfl
        · intro l hl'
          refine ⟨l, _, rfl, SqL.of (by rw [upd_same, e]), ?_⟩
          rw [show (List.replicate (min xs.length ys.length) true).all id = true by simp]
          exact q _ ((s1.trans s').trans (same_upd hl'))
    | ls ts =>
      cases n with
      | zero => exact hx.elim
      | succ n =>
        obtain ⟨a, xs, rfl, ga, hP⟩ := hx
        obtain ⟨b, ys, rfl, gb, hR⟩ := hy
        obtain ⟨hl, hts⟩ := hok
        have lx := hP.length
        have ly := hR.length
        have ga1 := s1 _ _ ga
        have gb1 := s1 _ _ gb
        refine ⟨.lst, .inl ⟨_, gb1⟩, .lst, .inl ⟨_, ga1⟩, .lst, .inl ⟨_, gb1⟩, .lst, .inl ⟨_, ga1⟩, .lst, .inl ⟨_, gb1⟩, ?_⟩
        refine ⟨xs, .inl (SqL.of ga1), ys, .inl (SqL.of gb1), ?_⟩
        show if decide ((xs.length : Int) = (ys.length : Int)) = true then _ else _
        refine if_b (fun _ => ?_) (fun h => absurd (show (xs.length : Int) = (ys.length : Int) by omega) (of_decide_eq_false h))
        refine ⟨true, true, xs, ys, SqL.of ga1, SqL.of gb1, ?_⟩
        refine comp_zip (by omega) (fun i zs H' => zs = (List.replicate i true).map V.bl ∧ Same H1 H') (fun i zs H' ⟨e, s'⟩ => ⟨SqL.of (s' _ _ ga1), SqL.of (s' _ _ gb1), by rw [e, List.length_map, List.length_replicate]; exact Nat.le_refl _⟩) ⟨rfl, Same.refl _⟩ (fun i u v zs H' t' hu hv ⟨e, s'⟩ ht' => ?_) (fun zs H' ⟨e, s'⟩ => ?_)
        · have s2 := s'.trans (same_upd (o := .tup [u, v]) ht')
          have hiu : i < xs.length := (List.getElem?_eq_some_iff.mp hu).1
          have hiv : i < ys.length := (List.getElem?_eq_some_iff.mp hv).1
          obtain ⟨h1, r1⟩ := Paired.get' (j := i) hP hiu
          obtain ⟨h2, r2⟩ := Paired.get' (j := i) hR hiv
          rw [(List.getElem?_eq_some_iff.mp hu).2] at r1
          rw [(List.getElem?_eq_some_iff.mp hv).2] at r2
          refine ⟨t', _, rfl, SqT.of upd_same, rfl, _, _, rfl, _, _, rfl, rfl, hsp n ts[i] rfl (hts _ (List.getElem_mem h1)) u v _ _ _ ((r1.same s1).same s2) ((r2.same s1).same s2) fun H'' s'' => ⟨?_, s2.trans s''⟩⟩
          rw [e, List.replicate_succ', List.map_append]
          rfl
        · intro l hl'
          refine ⟨l, _, rfl, SqL.of (by rw [upd_same, e]), ?_⟩
          rw [show (List.replicate (min xs.length ys.length) true).all id = true by simp]
          exact q _ ((s1.trans s').trans (same_upd hl'))
theorem ok_same (T : Txt K mg) (D : DefAt K mg "_law_same" s_law_same ["_law_found", "_law_due"]) : ∀ n, Callee P w K mg base (n + 2) "_law_same" ["_law_found", "_law_due"] (spSame n)
  | 0 => ok_same_step T D (Callee.no D sc_law_same (k := 0)) 0 (fun _ _ e => nomatch e)
  | n + 1 => ok_same_step T D (ok_same T D n) (n + 1) (fun m t e hf x y H Q E r r' k => by
      injection e with e
      subst e
      exact ⟨x, y, t, rfl, r, r', hf, k⟩)
theorem ok_keys20 (T : Txt K mg) (c__law_take : Callee P w K mg base 1 "_law_take" ["_law_pen_here", "_law_most"] spTake) (D : DefAt K mg "_law_keys" s_law_keys ["_law_pen_here", "_law_many"]) : Callee P w K mg base 2 "_law_keys" ["_law_pen_here", "_law_many"] spKeys20 := by
  refine D.go sc_law_keys (fun vs H Q E h => ?_) (fun f cdv A outer s H vs Q E hr h => ?_)
  · obtain ⟨p, m, rfl, _⟩ := h; rfl
  · obtain ⟨p, m, rfl, pn, hm, q⟩ := h
    have hr__law_take := hr
    refine ⟨_, (R.scons (R.set (i := 2) sc_law_keys.nd R.str)
      (R.scons (R.set (i := 3) sc_law_keys.nd (R.op R.add R.int (R.fn c__law_take hr__law_take rfl (R.cons (R.v 0) (R.cons R.int R.nil)))))
      (R.scons (R.set (i := 4) sc_law_keys.nd (R.fn c__law_take hr__law_take rfl (R.cons (R.v 0) (R.cons (R.v 3) R.nil))))
      (R.scons (R.set (i := 5) sc_law_keys.nd (R.ix (R.kiL (K := K)) (R.lst (R.cons R.int (R.cons R.int (R.cons R.int (R.cons R.int (R.cons R.int (R.cons R.int R.nil))))))) (R.fn c__law_take hr__law_take rfl (R.cons (R.v 0) (R.cons R.int R.nil)))))
      (R.scons (R.set (i := 6) sc_law_keys.nd (R.comp rfl (js := [none, some 0]) (N := ["_law_j", "_law_pen_here"]) (CompScope.by (defScope s_law_keys) ["_law_pen_here", "_law_many", "_law_signs", "_law_size", "_law_at", "_law_step", "_law_base", "_law_rows", "_law_k", "_law_row"] rfl rfl (by decide +kernel)) (gown_name rfl) (R.range1 rfl T.b_range (R.cons R.int R.nil)) (fun C s₂ H₂ fp => ⟨(R.gn (i := 0) (show (["_law_j", "_law_pen_here"] : List Str).Nodup by decide +kernel)), R.ts0, (R.fn c__law_take hr__law_take rfl (R.cons (R.v 1) (R.cons R.int R.nil)))⟩)))
      (R.scons (R.scomp (i := 7) sc_law_keys.nd rfl (Or.inl rfl) rfl (js := [none, some 6]) (N := ["_law_k", "_law_base"]) (CompScope.by (defScope s_law_keys) ["_law_pen_here", "_law_many", "_law_signs", "_law_size", "_law_at", "_law_step", "_law_base", "_law_rows", "_law_k", "_law_row"] rfl rfl (by decide +kernel)) (gown_name rfl) (R.range1 rfl T.b_range (R.cons (R.v 1) R.nil)) (fun C s₂ H₂ fp => ⟨(R.gn (i := 0) (show (["_law_k", "_law_base"] : List Str).Nodup by decide +kernel)), R.ts0, (R.sl (R.ksL (K := K)) (R.v 1) R.pn (R.ps (R.op R.sub R.int (R.v 0))))⟩) rfl)
      (R.scons (R.ife (R.tcmp R.gt (R.fn c__law_take hr__law_take rfl (R.cons (R.v 0) (R.cons R.int R.nil))) R.int)
      (R.scons (R.set (i := 7) sc_law_keys.nd (R.lst R.nil))
      (R.sone (R.for_ PassesOwn.never rfl (R.range1 rfl T.b_range (R.cons (R.v 1) R.nil)) (R.gn (i := 8) sc_law_keys.nd)
      (R.scons (R.set (i := 9) sc_law_keys.nd (R.sl (R.ksL (K := K)) (R.v 6) R.pn (R.ps (R.op R.add (R.op R.add (R.v 4) R.int) (R.fn c__law_take hr__law_take rfl (R.cons (R.v 0) (R.cons (R.op R.sub (R.v 3) (R.v 4)) R.nil)))))))
      (R.scons (R.asg (R.op R.mod (R.op R.add (R.ix (R.kiL (K := K)) (R.v 6) (R.v 4)) (R.op R.mul (R.v 5) (R.v 8))) R.int) (R.gsub (R.v 9) (R.v 4) R.setL))
      (R.sone (R.expr (R.kbm (K := K) PySem.F.plainAttrs_list PySem.F.slot_list_append PySem.F.type_list_append R.append (R.v 7) (R.cons (R.v 9) R.nil)))))))))
      R.snil)
      (R.sone (R.ret (R.comp rfl (js := [none, some 2]) (N := ["_law_row", "_law_signs"]) (CompScope.by (defScope s_law_keys) ["_law_pen_here", "_law_many", "_law_signs", "_law_size", "_law_at", "_law_step", "_law_base", "_law_rows", "_law_k", "_law_row"] rfl rfl (by decide +kernel)) (gown_name rfl) (R.kwL (K := K) (R.v 7)) (fun C s₂ H₂ fp => ⟨(R.gn (i := 0) (show (["_law_row", "_law_signs"] : List Str).Nodup by decide +kernel)), R.ts0, (R.kbm (K := K) PySem.F.plainAttrs_str PySem.F.slot_str_join PySem.F.type_str_join (R.kjoin (K := K)) R.str (R.cons (R.comp rfl (js := [none, some 1]) (N := ["_law_sign", "_law_signs"]) (CompScope.by ({ kind := ScopeKind.function, names := [(".0", NameKind.local), ("_law_row", NameKind.local), ("_law_signs", NameKind.cell)], isGenerator := false, isCoroutine := false } : Scope) ["_law_row", "_law_signs"] rfl rfl (by decide +kernel)) (gown_name rfl) (R.kwL (K := K) (R.v 0)) (fun C s₂ H₂ fp => ⟨(R.gn (i := 0) (show (["_law_sign", "_law_signs"] : List Str).Nodup by decide +kernel)), R.ts0, (R.ix R.iS (R.v 1) (R.v 0))⟩)) R.nil))⟩))))))))))), ?_⟩
    refine ⟨p, 12, rfl, pn, by decide, by decide, fun r1 H2 b0 b1 p2 k2 => ?_⟩
    dsimp only [gName]
    refine ⟨p, _, rfl, p2, by omega, by omega, fun a' H3 c0 c1 p3 k3 => ?_⟩
    dsimp only [gName]
    obtain ⟨a, rfl⟩ := Int.eq_ofNat_of_zero_le c0
    refine ⟨szl rfl, fun ls hls => ⟨p, 6, rfl, p3.same (same_upd hls), by decide, by decide, fun r2 H4 d0 d1 p4 k4 => ⟨_, SqL.of (k4 _ _ upd_same (p3.ne hls)), ?_⟩⟩⟩
    have hst : ∃ s : Int, atI ([V.int 1, .int 5, .int 7, .int 11, .int 13, .int 17] : List V) r2 = some (.int s) ∧ stepOk2 s := by
      rcases six d0 d1 with rfl | rfl | rfl | rfl | rfl | rfl
      · exact ⟨_, rfl, .inl rfl⟩
      · exact ⟨_, rfl, .inr (.inl rfl)⟩
      · exact ⟨_, rfl, .inr (.inr (.inl rfl))⟩
      · exact ⟨_, rfl, .inr (.inr (.inr (.inl rfl)))⟩
      · exact ⟨_, rfl, .inr (.inr (.inr (.inr (.inl rfl))))⟩
      · exact ⟨_, rfl, .inr (.inr (.inr (.inr (.inr rfl))))⟩
    obtain ⟨st, hst, hok⟩ := hst
    refine ⟨_, hst, ?_⟩
    dsimp only [gName]
    have k14 : K1 p H H4 := (k2.trans (k3.trans (.of (same_upd hls)))).trans k4
    refine ⟨12, rfl, by decide, by decide, ?_⟩
    refine comp_seq (seq_range 0 (12 : Int).toNat) (by decide) (fun i ys H' => ∃ bs : List Int, ys = bs.map V.int ∧ bs.length = i ∧ (∀ x ∈ bs, 0 ≤ x ∧ x < 36) ∧ PenAt H' p ∧ K1 p H H') (fun i ys H' ⟨bs, e, e2, _⟩ => ⟨trivial, by rw [e, List.length_map, e2]; exact Nat.le_refl _⟩) ⟨[], rfl, rfl, (fun _ h => nomatch h), p4, k14⟩ (fun i x ys H' hx ⟨bs, e, e2, e3, pi, ki⟩ => ?_) (fun ys H' ⟨bs, e, e2, e3, pi, ki⟩ => ?_)
    · refine ⟨p, 36, rfl, pi, by decide, by decide, fun r H'' f0 f1 pj kj => ⟨bs ++ [r], by rw [e, List.map_append]; rfl, by rw [List.length_append, e2]; rfl, fun x hx => ?_, pj, ki.trans kj⟩⟩
      rcases List.mem_append.mp hx with h | h
      · exact e3 x h
      · rw [List.mem_singleton.mp h]; exact ⟨f0, f1⟩
    intro lb hlb
    subst e
    have hbl : bs.length = 12 := by rw [e2]; decide
    have ha : a < bs.length := by omega
    have gb : (upd H' lb (.lst (bs.map V.int))) lb = some (.lst (bs.map V.int)) := upd_same
    have p5 := pi.same (same_upd (o := .lst (bs.map V.int)) hlb)
    have k5 : K1 p H (upd H' lb (.lst (bs.map V.int))) := ki.trans (.of (same_upd hlb))
    have npb : lb ≠ p := pi.ne hlb
    dsimp only [gName]
    generalize upd H' lb (.lst (bs.map V.int)) = H5 at gb p5 k5 ⊢
    refine ⟨m, rfl, by omega, by omega, ?_⟩
    refine comp_seq (seq_range 0 (m : Int).toNat) (by simp [rangeV]; omega) (fun i ys H' => ∃ rs : List (Addr × List Int), ys = rs.map (fun q => V.ref q.1) ∧ rs.length = i ∧ (∀ (j : Nat) (q : Addr × List Int), rs[j]? = some q → q.2 = bs.take (12 - j)) ∧ RowsOk H' rs ∧ (∀ q ∈ rs, q.1 ≠ p) ∧ Same H5 H') (fun i ys H' ⟨rs, e, e2, _⟩ => ⟨trivial, by rw [e, List.length_map, e2]; exact Nat.le_refl _⟩) ⟨[], rfl, rfl, (fun _ _ h => by cases h), (fun _ h => nomatch h), (fun _ h => nomatch h), Same.refl _⟩ (fun i x ys G hx ⟨rs, e, e4, e5, ro, rp, sG⟩ => ?_) (fun ys G ⟨rs, e, e4, e5, ro, rp, sG⟩ => ?_)
    · have hi : i < m := by
        have := (List.getElem?_eq_some_iff.mp hx).1
        simp [rangeV] at this
        omega
      have ex : x = .int (i : Int) := by
        unfold rangeV at hx
        rw [List.getElem?_map, List.getElem?_range (by omega)] at hx
        have := Option.some.inj hx
        rw [← this]
        show V.int (0 + (i : Int)) = _
        rw [Int.zero_add]
      subst ex
      refine ⟨_, SqL.of (sG _ _ gb), fun lg hlg => ?_⟩
      have ec : cut (bs.map V.int) none (some ((12 : Int) - i)) = (bs.take (12 - i)).map V.int := by
        rw [show ((12 : Int) - i) = ((12 - i : Nat) : Int) by omega, cut_to, List.map_take]
      dsimp only
      rw [ec]
      refine ⟨rs ++ [(lg, bs.take (12 - i))], by rw [e, List.map_append]; rfl, by rw [List.length_append, e4]; rfl, fun j q' hj => ?_, fun q' hq' => ?_, fun q' hq' => ?_, sG.trans (same_upd hlg)⟩
      · by_cases hji : j < rs.length
        · rw [List.getElem?_append_left hji] at hj
          exact e5 j q' hj
        · have hj' := (List.getElem?_eq_some_iff.mp hj).1
          rw [List.length_append] at hj'
          have : j = rs.length := by simp at hj'; omega
          subst this
          rw [List.getElem?_append_right (Nat.le_refl _), Nat.sub_self] at hj
          cases hj
          rw [e4]
      · rcases List.mem_append.mp hq' with h | h
        · exact (ro.same (same_upd hlg)) q' h
        · rw [List.mem_singleton.mp h]
          exact ⟨upd_same, by rw [List.length_take]; omega, by rw [List.length_take]; omega, fun x hx => e3 x (List.mem_of_mem_take hx)⟩
      · rcases List.mem_append.mp hq' with h | h
        · exact rp q' h
        · rw [List.mem_singleton.mp h]
          exact (p5.same sG).ne hlg
    intro lr hlr
    subst e
    have hrl : rs.length = m := by rw [e4]; simp [rangeV]
    dsimp only [gName]
    have glr : (upd G lr (.lst (rs.map fun q => V.ref q.1))) lr = some (.lst (rs.map fun q => V.ref q.1)) := upd_same
    have s6 : Same H5 (upd G lr (.lst (rs.map fun q => V.ref q.1))) := sG.trans (same_upd hlr)
    have ro6 := ro.same (same_upd (o := .lst (rs.map fun q => V.ref q.1)) hlr)
    have nlr : lr ≠ p := (p5.same sG).ne hlr
    generalize upd G lr (.lst (rs.map fun q => V.ref q.1)) = H6 at glr s6 ro6 ⊢
    have p6 := p5.same s6
    have k6 : K1 p H H6 := k5.trans (.of s6)
    have gb6 := s6 _ _ gb
    refine cutS (t := tIfS _ _ _) (fun σ' H' => ∃ (lr : Addr) (rs : List (Addr × List Int)) (o8 o9 : Option V), σ' = [some (.ref p), some (.int m), some (.str "abcdefghijklmnopqrstuvwxyz0123456789"), some (.int (1 + r1)), some (.int a), some (.int st), some (.ref lb), some (.ref lr), o8, o9] ∧ H' lr = some (.lst (rs.map fun q => V.ref q.1)) ∧ rs.length = m ∧ RowsOk H' rs ∧ (rs.map kword).Nodup ∧ PenAt H' p ∧ K1 p H H') (fun nx hnx => ?_) ?_
    · refine ⟨p, 4, rfl, p6, by decide, by decide, fun r H7 f0 f1 p7 k7 => ?_⟩
      refine if_b (fun _ => ?_) (fun _ => ?_)
      rotate_left
      · refine hnx _ _ ⟨lr, rs, _, _, rfl, k7 _ _ glr nlr, hrl, ro6.k1 k7 rp, ?_, p7, k6.trans k7⟩
        refine List.pairwise_map.mpr (List.pairwise_iff_getElem.mpr fun i j hi hj hij e => ?_)
        have e1 := e5 i _ (List.getElem?_eq_getElem hi)
        have e6 := e5 j _ (List.getElem?_eq_getElem hj)
        have el := congrArg Str.length e
        unfold kword at el
        rw [tx_len, tx_len, List.length_map, List.length_map, e1, e6, List.length_take, List.length_take] at el
        omega
      have gb7 := k7 _ _ gb6 npb
      have k07 := k6.trans k7
      refine ⟨szl rfl, fun l hl => ?_⟩
      dsimp only [gName]
      have nlb : lb ≠ l := ne_of_none gb7 hl
      have npl : l ≠ p := p7.ne hl
      have hl0 : H l = none := k07.free p7 hl
      refine ⟨m, rfl, by omega, by omega, ?_⟩
      refine for_seq (seq_range 0 (m : Int).toNat) (fun i σ H' => ∃ (zs : List (Addr × List Int)) (o8 o9 : Option V), σ = [some (.ref p), some (.int m), some (.str "abcdefghijklmnopqrstuvwxyz0123456789"), some (.int (1 + r1)), some (.int a), some (.int st), some (.ref lb), some (.ref l), o8, o9] ∧ zs.length = i ∧ RowsOk H' zs ∧ (∀ q ∈ zs, q.1 ≠ p ∧ q.1 ≠ l) ∧ (∀ (j : Nat) (q : Addr × List Int), zs[j]? = some q → (kword q).cps.toList[a]? = some (sgn KLET ((bs[a] + st * (j : Int)) % 36))) ∧ H' l = some (.lst (zs.map fun q => V.ref q.1)) ∧ H' lb = some (.lst (bs.map V.int)) ∧ PenAt H' p ∧ K1 p H H')
        (fun _ _ _ _ => trivial) ⟨[], _, _, rfl, rfl, (fun _ h => nomatch h), (fun _ h => nomatch h), (fun _ _ h => by cases h), upd_same, same_upd hl _ _ gb7, p7.same (same_upd hl), k07.trans (.of (same_upd hl))⟩ ?_ ?_
      · rintro i x σ G1 hx ⟨zs, o8, o9, rfl, hzl, hro, hrp, hat, gl, glb, q1, j1⟩
        have hi : i < m := by
          have := (List.getElem?_eq_some_iff.mp hx).1
          simp [rangeV] at this
          omega
        have ex : x = .int (i : Int) := by
          unfold rangeV at hx
          rw [List.getElem?_map, List.getElem?_range (by omega)] at hx
          have := Option.some.inj hx
          rw [← this]
          show V.int (0 + (i : Int)) = _
          rw [Int.zero_add]
        subst ex
        dsimp only [gName]
        refine ⟨p, _, rfl, q1, by omega, by omega, fun t' G2 t0 t1 q2 j2 => ?_⟩
        obtain ⟨t, rfl⟩ := Int.eq_ofNat_of_zero_le t0
        have glb2 := j2 _ _ glb npb
        have gl2 := j2 _ _ gl npl
        refine ⟨_, SqL.of glb2, fun lg hlg => ?_⟩
        have ec : cut (bs.map V.int) none (some ((a : Int) + 1 + t)) = (bs.take (a + 1 + t)).map V.int := by
          rw [show ((a : Int) + 1 + t) = ((a + 1 + t : Nat) : Int) by omega, cut_to, List.map_take]
        dsimp only [gName]
        rw [ec]
        have htl : (bs.take (a + 1 + t)).length = a + 1 + t := by rw [List.length_take]; omega
        refine ⟨_, SqL.of (same_upd hlg _ _ glb2), .int bs[a], atI_nat (by rw [List.getElem?_map, List.getElem?_eq_getElem ha]; rfl), .inl (by rcases hok with rfl | rfl | rfl | rfl | rfl | rfl <;> exact ⟨by decide, by decide⟩), by show (0 : Int) < _; decide, lg, _, _, a, rfl, rfl, upd_same, ?_, ?_⟩
        · unfold ixN
          rw [List.length_map, htl, if_pos (by omega), if_pos (by omega)]
          rfl
        dsimp only
        generalize hv : (bs[a] + st * (i : Int)) % 36 = v
        have v0 : 0 ≤ v := by rw [← hv]; exact Int.emod_nonneg _ (by decide)
        have v1 : v < 36 := by rw [← hv]; exact Int.emod_lt_of_pos _ (by decide)
        rw [show ((bs.take (a + 1 + t)).map V.int).set a (V.int v) = ((bs.take (a + 1 + t)).set a v).map V.int by rw [List.map_set]]
        generalize hss : (bs.take (a + 1 + t)).set a v = ss
        have hsl : ss.length = a + 1 + t := by rw [← hss, List.length_set, htl]
        have hsb : ∀ x ∈ ss, 0 ≤ x ∧ x < 36 := fun x hx => by
          rw [← hss] at hx
          rcases List.mem_or_eq_of_mem_set hx with h | h
          · exact e3 x (List.mem_of_mem_take h)
          · rw [h]; exact ⟨v0, v1⟩
        have hsa : ss[a]? = some v := by rw [← hss, List.getElem?_set_self (by omega)]
        have sg : Same G2 (upd (upd G2 lg (.lst ((bs.take (a + 1 + t)).map V.int))) lg (.lst (ss.map V.int))) := fun c o e => by
          rw [upd_ne (ne_of_none e hlg), upd_ne (ne_of_none e hlg)]; exact e
        have gg : (upd (upd G2 lg (.lst ((bs.take (a + 1 + t)).map V.int))) lg (.lst (ss.map V.int))) lg = some (.lst (ss.map V.int)) := upd_same
        generalize upd (upd G2 lg (.lst ((bs.take (a + 1 + t)).map V.int))) lg (.lst (ss.map V.int)) = G3 at sg gg ⊢
        have gl3 := sg _ _ gl2
        have nlg : lg ≠ p ∧ lg ≠ l := ⟨q2.ne hlg, (ne_of_none gl2 hlg).symm⟩
        refine ⟨.inl ⟨rfl, _, SqL.of gl3⟩, l, _, _, rfl, rfl, gl3, Nat.lt_of_le_of_lt (m := 60) (by rw [List.length_map]; omega) (by decide), ?_⟩
        refine ⟨zs ++ [(lg, ss)], _, _, rfl, by rw [List.length_append, hzl]; rfl, fun y hy => ?_, fun y hy => ?_, fun j z hj => ?_, by rw [upd_same, List.map_append]; rfl, ?_, ?_, fun c o e n => ?_⟩
        · rcases List.mem_append.mp hy with h | h
          · refine ⟨?_, (hro y h).2⟩
            rw [upd_ne (hrp y h).2]
            exact sg _ _ (j2 _ _ (hro y h).1 (hrp y h).1)
          · rw [List.mem_singleton.mp h]
            exact ⟨by rw [upd_ne nlg.2]; exact gg, by rw [hsl]; omega, by rw [hsl]; omega, hsb⟩
        · rcases List.mem_append.mp hy with h | h
          · exact hrp y h
          · rw [List.mem_singleton.mp h]; exact nlg
        · by_cases hji : j < zs.length
          · rw [List.getElem?_append_left hji] at hj
            exact hat j z hj
          · have hj' := (List.getElem?_eq_some_iff.mp hj).1
            rw [List.length_append] at hj'
            have : j = zs.length := by simp at hj'; omega
            subst this
            rw [List.getElem?_append_right (Nat.le_refl _), Nat.sub_self] at hj
            cases hj
            unfold kword
            rw [hzl, cps_tx, List.getElem?_map, hsa, hv]
            rfl
        · rw [upd_ne nlb]
          exact sg _ _ glb2
        · obtain ⟨i', j', g', r'⟩ := q2
          exact ⟨i', j', by rw [upd_ne npl.symm]; exact sg _ _ g', r'⟩
        · rw [upd_ne (ne_of_none e hl0)]
          exact sg _ _ ((j1.trans j2) c o e n)
      · rintro σ G1 ⟨zs, o8, o9, rfl, hzl, hro, hrp, hat, gl, glb, q1, j1⟩
        have hzm : zs.length = m := by rw [hzl]; simp [rangeV]
        refine hnx _ _ ⟨l, zs, _, _, rfl, gl, hzm, hro, nd_at a (fun j => sgn KLET ((bs[a] + st * (j : Int)) % 36)) (fun j z hj => ?_) (fun j j' h h' => klet_inj hok h (by rw [List.length_map] at h'; omega)), q1, j1⟩
        rw [List.getElem?_map] at hj
        cases hq : zs[j]? with
        | none => rw [hq] at hj; cases hj
        | some w' =>
          rw [hq] at hj
          cases hj
          exact hat j w' hq
    rintro σ' H7 ⟨lr', rs', o8, o9, rfl, glr', hrl', ro', nd', p7, k7⟩
    have el : (("abcdefghijklmnopqrstuvwxyz0123456789" : Str).cps.toList) = KLET := klet_eq
    refine ⟨lr', rfl, ⟨_, SqL.of glr'⟩, ?_⟩
    refine comp_seq (seq_list K lr' (rs'.map fun q => V.ref q.1)) (by rw [List.length_map]; omega) (fun i ys H' => ys = ((rs'.take i).map kword).map V.str ∧ Same H7 H') (fun i ys H' ⟨e, s'⟩ => ⟨SqL.of (s' _ _ glr'), by rw [e, List.length_map, List.length_map, List.length_take]; exact Nat.min_le_left _ _⟩) ⟨rfl, Same.refl _⟩ (fun i x ys H' hx ⟨e, s'⟩ => ?_) (fun ys H' ⟨e, s'⟩ => ?_)
    · rw [List.getElem?_map] at hx
      cases hq : rs'[i]? with
      | none => rw [hq] at hx; cases hx
      | some w' =>
        rw [hq] at hx
        cases hx
        obtain ⟨gw, w1, w2, w3⟩ := ro' w' (List.mem_of_getElem? hq)
        refine ⟨rfl, w'.1, rfl, ⟨_, SqL.of (s' _ _ gw)⟩, ?_⟩
        refine comp_pure (seq_list K w'.1 (w'.2.map V.int)) (by rw [List.length_map]; omega) (fun _ => true) (fun v => match v with | .int i => .str (tx [sgn KLET i]) | _ => v) (SqL.of (s' _ _ gw)) (fun y ys N hy ht hf => ?_) ?_
        · obtain ⟨i', hi', rfl⟩ := List.mem_map.mp hy
          have hb := w3 i' hi'
          exact ⟨by decide +kernel, _, (by rw [el]; exact (sgn_at (cs := KLET) hb.1 (show i' < 36 from hb.2)).1), ht rfl⟩
        intro l3 h3
        have ef : ((w'.2.map V.int).filter (fun _ => true)).map (fun v => match v with | .int i => .str (tx [sgn KLET i]) | _ => v) = ((w'.2.map (sgn KLET)).map (fun c => tx [c])).map V.str := by
          rw [List.filter_eq_self.mpr (fun _ _ => rfl), List.map_map, List.map_map, List.map_map]
          rfl
        rw [ef]
        refine ⟨_, l3, (w'.2.map (sgn KLET)).map (fun c => tx [c]), rfl, rfl, SqL.of upd_same, ?_, ?_⟩
        · rw [sum_ones, List.length_map, List.length_map, emp_eq, tx_len]; simp; omega
        rw [emp_eq, join_signs]
        refine ⟨?_, s'.trans (same_upd h3)⟩
        rw [List.take_succ, hq, List.map_append, List.map_append, e]
        rfl
    · intro l3 h3
      rw [List.length_map, List.take_length] at e
      refine q l3 (rs'.map kword) _ (by rw [List.length_map, hrl']) (fun z hz => ?_) nd' (k7.free p7 (s'.free h3)) (by rw [upd_same, e]) ((p7.same s').same (same_upd h3)) (k7.trans (.of (s'.trans (same_upd h3))))
      obtain ⟨w', hw', rfl⟩ := List.mem_map.mp hz
      exact ro'.ky w' hw'
inductive Deed6 (zs : List Str) : List V → Prop
  | one (z a : Str) (n : Int) : (z = "add" ∨ z = "take") → a ∈ zs → 1 ≤ n → n ≤ 1000000000000 → Deed6 zs [.str z, .str a, .int n]
  | move (a b : Str) (n : Int) : a ∈ zs → b ∈ zs → a ≠ b → 1 ≤ n → n ≤ 1000000000000 → Deed6 zs [.str "move", .str a, .str b, .int n]
  | two (z a b : Str) (n : Int) : (z = "send" ∨ z = "fetch") → a ∈ zs → b ∈ zs → 1 ≤ n → n ≤ 1000000000000 → Deed6 zs [.str z, .str a, .str b, .int n]
  | pass (a b c : Str) (n : Int) : a ∈ zs → b ∈ zs → c ∈ zs → a ≠ b → 1 ≤ n → n ≤ 1000000000000 → Deed6 zs [.str "pass", .str a, .str b, .str c, .int n]
theorem PenAt.neS {H : Hp} {p l : Addr} {zs : List Str} (h : PenAt H p) (hl : H l = some (.lst (zs.map V.str))) (hz : zs ≠ []) : l ≠ p := fun e => by
  obtain ⟨i, j, g, _⟩ := h
  rw [e, g] at hl
  cases zs with
  | nil => exact hz rfl
  | cons z r => cases hl
theorem PenAt.tup {H : Hp} {p t : Addr} {xs : List V} (h : PenAt H p) (e : H t = some (.tup xs)) : t ≠ p := fun z => by
  obtain ⟨i, j, g, _⟩ := h
  rw [z, g] at e
  cases e
def spDeed40 : Sp := fun vs H Q _ => ∃ (p ln : Addr) (zs : List Str), vs = [.ref p, .ref ln] ∧ PenAt H p ∧ H ln = some (.lst (zs.map V.str)) ∧ zs.Nodup ∧ 2 ≤ zs.length ∧ zs.length ≤ 100 ∧ ∀ t xs H', Deed6 zs xs → H' t = some (.tup xs) → PenAt H' p → K1 p H H' → Q (.ref t) H'
theorem ok_deed40 (T : Txt K mg) (c__law_take : Callee P w K mg base 1 "_law_take" ["_law_pen_here", "_law_most"] spTake) (c__law_number : Callee P w K mg base 2 "_law_number" ["_law_pen_here", "_law_least", "_law_most"] spNumber20) (D : DefAt K mg "_law_deed" s_law_deed ["_law_pen_here", "_law_names_here"]) : Callee P w K mg base 3 "_law_deed" ["_law_pen_here", "_law_names_here"] spDeed40 := by
  refine D.go sc_law_deed (fun vs H Q E h => ?_) (fun f cdv A outer s H vs Q E hr h => ?_)
  · obtain ⟨p, ln, zs, rfl, _⟩ := h; rfl
  · obtain ⟨p, ln, zs, rfl, pn, hln, hnd, h2, h100, q⟩ := h
    have hr__law_take : Room 1 _ := hr.mono (by decide)
    have hr__law_number := hr
    refine ⟨_, (R.scons (R.set (i := 2) sc_law_deed.nd (R.ix (R.kiL (K := K)) (R.lst (R.cons R.str (R.cons R.str (R.cons R.str (R.cons R.str (R.cons R.str (R.cons R.str R.nil))))))) (R.fn c__law_take hr__law_take rfl (R.cons (R.v 0) (R.cons R.int R.nil)))))
      (R.scons (R.set (i := 3) sc_law_deed.nd (R.fn c__law_take hr__law_take rfl (R.cons (R.v 0) (R.cons (R.callB (R.klenL (K := K)) rfl T.b_len bb_len (R.cons (R.v 1) R.nil)) R.nil))))
      (R.scons (R.set (i := 4) sc_law_deed.nd (R.ix (R.kiL (K := K)) (R.v 1) (R.op R.mod (R.op R.add (R.op R.add (R.v 3) R.int) (R.fn c__law_take hr__law_take rfl (R.cons (R.v 0) (R.cons (R.op R.sub (R.callB (R.klenL (K := K)) rfl T.b_len bb_len (R.cons (R.v 1) R.nil)) R.int) R.nil)))) (R.callB (R.klenL (K := K)) rfl T.b_len bb_len (R.cons (R.v 1) R.nil)))))
      (R.scons (R.set (i := 5) sc_law_deed.nd (R.ix (R.kiL (K := K)) (R.v 1) (R.fn c__law_take hr__law_take rfl (R.cons (R.v 0) (R.cons (R.callB (R.klenL (K := K)) rfl T.b_len bb_len (R.cons (R.v 1) R.nil)) R.nil)))))
      (R.scons (R.set (i := 6) sc_law_deed.nd (R.fn c__law_number hr__law_number rfl (R.cons (R.v 0) (R.cons R.int (R.cons (R.op R.pow R.int R.int) R.nil)))))
      (R.scons (R.ife (R.tcmp (R.kinQ (K := K)) (R.v 2) (R.wtup (R.cons R.str (R.cons R.str R.nil))))
      (R.sone (R.ret (R.wtup (R.cons (R.v 2) (R.cons (R.v 5) (R.cons (R.v 6) R.nil))))))
      R.snil)
      (R.scons (R.ife (R.tcmp R.eq (R.v 2) R.str)
      (R.sone (R.ret (R.wtup (R.cons (R.v 2) (R.cons (R.ix (R.kiL (K := K)) (R.v 1) (R.v 3)) (R.cons (R.v 4) (R.cons (R.v 6) R.nil)))))))
      R.snil)
      (R.scons (R.ife (R.tcmp R.eq (R.v 2) R.str)
      (R.sone (R.ret (R.wtup (R.cons (R.v 2) (R.cons (R.ix (R.kiL (K := K)) (R.v 1) (R.v 3)) (R.cons (R.v 4) (R.cons (R.v 5) (R.cons (R.v 6) R.nil))))))))
      R.snil)
      (R.sone (R.ret (R.wtup (R.cons (R.v 2) (R.cons (R.v 4) (R.cons (R.v 5) (R.cons (R.v 6) R.nil))))))))))))))), ?_⟩
    have hzn : zs ≠ [] := fun e => by rw [e] at h2; exact absurd h2 (by decide)
    have npl := PenAt.neS pn hln hzn
    have e12 : (10 : Int) ^ (12 : Int).toNat = 1000000000000 := by decide
    refine ⟨szl rfl, fun l0 h0 => ⟨p, 6, rfl, pn.same (same_upd h0), by decide, by decide, fun r G1 r0 r1 pn1 k1 => ⟨_, SqL.of (k1 _ _ upd_same (pn.ne h0)), ?_⟩⟩⟩
    obtain ⟨wd, hwd, hat⟩ : ∃ wd : Str, (wd = "add" ∨ wd = "take" ∨ wd = "move" ∨ wd = "send" ∨ wd = "fetch" ∨ wd = "pass") ∧ atI [V.str "add", .str "take", .str "move", .str "send", .str "fetch", .str "pass"] r = some (.str wd) := by
      rcases six r0 r1 with rfl | rfl | rfl | rfl | rfl | rfl
      · exact ⟨_, .inl rfl, rfl⟩
      · exact ⟨_, .inr (.inl rfl), rfl⟩
      · exact ⟨_, .inr (.inr (.inl rfl)), rfl⟩
      · exact ⟨_, .inr (.inr (.inr (.inl rfl))), rfl⟩
      · exact ⟨_, .inr (.inr (.inr (.inr (.inl rfl)))), rfl⟩
      · exact ⟨_, .inr (.inr (.inr (.inr (.inr rfl)))), rfl⟩
    refine ⟨_, hat, ?_⟩
    dsimp only [gName]
    have k01 : K1 p H G1 := (K1.of (same_upd h0)).trans k1
    have g1 := k01 _ _ hln npl
    refine ⟨_, .inl (SqL.of g1), p, _, rfl, pn1, by rw [List.length_map]; omega, by rw [List.length_map]; omega, fun r' G2 a0 a1 pn2 k2 => ?_⟩
    obtain ⟨j, rfl⟩ := Int.eq_ofNat_of_zero_le a0
    rw [List.length_map] at a1
    have hj : j < zs.length := by omega
    have k02 := k01.trans k2
    have g2 := k02 _ _ hln npl
    dsimp only [gName]
    refine ⟨_, .inl (SqL.of g2), p, _, rfl, pn2, by rw [List.length_map]; omega, by rw [List.length_map]; omega, fun r2 G3 b0 b1 pn3 k3 => ?_⟩
    obtain ⟨m, rfl⟩ := Int.eq_ofNat_of_zero_le b0
    rw [List.length_map] at b1
    have k03 := k02.trans k3
    have g3 := k03 _ _ hln npl
    have hpos : 0 < zs.length := by omega
    obtain ⟨k, hk⟩ : ∃ k, k = (j + 1 + m) % zs.length := ⟨_, rfl⟩
    have hkl : k < zs.length := by rw [hk]; exact Nat.mod_lt _ hpos
    have ek : ((j : Int) + 1 + (m : Int)) % ((zs.map V.str).length : Int) = (k : Int) := by
      rw [List.length_map, hk]
      have e : (j : Int) + 1 + (m : Int) = ((j + 1 + m : Nat) : Int) := by omega
      rw [e]
      exact (Int.natCast_emod _ _).symm
    have hne : zs[j] ≠ zs[k] := fun e => by
      have := nodup_ix hnd (List.getElem?_eq_getElem hj) (by rw [List.getElem?_eq_getElem hkl, e])
      rw [hk] at this
      by_cases hb : j + 1 + m < zs.length
      · rw [Nat.mod_eq_of_lt hb] at this; omega
      · have h3 : (j + 1 + m) % zs.length = j + 1 + m - zs.length := by
          rw [Nat.mod_eq_sub_mod (by omega), Nat.mod_eq_of_lt (by omega)]
        rw [h3] at this
        omega
    refine ⟨_, .inl (SqL.of g3), (show (0 : Int) < ((zs.map V.str).length : Int) by rw [List.length_map]; omega), ?_⟩
    dsimp only
    rw [ek]
    refine ⟨_, SqL.of g3, .str zs[k], atI_nat (by rw [List.getElem?_map, List.getElem?_eq_getElem hkl]; rfl), ?_⟩
    dsimp only [gName]
    refine ⟨_, .inl (SqL.of g3), p, _, rfl, pn3, by rw [List.length_map]; omega, by rw [List.length_map]; omega, fun r3 G4 c0 c1 pn4 k4 => ?_⟩
    obtain ⟨i3, rfl⟩ := Int.eq_ofNat_of_zero_le c0
    rw [List.length_map] at c1
    have hi3 : i3 < zs.length := by omega
    have k04 := k03.trans k4
    have g4 := k04 _ _ hln npl
    refine ⟨_, SqL.of g4, .str zs[i3], atI_nat (by rw [List.getElem?_map, List.getElem?_eq_getElem hi3]; rfl), ?_⟩
    dsimp only [gName]
    refine ⟨⟨by decide, by decide, by decide⟩, p, 1, _, rfl, pn4, by decide, by decide, fun n G5 n0 n1 pn5 k5 => ?_⟩
    dsimp only [gName]
    have n1' : n ≤ 1000000000000 := by rw [← e12]; exact n1
    have k05 := k04.trans k5
    have g5 := k05 _ _ hln npl
    have mj : zs[j] ∈ zs := List.getElem_mem hj
    have mk : zs[k] ∈ zs := List.getElem_mem hkl
    have mi : zs[i3] ∈ zs := List.getElem_mem hi3
    have one : ∀ {f : V → Hp → Prop}, f (.str zs[j]) G5 → ∃ xs, SqL K G5 ln xs ∧ ∃ v, atI xs (j : Int) = some v ∧ f v G5 := fun h => ⟨_, SqL.of g5, .str zs[j], atI_nat (by rw [List.getElem?_map, List.getElem?_eq_getElem hj]; rfl), h⟩
    have fin : ∀ {xs : List V}, Deed6 zs xs → ∀ t H', Same G5 H' → H' t = some (.tup xs) → Q (.ref t) H' := fun h t H' s' g' => q t _ H' h g' (pn5.same s') (k05.trans (K1.of s'))
    rcases hwd with rfl | rfl | rfl | rfl | rfl | rfl
    · refine ⟨by simp, fun ta Ha sa ga => ⟨ta, _, rfl, .inr (SqT.of ga), rfl, rfl, ?_⟩⟩
      have h1 : inV (.str "add") [V.str "add", .str "take"] = true := rfl
      dsimp only
      rw [h1]
      exact ⟨by simp, fun t H' s' g' => fin (.one _ _ _ (.inl rfl) mi n0 n1') t H' (sa.trans s') g'⟩
    · refine ⟨by simp, fun ta Ha sa ga => ⟨ta, _, rfl, .inr (SqT.of ga), rfl, rfl, ?_⟩⟩
      have h1 : inV (.str "take") [V.str "add", .str "take"] = true := rfl
      dsimp only
      rw [h1]
      exact ⟨by simp, fun t H' s' g' => fin (.one _ _ _ (.inr rfl) mi n0 n1') t H' (sa.trans s') g'⟩
    · refine ⟨by simp, fun ta Ha sa ga => ⟨ta, _, rfl, .inr (SqT.of ga), rfl, rfl, ?_⟩⟩
      have h1 : inV (.str "move") [V.str "add", .str "take"] = false := rfl
      dsimp only
      rw [h1]
      exact ⟨_, SqL.of (sa _ _ g5), .str zs[j], atI_nat (by rw [List.getElem?_map, List.getElem?_eq_getElem hj]; rfl), by simp, fun t H' s' g' => fin (.move _ _ _ mj mk hne n0 n1') t H' (sa.trans s') g'⟩
    · refine ⟨by simp, fun ta Ha sa ga => ⟨ta, _, rfl, .inr (SqT.of ga), rfl, rfl, ?_⟩⟩
      have h1 : inV (.str "send") [V.str "add", .str "take"] = false := rfl
      dsimp only
      rw [h1]
      exact ⟨by simp, fun t H' s' g' => fin (.two _ _ _ _ (.inl rfl) mk mi n0 n1') t H' (sa.trans s') g'⟩
    · refine ⟨by simp, fun ta Ha sa ga => ⟨ta, _, rfl, .inr (SqT.of ga), rfl, rfl, ?_⟩⟩
      have h1 : inV (.str "fetch") [V.str "add", .str "take"] = false := rfl
      dsimp only
      rw [h1]
      exact ⟨by simp, fun t H' s' g' => fin (.two _ _ _ _ (.inr rfl) mk mi n0 n1') t H' (sa.trans s') g'⟩
    · refine ⟨by simp, fun ta Ha sa ga => ⟨ta, _, rfl, .inr (SqT.of ga), rfl, rfl, ?_⟩⟩
      have h1 : inV (.str "pass") [V.str "add", .str "take"] = false := rfl
      dsimp only
      rw [h1]
      exact ⟨_, SqL.of (sa _ _ g5), .str zs[j], atI_nat (by rw [List.getElem?_map, List.getElem?_eq_getElem hj]; rfl), by simp, fun t H' s' g' => fin (.pass _ _ _ _ mj mk mi hne n0 n1') t H' (sa.trans s') g'⟩
inductive Shape6 : List V → Str → Int → List Str → Prop
  | one (z a : Str) (n : Int) : (z = "add" ∨ z = "take") → Shape6 [.str z, .str a, .int n] z n []
  | move (a b : Str) (n : Int) : Shape6 [.str "move", .str a, .str b, .int n] "move" n []
  | two (z a b : Str) (n : Int) : (z = "send" ∨ z = "fetch") → Shape6 [.str z, .str a, .str b, .int n] z n [a]
  | pass (a b c : Str) (n : Int) : Shape6 [.str "pass", .str a, .str b, .str c, .int n] "pass" n [a, b]
inductive Ans6 (w : Str) (n : Int) (hs : List Str) : List V → Prop
  | short (a : Int) : (w = "take" ∨ w = "send" ∨ w = "move") → 0 ≤ a → a ≤ n - 1 → Ans6 w n hs [.str "short", .int a]
  | full (a : Int) : (w = "add" ∨ w = "fetch" ∨ w = "move") → 1000000000000 - n + 1 ≤ a → a ≤ 1000000000000 → Ans6 w n hs [.str "full", .int a]
  | more (a : Int) : (w = "add" ∨ w = "fetch") → n ≤ a → a ≤ 1000000000000 → Ans6 w n hs [.str "is", .int a]
  | less (a : Int) : (w = "take" ∨ w = "send") → 0 ≤ a → a ≤ 1000000000000 - n → Ans6 w n hs [.str "is", .int a]
  | both (a b : Int) : w = "move" → 0 ≤ a → a ≤ 1000000000000 - n → n ≤ b → b ≤ 1000000000000 → Ans6 w n hs [.str "is", .int a, .int b]
  | no (h : Str) : (w = "send" ∨ w = "fetch" ∨ w = "pass") → h ∈ hs → Ans6 w n hs [.str "no", .str h]
  | ok : w = "pass" → Ans6 w n hs [.str "ok"]
def spAnswer40 : Sp := fun vs H Q _ => ∃ (p d : Addr) (zs : List Str) (xs : List V), vs = [.ref p, .ref d] ∧ PenAt H p ∧ H d = some (.tup xs) ∧ Deed6 zs xs ∧ ∀ t ys H' w n hs, Shape6 xs w n hs → Ans6 w n hs ys → H' t = some (.tup ys) → PenAt H' p → K1 p H H' → Q (.ref t) H'
theorem ok_answer40 (T : Txt K mg) (c__law_take : Callee P w K mg base 1 "_law_take" ["_law_pen_here", "_law_most"] spTake) (c__law_number : Callee P w K mg base 2 "_law_number" ["_law_pen_here", "_law_least", "_law_most"] spNumber20) (D : DefAt K mg "_law_answer" s_law_answer ["_law_pen_here", "_law_deed_here"]) : Callee P w K mg base 3 "_law_answer" ["_law_pen_here", "_law_deed_here"] spAnswer40 := by
  refine D.go sc_law_answer (fun vs H Q E h => ?_) (fun f cdv A outer s H vs Q E hr h => ?_)
  · obtain ⟨p, d, zs, xs, rfl, _⟩ := h; rfl
  · obtain ⟨p, d, zs, xs, rfl, pn, hd, hD, q⟩ := h
    have hr__law_take : Room 1 _ := hr.mono (by decide)
    have hr__law_number := hr
    refine ⟨_, (R.scons (R.set (i := 2) sc_law_answer.nd (R.ix (R.kiT (K := K)) (R.v 1) R.int))
      (R.scons (R.set (i := 3) sc_law_answer.nd (R.ix (R.kiT (K := K)) (R.v 1) (R.neg R.int)))
      (R.scons (R.set (i := 4) sc_law_answer.nd (R.wtup (R.cons R.str (R.cons (R.fn c__law_number hr__law_number rfl (R.cons (R.v 0) (R.cons R.int (R.cons (R.op R.sub (R.v 3) R.int) R.nil)))) R.nil))))
      (R.scons (R.set (i := 5) sc_law_answer.nd (R.wtup (R.cons R.str (R.cons (R.fn c__law_number hr__law_number rfl (R.cons (R.v 0) (R.cons (R.op R.add (R.op R.sub (R.op R.pow R.int R.int) (R.v 3)) R.int) (R.cons (R.op R.pow R.int R.int) R.nil)))) R.nil))))
      (R.scons (R.set (i := 6) sc_law_answer.nd (R.fn c__law_number hr__law_number rfl (R.cons (R.v 0) (R.cons R.int (R.cons (R.op R.sub (R.op R.pow R.int R.int) (R.v 3)) R.nil)))))
      (R.scons (R.set (i := 7) sc_law_answer.nd (R.fn c__law_number hr__law_number rfl (R.cons (R.v 0) (R.cons (R.v 3) (R.cons (R.op R.pow R.int R.int) R.nil)))))
      (R.scons (R.ife (R.tcmp R.eq (R.v 2) R.str)
      (R.sone (R.ret (R.ix (R.kiL (K := K)) (R.lst (R.cons (R.wtup (R.cons R.str R.nil)) (R.cons (R.wtup (R.cons R.str (R.cons (R.ix (R.kiT (K := K)) (R.v 1) R.int) R.nil))) (R.cons (R.wtup (R.cons R.str (R.cons (R.ix (R.kiT (K := K)) (R.v 1) R.int) R.nil))) R.nil)))) (R.fn c__law_take hr__law_take rfl (R.cons (R.v 0) (R.cons R.int R.nil))))))
      R.snil)
      (R.scons (R.ife (R.tcmp R.eq (R.v 2) R.str)
      (R.sone (R.ret (R.ix (R.kiL (K := K)) (R.lst (R.cons (R.v 4) (R.cons (R.v 5) (R.cons (R.wtup (R.cons R.str (R.cons (R.v 6) (R.cons (R.v 7) R.nil)))) R.nil)))) (R.fn c__law_take hr__law_take rfl (R.cons (R.v 0) (R.cons R.int R.nil))))))
      R.snil)
      (R.scons (R.set (i := 8) sc_law_answer.nd (R.lst (R.cons (R.wtup (R.cons R.str (R.cons (R.v 7) R.nil))) (R.cons (R.v 5) R.nil))))
      (R.scons (R.ife (R.tcmp (R.kinQ (K := K)) (R.v 2) (R.wtup (R.cons R.str (R.cons R.str R.nil))))
      (R.sone (R.set (i := 8) sc_law_answer.nd (R.lst (R.cons (R.wtup (R.cons R.str (R.cons (R.v 6) R.nil))) (R.cons (R.v 4) R.nil)))))
      R.snil)
      (R.scons (R.ife (R.tcmp (R.kinQ (K := K)) (R.v 2) (R.wtup (R.cons R.str (R.cons R.str R.nil))))
      (R.sone (R.expr (R.kbm (K := K) PySem.F.plainAttrs_list PySem.F.slot_list_append PySem.F.type_list_append R.append (R.v 8) (R.cons (R.wtup (R.cons R.str (R.cons (R.ix (R.kiT (K := K)) (R.v 1) R.int) R.nil))) R.nil))))
      R.snil)
      (R.sone (R.ret (R.ix (R.kiL (K := K)) (R.v 8) (R.fn c__law_take hr__law_take rfl (R.cons (R.v 0) (R.cons (R.callB (R.klenL (K := K)) rfl T.b_len bb_len (R.cons (R.v 8) R.nil)) R.nil))))))))))))))))), ?_⟩
    have e12 : (10 : Int) ^ (12 : Int).toNat = 1000000000000 := by decide
    obtain ⟨wd, n, hs, hS, n0, n1, hw, hl⟩ : ∃ wd n hs, Shape6 xs wd n hs ∧ 1 ≤ n ∧ n ≤ 1000000000000 ∧ atI xs 0 = some (.str wd) ∧ atI xs (-1) = some (.int n) := by
      cases hD with
      | one z a n h _ h0 h1 => exact ⟨_, _, _, .one z a n h, h0, h1, rfl, rfl⟩
      | move a b n _ _ _ h0 h1 => exact ⟨_, _, _, .move a b n, h0, h1, rfl, rfl⟩
      | two z a b n h _ _ h0 h1 => exact ⟨_, _, _, .two z a b n h, h0, h1, rfl, rfl⟩
      | pass a b c n _ _ _ _ h0 h1 => exact ⟨_, _, _, .pass a b c n, h0, h1, rfl, rfl⟩
    have pw : ((0 : Int) ≤ 12 ∧ (12 : Int) < 100) := ⟨by decide, by decide⟩
    refine ⟨_, SqT.of hd, _, hw, ?_⟩
    dsimp only [gName]
    refine ⟨_, SqT.of hd, _, hl, ?_⟩
    dsimp only [gName]
    refine ⟨p, 0, n - 1, rfl, pn, by omega, by omega, fun a1 G1 a10 a11 pn1 k1 => ⟨by simp, fun t1 G2 s2 g2 => ?_⟩⟩
    dsimp only [gName]
    have pn2 := pn1.same s2
    refine ⟨⟨by decide, by decide, by decide⟩, ⟨by decide, by decide, by decide⟩, p, _, _, rfl, pn2, by omega, by omega, fun a2 G3 a20 a21 pn3 k3 => ⟨by simp, fun t2 G4 s4 g4 => ?_⟩⟩
    dsimp only [gName]
    have pn4 := pn3.same s4
    refine ⟨⟨by decide, by decide, by decide⟩, p, 0, _, rfl, pn4, by omega, by omega, fun a3 G5 a30 a31 pn5 k5 => ?_⟩
    dsimp only [gName]
    refine ⟨⟨by decide, by decide, by decide⟩, p, n, _, rfl, pn5, by omega, by omega, fun a4 G6 a40 a41 pn6 k6 => ?_⟩
    dsimp only [gName]
    rw [e12] at a20 a21 a31 a41
    have k06 : K1 p H G6 := (((k1.trans (K1.of s2)).trans k3).trans (K1.of s4)).trans (k5.trans k6)
    have hd6 := k06 _ _ hd (PenAt.tup pn hd)
    have g16 : G6 t1 = some (.tup [.str "short", .int a1]) := k6 _ _ (k5 _ _ (s4 _ _ (k3 _ _ g2 (PenAt.tup pn2 g2))) (PenAt.tup pn4 (s4 _ _ (k3 _ _ g2 (PenAt.tup pn2 g2))))) (PenAt.tup pn5 (k5 _ _ (s4 _ _ (k3 _ _ g2 (PenAt.tup pn2 g2))) (PenAt.tup pn4 (s4 _ _ (k3 _ _ g2 (PenAt.tup pn2 g2))))))
    have g26 : G6 t2 = some (.tup [.str "full", .int a2]) := k6 _ _ (k5 _ _ g4 (PenAt.tup pn4 g4)) (PenAt.tup pn5 (k5 _ _ g4 (PenAt.tup pn4 g4)))
    have fin : ∀ {G : Hp} {ys : List V} {t : Addr}, K1 p G6 G → PenAt G p → G t = some (.tup ys) → Ans6 wd n hs ys → Q (.ref t) G := fun k pn' g h => q _ _ _ _ _ _ hS h g pn' (k06.trans k)
    have tk : ∀ {G G' : Hp} {t : Addr} {ys : List V}, PenAt G p → K1 p G G' → G t = some (.tup ys) → G' t = some (.tup ys) := fun pn' k g => k _ _ g (PenAt.tup pn' g)
    have last : ∀ {G : Hp} (l : Addr) (ts : List (Addr × List V)), K1 p G6 G → PenAt G p → l ≠ p → G l = some (.lst (ts.map fun q => V.ref q.1)) → (∀ q ∈ ts, G q.1 = some (.tup q.2) ∧ Ans6 wd n hs q.2) → 0 < ts.length → ts.length ≤ 10 →
        ∃ ys, (SqL K G l ys ∨ SqT K G l ys) ∧ spTake [.ref p, .int ys.length] G (fun r G' => mIxL K (.ref l) r G' Q) E0 := fun {G} l ts k pn' nl gl ht h0 h10 => by
      refine ⟨_, .inl (SqL.of gl), p, _, rfl, pn', by rw [List.length_map]; omega, by rw [List.length_map]; omega, fun r G' r0 r1 pnF kF => ?_⟩
      obtain ⟨v, hv, hm⟩ := atI_some r0 r1
      obtain ⟨qq, hq, rfl⟩ := List.mem_map.mp hm
      exact ⟨_, SqL.of (kF _ _ gl nl), _, hv, fin (k.trans kF) pnF (tk pn' kF (ht qq hq).1) (ht qq hq).2⟩
    have app : ∀ {G : Hp} {h : Str} (l : Addr) (x1 x2 : Addr × List V), G6 l = none → Same G6 G → l ≠ p → G l = some (.lst [.ref x1.1, .ref x2.1]) → (G x1.1 = some (.tup x1.2) ∧ Ans6 wd n hs x1.2) → (G x2.1 = some (.tup x2.2) ∧ Ans6 wd n hs x2.2) → Ans6 wd n hs [.str "no", .str h] →
        ∀ t G', Same G G' → G' t = some (.tup [.str "no", .str h]) → ∃ ys, (SqL K (upd G' l (.lst [.ref x1.1, .ref x2.1, .ref t])) l ys ∨ SqT K (upd G' l (.lst [.ref x1.1, .ref x2.1, .ref t])) l ys) ∧ spTake [.ref p, .int ys.length] (upd G' l (.lst [.ref x1.1, .ref x2.1, .ref t])) (fun r G' => mIxL K (.ref l) r G' Q) E0 := fun {G h} l x1 x2 fr sG nl gl h1 h2 hz t G' s' g' => by
      have gl' := s' _ _ gl
      have kt : ∀ {c : Addr} {ys : List V}, G' c = some (.tup ys) → (upd G' l (.lst [.ref x1.1, .ref x2.1, .ref t])) c = some (.tup ys) := fun e => by rw [upd_ne (ne_of e gl' (fun z => nomatch z))]; exact e
      have pn6' := pn6
      obtain ⟨i0, j0, gp, rp⟩ := pn6'
      have pnG : PenAt (upd G' l (.lst [.ref x1.1, .ref x2.1, .ref t])) p := ⟨i0, j0, by rw [upd_ne nl.symm]; exact s' _ _ (sG _ _ gp), rp⟩
      refine last l [x1, x2, (t, [.str "no", .str h])] (fun a o e _ => by rw [upd_ne (fun z => by rw [z, fr] at e; cases e)]; exact s' _ _ (sG _ _ e)) pnG nl upd_same (fun q hq => ?_) (by simp) (by simp)
      simp only [List.mem_cons, List.not_mem_nil, or_false] at hq
      rcases hq with rfl | rfl | rfl
      · exact ⟨kt (s' _ _ h1.1), h1.2⟩
      · exact ⟨kt (s' _ _ h2.1), h2.2⟩
      · exact ⟨kt g', hz⟩
    cases hS with
    | pass a b c n =>
      refine ⟨by simp, fun u1 F1 e1 f1 => ⟨_, SqT.of (e1 _ _ hd6), _, rfl, by simp, fun u2 F2 e2 f2 => ⟨_, SqT.of (e2 _ _ (e1 _ _ hd6)), _, rfl, by simp, fun u3 F3 e3 f3 => ⟨szl rfl, fun l hl => ⟨p, 3, rfl, ((((pn6.same e1).same e2).same e3).same (same_upd hl)), by decide, by decide, fun r F4 r0 r1 pnF kF => ⟨_, SqL.of (kF _ _ upd_same (((((pn6.same e1).same e2).same e3).ne hl))), ?_⟩⟩⟩⟩⟩⟩
      have pnL := ((((pn6.same e1).same e2).same e3).same (same_upd (o := .lst [.ref u1, .ref u2, .ref u3]) hl))
      have sL := ((e1.trans e2).trans e3).trans (same_upd (o := .lst [.ref u1, .ref u2, .ref u3]) hl)
      have k := (K1.of (p := p) sL).trans kF
      have h3 : r = 0 ∨ r = 1 ∨ r = 2 := by omega
      rcases h3 with rfl | rfl | rfl
      · exact ⟨_, rfl, fin k pnF (tk pnL kF (same_upd hl _ _ (e3 _ _ (e2 _ _ f1)))) (.ok rfl)⟩
      · exact ⟨_, rfl, fin k pnF (tk pnL kF (same_upd hl _ _ (e3 _ _ f2))) (.no _ (.inr (.inr rfl)) (by simp))⟩
      · exact ⟨_, rfl, fin k pnF (tk pnL kF (same_upd hl _ _ f3)) (.no _ (.inr (.inr rfl)) (by simp))⟩
    | move a b n =>
      refine ⟨by simp, fun u3 F3 e3 f3 => ⟨szl rfl, fun l hl => ⟨p, 3, rfl, ((pn6.same e3).same (same_upd hl)), by decide, by decide, fun r F4 r0 r1 pnF kF => ⟨_, SqL.of (kF _ _ upd_same ((pn6.same e3).ne hl)), ?_⟩⟩⟩⟩
      have pnL := ((pn6.same e3).same (same_upd (o := .lst [.ref t1, .ref t2, .ref u3]) hl))
      have k := (K1.of (p := p) (e3.trans (same_upd (o := .lst [.ref t1, .ref t2, .ref u3]) hl))).trans kF
      have h3 : r = 0 ∨ r = 1 ∨ r = 2 := by omega
      rcases h3 with rfl | rfl | rfl
      · exact ⟨_, rfl, fin k pnF (tk pnL kF (same_upd hl _ _ (e3 _ _ g16))) (.short _ (.inr (.inr rfl)) a10 a11)⟩
      · exact ⟨_, rfl, fin k pnF (tk pnL kF (same_upd hl _ _ (e3 _ _ g26))) (.full _ (.inr (.inr rfl)) a20 a21)⟩
      · exact ⟨_, rfl, fin k pnF (tk pnL kF (same_upd hl _ _ f3)) (.both _ _ rfl a30 a31 a40 a41)⟩
    | one z a n h =>
      rcases h with rfl | rfl
      · refine ⟨by simp, fun u1 F1 e1 f1 => ⟨szl rfl, fun l hl => ?_⟩⟩
        dsimp only [gName]
        have pn1' := (pn6.same e1).same (same_upd (o := .lst [.ref u1, .ref t2]) hl)
        have sl := e1.trans (same_upd (o := .lst [.ref u1, .ref t2]) hl)
        have gl : (upd F1 l (.lst [.ref u1, .ref t2])) l = some (.lst [.ref u1, .ref t2]) := upd_same
        have nl : l ≠ p := (pn6.same e1).ne hl
        have fu : (upd F1 l (.lst [.ref u1, .ref t2])) u1 = some (.tup [.str "is", .int a4]) := same_upd hl _ _ f1
        generalize upd F1 l (.lst [.ref u1, .ref t2]) = F2 at pn1' sl gl fu ⊢
        refine ⟨by simp, fun w1 F3 e3 f3 => ⟨w1, _, rfl, .inr (SqT.of f3), rfl, rfl, ?_⟩⟩
        have h1 : inV (.str "add") [V.str "take", .str "send"] = false := rfl
        dsimp only
        rw [h1]
        refine ⟨by simp, fun w2 F4 e4 f4 => ⟨w2, _, rfl, .inr (SqT.of f4), rfl, rfl, ?_⟩⟩
        have h2 : inV (.str "add") [V.str "send", .str "fetch"] = false := rfl
        dsimp only
        rw [h2]
        have s4' := (sl.trans e3).trans e4
        refine last l [(u1, [.str "is", .int a4]), (t2, [.str "full", .int a2])] (K1.of s4') (pn6.same s4') nl (e4 _ _ (e3 _ _ gl)) (fun q hq => ?_) (by simp) (by simp)
        simp only [List.mem_cons, List.not_mem_nil, or_false] at hq
        rcases hq with rfl | rfl
        · exact ⟨e4 _ _ (e3 _ _ fu), .more _ (.inl rfl) a40 a41⟩
        · exact ⟨s4' _ _ g26, .full _ (.inl rfl) a20 a21⟩
      · refine ⟨by simp, fun u1 F1 e1 f1 => ⟨szl rfl, fun l hl => ?_⟩⟩
        dsimp only [gName]
        have pn1' := (pn6.same e1).same (same_upd (o := .lst [.ref u1, .ref t2]) hl)
        have sl := e1.trans (same_upd (o := .lst [.ref u1, .ref t2]) hl)
        have gl : (upd F1 l (.lst [.ref u1, .ref t2])) l = some (.lst [.ref u1, .ref t2]) := upd_same
        have nl : l ≠ p := (pn6.same e1).ne hl
        have fu : (upd F1 l (.lst [.ref u1, .ref t2])) u1 = some (.tup [.str "is", .int a4]) := same_upd hl _ _ f1
        generalize upd F1 l (.lst [.ref u1, .ref t2]) = F2 at pn1' sl gl fu ⊢
        refine ⟨by simp, fun w1 F3 e3 f3 => ⟨w1, _, rfl, .inr (SqT.of f3), rfl, rfl, ?_⟩⟩
        have h1 : inV (.str "take") [V.str "take", .str "send"] = true := rfl
        dsimp only
        rw [h1]
        refine ⟨by simp, fun u2 F4 e4 f4 => ⟨szl rfl, fun l2 hl2 => ?_⟩⟩
        dsimp only [gName]
        have s4' := (sl.trans e3).trans e4
        have s5' := s4'.trans (same_upd (o := .lst [.ref u2, .ref t1]) hl2)
        have gl2 : (upd F4 l2 (.lst [.ref u2, .ref t1])) l2 = some (.lst [.ref u2, .ref t1]) := upd_same
        have nl2 : l2 ≠ p := (pn6.same s4').ne hl2
        have fu2 : (upd F4 l2 (.lst [.ref u2, .ref t1])) u2 = some (.tup [.str "is", .int a3]) := same_upd hl2 _ _ f4
        generalize upd F4 l2 (.lst [.ref u2, .ref t1]) = F5 at s5' gl2 fu2 ⊢
        refine ⟨by simp, fun w2 F6 e6 f6 => ⟨w2, _, rfl, .inr (SqT.of f6), rfl, rfl, ?_⟩⟩
        have h2 : inV (.str "take") [V.str "send", .str "fetch"] = false := rfl
        dsimp only
        rw [h2]
        have s6' := s5'.trans e6
        refine last l2 [(u2, [.str "is", .int a3]), (t1, [.str "short", .int a1])] (K1.of s6') (pn6.same s6') nl2 (e6 _ _ gl2) (fun q hq => ?_) (by simp) (by simp)
        simp only [List.mem_cons, List.not_mem_nil, or_false] at hq
        rcases hq with rfl | rfl
        · exact ⟨e6 _ _ fu2, .less _ (.inl rfl) a30 a31⟩
        · exact ⟨s6' _ _ g16, .short _ (.inl rfl) a10 a11⟩
    | two z a b n h =>
      rcases h with rfl | rfl
      · refine ⟨by simp, fun u1 F1 e1 f1 => ⟨szl rfl, fun l hl => ?_⟩⟩
        dsimp only [gName]
        have sl := e1.trans (same_upd (o := .lst [.ref u1, .ref t2]) hl)
        have gl : (upd F1 l (.lst [.ref u1, .ref t2])) l = some (.lst [.ref u1, .ref t2]) := upd_same
        have nl : l ≠ p := (pn6.same e1).ne hl
        have fu : (upd F1 l (.lst [.ref u1, .ref t2])) u1 = some (.tup [.str "is", .int a4]) := same_upd hl _ _ f1
        generalize upd F1 l (.lst [.ref u1, .ref t2]) = F2 at sl gl fu ⊢
        refine ⟨by simp, fun w1 F3 e3 f3 => ⟨w1, _, rfl, .inr (SqT.of f3), rfl, rfl, ?_⟩⟩
        have h1 : inV (.str "send") [V.str "take", .str "send"] = true := rfl
        dsimp only
        rw [h1]
        refine ⟨by simp, fun u2 F4 e4 f4 => ⟨szl rfl, fun l2 hl2 => ?_⟩⟩
        dsimp only [gName]
        have s4' := (sl.trans e3).trans e4
        have s5' := s4'.trans (same_upd (o := .lst [.ref u2, .ref t1]) hl2)
        have gl2 : (upd F4 l2 (.lst [.ref u2, .ref t1])) l2 = some (.lst [.ref u2, .ref t1]) := upd_same
        have nl2 : l2 ≠ p := (pn6.same s4').ne hl2
        have fu2 : (upd F4 l2 (.lst [.ref u2, .ref t1])) u2 = some (.tup [.str "is", .int a3]) := same_upd hl2 _ _ f4
        generalize upd F4 l2 (.lst [.ref u2, .ref t1]) = F5 at s5' gl2 fu2 ⊢
        refine ⟨by simp, fun w2 F6 e6 f6 => ⟨w2, _, rfl, .inr (SqT.of f6), rfl, rfl, ?_⟩⟩
        have h2 : inV (.str "send") [V.str "send", .str "fetch"] = true := rfl
        dsimp only
        rw [h2]
        have s6' := s5'.trans e6
        have gl6 := e6 _ _ gl2
        exact ⟨.inl ⟨rfl, _, SqL.of gl6⟩, _, SqT.of (s6' _ _ hd6), _, rfl, by simp, fun t F7 e7 f7 => ⟨l2, _, _, rfl, rfl, e7 _ _ gl6, by show 2 < sizeLine; decide, app l2 (u2, [.str "is", .int a3]) (t1, [.str "short", .int a1]) (by cases e : G6 l2 with | none => rfl | some o => (rw [s4' _ _ e] at hl2; cases hl2)) s6' nl2 gl6 ⟨e6 _ _ fu2, .less _ (.inr rfl) a30 a31⟩ ⟨s6' _ _ g16, .short _ (.inr (.inl rfl)) a10 a11⟩ (.no _ (.inl rfl) List.mem_cons_self) t F7 e7 f7⟩⟩
      · refine ⟨by simp, fun u1 F1 e1 f1 => ⟨szl rfl, fun l hl => ?_⟩⟩
        dsimp only [gName]
        have sl := e1.trans (same_upd (o := .lst [.ref u1, .ref t2]) hl)
        have gl : (upd F1 l (.lst [.ref u1, .ref t2])) l = some (.lst [.ref u1, .ref t2]) := upd_same
        have nl : l ≠ p := (pn6.same e1).ne hl
        have fu : (upd F1 l (.lst [.ref u1, .ref t2])) u1 = some (.tup [.str "is", .int a4]) := same_upd hl _ _ f1
        generalize upd F1 l (.lst [.ref u1, .ref t2]) = F2 at sl gl fu ⊢
        refine ⟨by simp, fun w1 F3 e3 f3 => ⟨w1, _, rfl, .inr (SqT.of f3), rfl, rfl, ?_⟩⟩
        have h1 : inV (.str "fetch") [V.str "take", .str "send"] = false := rfl
        dsimp only
        rw [h1]
        refine ⟨by simp, fun w2 F6 e6 f6 => ⟨w2, _, rfl, .inr (SqT.of f6), rfl, rfl, ?_⟩⟩
        have h2 : inV (.str "fetch") [V.str "send", .str "fetch"] = true := rfl
        dsimp only
        rw [h2]
        have s6' := (sl.trans e3).trans e6
        have gl6 := e6 _ _ (e3 _ _ gl)
        exact ⟨.inl ⟨rfl, _, SqL.of gl6⟩, _, SqT.of (s6' _ _ hd6), _, rfl, by simp, fun t F7 e7 f7 => ⟨l, _, _, rfl, rfl, e7 _ _ gl6, by show 2 < sizeLine; decide, app l (u1, [.str "is", .int a4]) (t2, [.str "full", .int a2]) (by cases e : G6 l with | none => rfl | some o => (rw [e1 _ _ e] at hl; cases hl)) s6' nl gl6 ⟨e6 _ _ (e3 _ _ fu), .more _ (.inr rfl) a40 a41⟩ ⟨s6' _ _ g26, .full _ (.inr (.inl rfl)) a20 a21⟩ (.no _ (.inr (.inl rfl)) List.mem_cons_self) t F7 e7 f7⟩⟩
end
end KL
namespace KL
open PySem L2
section
variable {P : Program} {w : World} {K : W.Frag} {mg : Str → Option Value} {base : Heap}
theorem ok_kinit {C : Addr} (B : KsT K C) (D : ClsAt K mg "Keys" C "Keys.__init__" s_Keys___init__ ["self", "life"] [[]]) : ∀ d ∈ ([[]] : List (List V)), Mkr P w K mg base 1 "Keys" C ["self", "life"] d (spKInit C) := by
  refine D.go sc_Keys___init__ (fun vs H Q E h => ?_) (fun f cdv A outer s H vs Q E hr h => ?_)
  · obtain ⟨p, dx, life, rfl, _⟩ := h; rfl
  · obtain ⟨p, dx, life, rfl, hp, q⟩ := h
    refine ⟨_, (R.scons (R.ksfld (K := K) (R.v 0) (R.v 1))
      (R.scons (R.ksfld (K := K) (R.v 0) R.dnewT)
      (R.sone (R.ksfld (K := K) (R.v 0) R.dnewT)))), ?_⟩
    refine ⟨C, dx, [], hp, B.cl, B.nL, (by show 0 < 1000; decide), ?_⟩
    have e0 : putF "life" (.int life) [] = [(("life" : Str), V.int life)] := rfl
    dsimp only
    rw [e0]
    intro d1 hd1
    have g0 : (upd H p (.ins C dx [("life", .int life)])) p = some (.ins C dx [("life", .int life)]) := upd_same
    have k0 : ∀ b o, H b = some o → b ≠ p → (upd H p (.ins C dx [("life", .int life)])) b = some o := fun b o e hb => by rw [upd_ne hb]; exact e
    have f1 : H d1 = none := by
      cases e : H d1 with
      | none => rfl
      | some o =>
        by_cases z : d1 = p
        · rw [z, g0] at hd1; cases hd1
        · rw [k0 _ _ e z] at hd1; cases hd1
    generalize upd H p (.ins C dx [("life", .int life)]) = H0 at g0 k0 hd1 ⊢
    have np1 := ne_of_none g0 hd1
    refine ⟨C, dx, _, (by rw [upd_ne np1]; exact g0), B.cl, B.nB, (by show 1 < 1000; decide), ?_⟩
    have e1 : putF "begun_ones" (.ref d1) [(("life" : Str), V.int life)] = [(("life" : Str), V.int life), ("begun_ones", .ref d1)] := by
      unfold putF; rw [if_neg (by decide +kernel)]; rfl
    dsimp only
    rw [e1]
    have g1 : (upd (upd H0 d1 (.dT [])) p (.ins C dx [("life", .int life), ("begun_ones", .ref d1)])) p = some (.ins C dx [("life", .int life), ("begun_ones", .ref d1)]) := upd_same
    have a1 : (upd (upd H0 d1 (.dT [])) p (.ins C dx [("life", .int life), ("begun_ones", .ref d1)])) d1 = some (.dT []) := by rw [upd_ne np1.symm]; exact upd_same
    have k1 : ∀ b o, H0 b = some o → b ≠ p → (upd (upd H0 d1 (.dT [])) p (.ins C dx [("life", .int life), ("begun_ones", .ref d1)])) b = some o := fun b o e hb => by rw [upd_ne hb, upd_ne (ne_of_none e hd1)]; exact e
    generalize upd (upd H0 d1 (.dT [])) p (.ins C dx [("life", .int life), ("begun_ones", .ref d1)]) = H1 at g1 a1 k1 ⊢
    intro d2 hd2
    have np2 := ne_of_none g1 hd2
    refine ⟨C, dx, _, (by rw [upd_ne np2]; exact g1), B.cl, B.nS, (by show 2 < 1000; decide), ?_⟩
    have e2 : putF "settled_ones" (.ref d2) [(("life" : Str), V.int life), ("begun_ones", .ref d1)] = [(("life" : Str), V.int life), ("begun_ones", .ref d1), ("settled_ones", .ref d2)] := by
      unfold putF; rw [if_neg (by decide +kernel)]; unfold putF; rw [if_neg (by decide +kernel)]; rfl
    dsimp only
    rw [e2]
    have n12 : d1 ≠ d2 := ne_of_none a1 hd2
    have f2 : H d2 = none := by
      cases e : H d2 with
      | none => rfl
      | some o => rw [k1 _ _ (k0 _ _ e np2.symm) np2.symm] at hd2; cases hd2
    refine q _ ⟨dx, d1, d2⟩ f1 f2 ⟨upd_same, ⟨[], ?_, Dic.nil⟩, ⟨[], ?_, Dic.nil⟩, n12⟩ (fun b o e hb => ?_)
    · show (upd _ p _) d1 = _
      rw [upd_ne np1.symm, upd_ne n12]; exact a1
    · show (upd _ p _) d2 = _
      rw [upd_ne np2.symm]; exact upd_same
    · rw [upd_ne hb, upd_ne (ne_of_none (k1 _ _ (k0 _ _ e hb) hb) hd2)]; exact k1 _ _ (k0 _ _ e hb) hb
theorem ok_alive (D : DefAt K mg "is_alive" s_is_alive ["since", "life", "turn"]) : Callee P w K mg base 1 "is_alive" ["since", "life", "turn"] spAlive := by
  refine D.go sc_is_alive (fun vs H Q E h => ?_) (fun f cdv A outer s H vs Q E hr h => ?_)
  · obtain ⟨t, l, n, rfl, _⟩ := h; rfl
  · obtain ⟨t, l, n, rfl, q⟩ := h
    refine ⟨_, (R.sone (R.ret (R.cmp R.gt (R.op R.add (R.v 0) (R.v 1)) (R.v 2)))), ?_⟩
    exact q
def spIsKeptR (C : Addr) : Sp := fun vs H Q _ => ∃ (p : Addr) (a : KF) (life : Int) (m : KM) (L : Nat) (sk : List (List Key × V)) (t : Addr) (q : Str × Str) (now n w : Int) (d z : Addr), vs = [.ref p, .ref t, .int now] ∧ H p = some (.ins C a.dx (kfs a life)) ∧ Rd H a.ds (.dT sk) ∧ Dic H sk m fS L ∧ H t = some (.tup [.str q.1, .str q.2]) ∧ m q = some (.kept n w d z) ∧ Q (.bl (decide (w + life > now))) H
theorem DGet.rd {H : Hp} {a b : Addr} {kvs : List (List Key × V)} {k : List Key} (e : Rd H a (.dT kvs)) (eb : H b = some (.tup (k.map kV))) : DGet H a (.ref b) (valV kvs k) := .inr ⟨kvs, k, b, e, rfl, eb, rfl⟩
theorem ok_isKept {C : Addr} (B : KsT K C) (c_is_alive : Callee P w K mg base 1 "is_alive" ["since", "life", "turn"] spAlive) (D : MethAt K C "is_kept" "Keys.is_kept" s_Keys_is_kept ["self", "pair", "turn"]) : Mth P w K mg base 2 C "is_kept" ["self", "pair", "turn"] (spIsKeptR C) := by
  refine D.go sc_Keys_is_kept (fun vs H Q E h => ?_) (fun f cdv A outer s H vs Q E hr h => ?_)
  · obtain ⟨p, a, life, m, L, sk, t, q, now, n, w', d, z, rfl, _⟩ := h; rfl
  · obtain ⟨p, a, life, m, L, sk, t, q, now, n, w', d, z, rfl, hp, gs, ds, gt, hm, Q0⟩ := h
    obtain ⟨u, hv, gu⟩ := ds.at hm (rfl : fS (.kept n w' d z) = some _)
    have hu1 := hu_of hr
    have hr_is_alive := hr
    have dg := DGet.rd gs (pk_tup gt)
    rw [hv] at dg
    refine ⟨_, (R.sone (R.ret (R.fn c_is_alive hr_is_alive rfl (R.cons (R.ix (R.kiT (K := K)) (R.dix hu1 (R.kfld (K := K) (R.v 0)) (R.v 1)) R.int) (R.cons (R.kfld (K := K) (R.v 0)) (R.cons (R.v 2) R.nil)))))), ?_⟩
    exact ⟨C, a.dx, _, .ref a.ds, hp, B.cl, B.nS, kf_s a life, a.ds, .ref u, rfl, dg, _, SqT.of gu, _, rfl, C, a.dx, _, .int life, hp, B.cl, B.nL, kf_l a life, w', life, now, rfl, Q0⟩
theorem ok_look {C : Addr} (B : KsT K C) (c_Keys_is_kept : Mth P w K mg base 2 C "is_kept" ["self", "pair", "turn"] (spIsKeptR C)) (D : MethAt K C "look" "Keys.look" s_Keys_look ["self", "asker", "key", "turn"]) : Mth P w K mg base 3 C "look" ["self", "asker", "key", "turn"] (spLook C) := by
  refine D.go sc_Keys_look (fun vs H Q E h => ?_) (fun f cdv A outer s H vs Q E hr h => ?_)
  · obtain ⟨p, a, life, m, L, q, now, rfl, _⟩ := h; rfl
  · obtain ⟨p, a, life, m, L, q, now, rfl, ht, Q0⟩ := h
    have hu1 := hu_of hr
    have hr_Keys_is_kept := hr
    refine ⟨_, (R.scons (R.set (i := 4) sc_Keys_look.nd (R.wtup (R.cons (R.v 1) (R.cons (R.v 2) R.nil))))
      (R.scons (R.ife (R.tcmp (R.inT hu1) (R.v 4) (R.kfld (K := K) (R.v 0)))
      (R.sone (R.ret (R.op R.catT (R.wtup (R.cons R.str R.nil)) (R.dix hu1 (R.kfld (K := K) (R.v 0)) (R.v 4)))))
      R.snil)
      (R.scons (R.ife (R.tw (R.wand (R.tcmp (R.inT hu1) (R.v 4) (R.kfld (K := K) (R.v 0))) (R.wand1 (R.val (R.meth c_Keys_is_kept hr_Keys_is_kept (R.v 0) (R.cons (R.v 4) (R.cons (R.v 3) R.nil)))))))
      (R.scons (R.set (i := 5) sc_Keys_look.nd (R.dix hu1 (R.kfld (K := K) (R.v 0)) (R.v 4)))
      (R.sone (R.ret (R.wtup (R.cons R.str (R.cons (R.ix (R.kiT (K := K)) (R.v 5) R.int) (R.cons (R.ix (R.kiT (K := K)) (R.v 5) R.int) (R.cons (R.ix (R.kiT (K := K)) (R.v 5) R.int) R.nil))))))))
      R.snil)
      (R.sone (R.ret (R.wtup (R.cons R.str R.nil))))))), ?_⟩
    refine ⟨by simp, fun t G s1 gt => ?_⟩
    dsimp only [gName]
    have ht1 := ht.same s1
    obtain ⟨bk, gb, db⟩ := ht1.hb
    obtain ⟨sk, gs, ds⟩ := ht1.hs
    have dgb := DGet.t gb (pk_tup gt)
    have dgs := DGet.t gs (pk_tup gt)
    cases hm : m q with
    | none =>
      rw [db.no (fun e z => by rw [hm] at z; cases z)] at dgb
      rw [ds.no (fun e z => by rw [hm] at z; cases z)] at dgs
      rw [hm] at Q0
      refine ⟨C, a.dx, _, .ref a.db, ht1.hp, B.cl, B.nB, kf_b a life, none, dgb, ?_⟩
      refine ⟨C, a.dx, _, .ref a.ds, ht1.hp, B.cl, B.nS, kf_s a life, none, dgs, ?_⟩
      exact ⟨by simp, fun t2 G2 s2 g2 => Q0 t2 G2 (s1.trans s2) g2⟩
    | some e =>
      rw [hm] at Q0
      cases e with
      | busy n d =>
        obtain ⟨u, hv, gu⟩ := db.at hm (rfl : fB (.busy n d) = some _)
        rw [hv] at dgb
        refine ⟨C, a.dx, _, .ref a.db, ht1.hp, B.cl, B.nB, kf_b a life, _, dgb, ?_⟩
        refine ⟨by simp, fun t2 G2 s2 g2 => ⟨C, a.dx, _, .ref a.db, s2 _ _ ht1.hp, B.cl, B.nB, kf_b a life, a.db, .ref u, rfl, ?_, _, _, g2, s2 _ _ gu, by simp, fun t3 G3 s3 g3 => Q0 t3 G3 ((s1.trans s2).trans s3) g3⟩⟩
        have := DGet.t (s2 _ _ gb) (pk_tup (s2 _ _ gt))
        rw [hv] at this
        exact this
      | kept n w' d z =>
        obtain ⟨u, hv, gu⟩ := ds.at hm (rfl : fS (.kept n w' d z) = some _)
        rw [hv] at dgs
        rw [db.no (fun e h => by rw [hm] at h; cases h; rfl)] at dgb
        refine ⟨C, a.dx, _, .ref a.db, ht1.hp, B.cl, B.nB, kf_b a life, none, dgb, ?_⟩
        refine ⟨C, a.dx, _, .ref a.ds, ht1.hp, B.cl, B.nS, kf_s a life, _, dgs, ?_⟩
        refine ⟨a.dx, _, ht1.hp, kf_no a life (by decide +kernel) (by decide +kernel) (by decide +kernel), p, a, life, m, L, sk, t, q, now, n, w', d, z, rfl, ht1.hp, .inl gs, ds, gt, hm, ?_⟩
        show if decide (w' + life > now) = true then _ else _
        refine if_b (fun hb => ?_) (fun hb => ?_)
        · have hb' := of_decide_eq_true hb
          refine ⟨C, a.dx, _, .ref a.ds, ht1.hp, B.cl, B.nS, kf_s a life, a.ds, .ref u, rfl, dgs, ?_⟩
          dsimp only [gName]
          refine ⟨_, SqT.of gu, _, rfl, _, SqT.of gu, _, rfl, _, SqT.of gu, _, rfl, by simp, fun t2 G2 s2 g2 => Q0 t2 G2 (s1.trans s2) ?_⟩
          show G2 t2 = some (.tup (if w' + life > now then _ else _))
          rw [if_pos hb']
          exact g2
        · have hb' := of_decide_eq_false hb
          refine ⟨by simp, fun t2 G2 s2 g2 => Q0 t2 G2 (s1.trans s2) ?_⟩
          show G2 t2 = some (.tup (if w' + life > now then _ else _))
          rw [if_neg hb']
          exact g2
def spEndX (C CN : Addr) : Sp := fun vs H Q E => ∃ (p : Addr) (a : KF) (life : Int) (m : KM) (L : Nat) (t : Addr) (q : Str × Str), vs = [.ref p, .ref t] ∧ KyAt C H p a life m L ∧ H t = some (.tup [.str q.1, .str q.2]) ∧
  (∀ n d, m q = some (.busy n d) → ∀ u H', KyAt C H' p a life (m.set q none) L → FrK H H' a → H' u = some (.tup [.int n, .ref d]) → Q (.ref u) H') ∧
  ((∀ n d, m q ≠ some (.busy n d)) → E (.ref CN) none H)
theorem notB {m : KM} {q : Str × Str} (h : ∀ n d, m q ≠ some (.busy n d)) : ∀ e, m q = some e → fB e = none := fun e he => by
  cases e with
  | busy n' d' => exact absurd he (h n' d')
  | kept => rfl
theorem busyOr (m : KM) (q : Str × Str) : (∃ n d, m q = some (.busy n d)) ∨ ∀ n d, m q ≠ some (.busy n d) := by
  cases h : m q with
  | none => exact .inr fun _ _ z => nomatch z
  | some e =>
    cases e with
    | busy n d => exact .inl ⟨n, d, rfl⟩
    | kept => exact .inr fun _ _ z => nomatch z
theorem ok_endX {C CN : Addr} (T : Txt K mg) (B : KsT K C) (X_NoAsk : XCls K mg "NoAsk" CN) (D : MethAt K C "end" "Keys.end" s_Keys_end ["self", "pair"]) : MthX P w K mg base 1 C "end" ["self", "pair"] (spEndX C CN) := by
  refine D.goX sc_Keys_end (fun vs H Q E h => ?_) (fun f cdv A outer s H vs Q E hr h => ?_)
  · obtain ⟨p, a, life, m, L, t, q, rfl, _⟩ := h; rfl
  · obtain ⟨p, a, life, m, L, t, q, rfl, ht, gt, Q0, E0⟩ := h
    have hu1 := hu_of hr
    obtain ⟨bk, gb, db⟩ := ht.hb
    obtain ⟨sk, gs, ds⟩ := ht.hs
    have dgb := DGet.t gb (pk_tup gt)
    refine ⟨_, (R.scons (R.ife (R.tcmp (R.notInT hu1) (R.v 1) (R.kfld (K := K) (R.v 0)))
      (R.sone (R.raise X_NoAsk leaves_cx rfl (R.cons R.str R.nil)))
      R.snil)
      (R.sone (R.ret (R.dpopT1 hu1 (R.kfld (K := K) (R.v 0)) (R.v 1))))), ?_⟩
    rcases busyOr m q with ⟨n, d, hm⟩ | hno
    · obtain ⟨u, hv, gu⟩ := db.at hm (rfl : fB (.busy n d) = some _)
      rw [hv] at dgb
      refine ⟨C, a.dx, _, .ref a.db, ht.hp, B.cl, B.nB, kf_b a life, _, dgb, ?_⟩
      refine ⟨C, a.dx, _, .ref a.db, ht.hp, B.cl, B.nB, kf_b a life, a.db, rfl, .inr ⟨bk, .inl gb⟩, bk, pk q, t, .ref u, gb, rfl, pk_tup gt, hv, ?_⟩
      have kt : ∀ b xs, H b = some (.tup xs) → (upd H a.db (.dT (dropK bk (pk q)))) b = some (.tup xs) := fun b xs e => by rw [upd_ne (ne_of e gb (fun z => nomatch z))]; exact e
      have h2 : ∀ r, r ≠ q → (m.set q none) r = m r := fun r hr => KM.set_ne hr
      have h1 : ∀ e, (m.set q none) q = some e → False := fun e he => by rw [KM.set_same] at he; cases he
      refine Q0 n d hm u _ (ht.new (by rw [upd_ne (ne_of ht.hp gb (fun z => nomatch z))]) upd_same (by rw [upd_ne ht.ne.symm]; exact gs) kt ((db.drop (fun e he => (h1 e he).elim) h2).keep kt) ((ds.skip (fun e he => ?_) (fun e he => (h1 e he).elim) h2).keep kt)) (fun c o e n1 n2 => by rw [upd_ne n1]; exact e) (kt _ _ gu)
      rw [hm] at he
      cases he
      rfl
    · rw [db.no (notB hno)] at dgb
      refine ⟨C, a.dx, _, .ref a.db, ht.hp, B.cl, B.nB, kf_b a life, none, dgb, ?_⟩
      exact ⟨by decide, E0 hno⟩
def spDropX (C CN : Addr) : Sp := fun vs H Q E => ∃ (p : Addr) (a : KF) (life : Int) (m : KM) (L : Nat) (q : Str × Str), vs = [.ref p, .str q.1, .str q.2] ∧ KyAt C H p a life m L ∧
  (∀ n d, m q = some (.busy n d) → ∀ H', KyAt C H' p a life (m.set q none) L → FrK H H' a → Q .non H') ∧
  ((∀ n d, m q ≠ some (.busy n d)) → ∀ H', Same H H' → E (.ref CN) none H')
theorem ok_dropX {C CN : Addr} (B : KsT K C) (c_Keys_end : MthX P w K mg base 1 C "end" ["self", "pair"] (spEndX C CN)) (D : MethAt K C "drop" "Keys.drop" s_Keys_drop ["self", "asker", "key"]) : MthX P w K mg base 2 C "drop" ["self", "asker", "key"] (spDropX C CN) := by
  refine D.goX sc_Keys_drop (fun vs H Q E h => ?_) (fun f cdv A outer s H vs Q E hr h => ?_)
  · obtain ⟨p, a, life, m, L, q, rfl, _⟩ := h; rfl
  · obtain ⟨p, a, life, m, L, q, rfl, ht, Q0, E0⟩ := h
    have hr_Keys_end := hr
    refine ⟨_, (R.sone (R.expr (R.methX c_Keys_end hr_Keys_end takes_pass (R.v 0) (R.cons (R.wtup (R.cons (R.v 1) (R.cons (R.v 2) R.nil))) R.nil)))), ?_⟩
    refine ⟨a.dx, _, ht.hp, kf_no a life (by decide +kernel) (by decide +kernel) (by decide +kernel), by simp, fun t G s1 gt => ⟨p, a, life, m, L, t, q, rfl, ht.same s1, gt, fun n d hm u H' h' fr gu => ?_, fun hno => E0 hno G s1⟩⟩
    exact Q0 n d hm H' h' (fun c o e n1 n2 => fr _ _ (s1 _ _ e) n1 n2)
def spSettleX (C CN : Addr) : Sp := fun vs H Q E => ∃ (p : Addr) (a : KF) (life : Int) (m : KM) (L : Nat) (q : Str × Str) (w : Int) (z : Addr), vs = [.ref p, .str q.1, .str q.2, .int w, .ref z] ∧ KyAt C H p a life m L ∧ L ≤ 500 ∧
  (∀ n d, m q = some (.busy n d) → ∀ H', KyAt C H' p a life (m.set q (some (.kept n w d z))) (L + 1) → FrK H H' a → Q .non H') ∧
  ((∀ n d, m q ≠ some (.busy n d)) → ∀ H', Same H H' → E (.ref CN) none H')
theorem ok_settleX {C CN : Addr} (B : KsT K C) (c_Keys_end : MthX P w K mg base 1 C "end" ["self", "pair"] (spEndX C CN)) (D : MethAt K C "settle" "Keys.settle" s_Keys_settle ["self", "asker", "key", "turn", "answer"]) : MthX P w K mg base 2 C "settle" ["self", "asker", "key", "turn", "answer"] (spSettleX C CN) := by
  refine D.goX sc_Keys_settle (fun vs H Q E h => ?_) (fun f cdv A outer s H vs Q E hr h => ?_)
  · obtain ⟨p, a, life, m, L, q, w', z, rfl, _⟩ := h; rfl
  · obtain ⟨p, a, life, m, L, q, w', z, rfl, ht, hL, Q0, E0⟩ := h
    have hu1 := hu_of hr
    have hr_Keys_end := hr
    refine ⟨_, (R.scons (R.set (i := 5) sc_Keys_settle.nd (R.methX c_Keys_end hr_Keys_end takes_pass (R.v 0) (R.cons (R.wtup (R.cons (R.v 1) (R.cons (R.v 2) R.nil))) R.nil)))
      (R.sone (R.asg (R.wtup (R.cons (R.ix (R.kiT (K := K)) (R.v 5) R.int) (R.cons (R.v 3) (R.cons (R.ix (R.kiT (K := K)) (R.v 5) R.int) (R.cons (R.v 4) R.nil))))) (R.gsub (R.kfld (K := K) (R.v 0)) (R.wtup (R.cons (R.v 1) (R.cons (R.v 2) R.nil))) (R.setD hu1))))), ?_⟩
    refine ⟨a.dx, _, ht.hp, kf_no a life (by decide +kernel) (by decide +kernel) (by decide +kernel), by simp, fun t G s1 gt => ⟨p, a, life, m, L, t, q, rfl, ht.same s1, gt, fun n d hm u G2 h2 fr gu => ?_, fun hno => E0 hno G s1⟩⟩
    dsimp only [gName]
    refine ⟨_, SqT.of gu, _, rfl, _, SqT.of gu, _, rfl, by simp, fun t3 G3 s3 g3 => ?_⟩
    have h3 := h2.same s3
    obtain ⟨bk, gb, db⟩ := h3.hb
    obtain ⟨sk, gs, ds⟩ := h3.hs
    refine ⟨C, a.dx, _, .ref a.ds, h3.hp, B.cl, B.nS, kf_s a life, by simp, fun t4 G4 s4 g4 => ⟨a.ds, _, rfl, DPut.t (s4 _ _ gs) (pk_tup g4) (Nat.lt_of_le_of_lt ds.len (Nat.lt_of_le_of_lt hL (by decide))), ?_⟩⟩
    have kt : ∀ b xs, G4 b = some (.tup xs) → (upd G4 a.ds (.dT (putK sk (pk q) (.ref t3)))) b = some (.tup xs) := fun b xs e => by rw [upd_ne (ne_of e (s4 _ _ gs) (fun z => nomatch z))]; exact e
    have kt' : ∀ b xs, G3 b = some (.tup xs) → (upd G4 a.ds (.dT (putK sk (pk q) (.ref t3)))) b = some (.tup xs) := fun b xs e => kt _ _ (s4 _ _ e)
    have e2 : ∀ r, r ≠ q → (m.set q (some (.kept n w' d z))) r = (m.set q none) r := fun r hr => by rw [KM.set_ne hr, KM.set_ne hr]
    refine Q0 n d hm _ (h3.new (by rw [upd_ne (ne_of (s4 _ _ h3.hp) (s4 _ _ gs) (fun z => nomatch z)), s4 _ _ h3.hp, h3.hp]) (by rw [upd_ne h3.ne]; exact s4 _ _ gb) upd_same kt' (((db.skip (fun e he => ?_) (fun e he => ?_) e2).more).keep kt') (((ds.keep (fun b xs e => s4 _ _ e)).put (rfl : fS (.kept n w' d z) = some _) (s4 _ _ g3) KM.set_same e2).keep kt)) (fun c o e n1 n2 => by rw [upd_ne n2]; exact s4 _ _ (s3 _ _ (fr _ _ (s1 _ _ e) n1 n2)))
    · rw [KM.set_same] at he; cases he
    · rw [KM.set_same] at he; cases he; rfl
theorem ok_binit {CB fB : Addr} (XA : XAtt K CB "number") (D : InitAt K fB "Busy.__init__" s_Busy___init__ ["self", "number"]) : XInit P w K mg base 1 CB fB "number" := by
  refine D.go sc_Busy___init__ rfl (fun cdv A outer s H vs Q E hr h => ?_)
  obtain ⟨e, t, v, rfl, he, q⟩ := h
  exact ⟨_, (R.sone (R.ksfldX (K := K) (R.v 0) (R.v 1))), CB, t, he, XA, q⟩
def spBeginX (C CB : Addr) : Sp := fun vs H Q E => ∃ (p : Addr) (a : KF) (life : Int) (m : KM) (L : Nat) (q : Str × Str) (n : Int) (d : Addr), vs = [.ref p, .str q.1, .str q.2, .int n, .ref d] ∧ KyAt C H p a life m L ∧ L ≤ 500 ∧
  ((∀ n' d', m q ≠ some (.busy n' d')) → ∀ H', KyAt C H' p a life (m.set q (some (.busy n d))) (L + 1) → FrK H H' a → Q .non H') ∧
  (∀ n' d', m q = some (.busy n' d') → ∀ dx H', Same H H' → H' dx = some (.xd [("number", .int n')]) → E (.ref CB) (some dx) H')
theorem ok_beginX {C CB fI : Addr} (B : KsT K C) (X_Busy : XClsI K mg "Busy" CB fI) (i_Busy : XInit P w K mg base 1 CB fI "number") (D : MethAt K C "begin" "Keys.begin" s_Keys_begin ["self", "asker", "key", "number", "deed"]) : MthX P w K mg base 3 C "begin" ["self", "asker", "key", "number", "deed"] (spBeginX C CB) := by
  refine D.goX sc_Keys_begin (fun vs H Q E h => ?_) (fun f cdv A outer s H vs Q E hr h => ?_)
  · obtain ⟨p, a, life, m, L, q, n, d, rfl, _⟩ := h; rfl
  · obtain ⟨p, a, life, m, L, q, n, d, rfl, ht, hL, Q1, E0⟩ := h
    have hu1 := hu_of hr
    have hr_Busy : Room 2 _ := hr
    refine ⟨_, (R.scons (R.set (i := 5) sc_Keys_begin.nd (R.wtup (R.cons (R.v 1) (R.cons (R.v 2) R.nil))))
      (R.scons (R.ife (R.tcmp (R.inT hu1) (R.v 5) (R.kfld (K := K) (R.v 0)))
      (R.sone (R.raiseI X_Busy i_Busy hr_Busy leaves_here rfl rfl (R.cons (R.ix (R.kiT (K := K)) (R.dix hu1 (R.kfld (K := K) (R.v 0)) (R.v 5)) R.int) R.nil)))
      R.snil)
      (R.scons (R.expr (R.dpopT2 hu1 (R.kfld (K := K) (R.v 0)) (R.v 5) R.non))
      (R.sone (R.asg (R.wtup (R.cons (R.v 3) (R.cons (R.v 4) R.nil))) (R.gsub (R.kfld (K := K) (R.v 0)) (R.v 5) (R.setD hu1))))))), ?_⟩
    refine ⟨by simp, fun t G s1 gt => ?_⟩
    dsimp only [gName]
    have ht1 := ht.same s1
    obtain ⟨bk, gb, db⟩ := ht1.hb
    obtain ⟨sk, gs, ds⟩ := ht1.hs
    have dgb := DGet.t gb (pk_tup gt)
    rcases busyOr m q with ⟨n', d', hm⟩ | hm
    · obtain ⟨u, hv, gu⟩ := db.at hm (rfl : fB (.busy n' d') = some _)
      rw [hv] at dgb
      refine ⟨C, a.dx, _, .ref a.db, ht1.hp, B.cl, B.nB, kf_b a life, _, dgb, ?_⟩
      refine ⟨C, a.dx, _, .ref a.db, ht1.hp, B.cl, B.nB, kf_b a life, a.db, .ref u, rfl, dgb, _, SqT.of gu, _, rfl, _, rfl, fun dx hdx => ?_⟩
      exact E0 n' d' hm dx _ (s1.trans (same_upd hdx)) upd_same
    have hB := notB hm
    have Q0 := Q1 hm
    rw [db.no hB] at dgb
    refine ⟨C, a.dx, _, .ref a.db, ht1.hp, B.cl, B.nB, kf_b a life, none, dgb, ?_⟩
    have nn : ∀ e, (m.set q none) q = some e → False := fun e he => by rw [KM.set_same] at he; cases he
    have ne0 : ∀ r, r ≠ q → (m.set q none) r = m r := fun r hr => KM.set_ne hr
    have step : ∀ sk' G', G' = upd G a.ds (.dT sk') ∨ (G' = G ∧ sk' = sk) → Dic G sk' (m.set q none) fS L → ∃ _ : True, KyAt C G' p a life (m.set q none) L ∧ G' a.ds = some (.dT sk') ∧ (∀ c o, G c = some o → c ≠ a.ds → G' c = some o) := by
      intro sk' G' hG d'
      rcases hG with rfl | ⟨rfl, rfl⟩
      · have kt : ∀ b xs, G b = some (.tup xs) → (upd G a.ds (.dT sk')) b = some (.tup xs) := fun b xs e => by rw [upd_ne (ne_of e gs (fun z => nomatch z))]; exact e
        exact ⟨trivial, ht1.new (by rw [upd_ne (ne_of ht1.hp gs (fun z => nomatch z))]) (by rw [upd_ne ht1.ne]; exact gb) upd_same kt ((db.skip hB (fun e he => (nn e he).elim) ne0).keep kt) (d'.keep kt), upd_same, fun c o e hn => by rw [upd_ne hn]; exact e⟩
      · exact ⟨trivial, ht1.new rfl gb gs (fun b xs e => e) (db.skip hB (fun e he => (nn e he).elim) ne0) d', gs, fun c o e _ => e⟩
    have fin : ∀ sk' G', KyAt C G' p a life (m.set q none) L → G' a.ds = some (.dT sk') → (∀ c o, G c = some o → c ≠ a.ds → G' c = some o) → 5 ≤ 5 → ∀ t2 G2, Same G' G2 → G2 t2 = some (.tup [.int n, .ref d]) →
        ∃ bk', DPut G2 a.db (.ref t) (.ref t2) (upd G2 a.db (.dT bk')) ∧ Q .non (upd G2 a.db (.dT bk')) := by
      intro sk' G' h' gs' fr _ t2 G2 s2 g2
      obtain ⟨bk', gb', db'⟩ := h'.hb
      have h2 := h'.same s2
      have gt2 := s2 _ _ (fr _ _ gt (ne_of gt gs (fun z => nomatch z)))
      refine ⟨_, DPut.t (s2 _ _ gb') (pk_tup gt2) (Nat.lt_of_le_of_lt db'.len (Nat.lt_of_le_of_lt hL (by decide))), ?_⟩
      have kt : ∀ b xs, G2 b = some (.tup xs) → (upd G2 a.db (.dT (putK bk' (pk q) (.ref t2)))) b = some (.tup xs) := fun b xs e => by rw [upd_ne (ne_of e (s2 _ _ gb') (fun z => nomatch z))]; exact e
      obtain ⟨sk2, gs2, ds2⟩ := h2.hs
      have e2 : ∀ r, r ≠ q → (m.set q (some (.busy n d))) r = (m.set q none) r := fun r hr => by rw [KM.set_ne hr, KM.set_ne hr]
      refine Q0 _ (h2.new (by rw [upd_ne (ne_of h2.hp (s2 _ _ gb') (fun z => nomatch z))]) upd_same (by rw [upd_ne h2.ne.symm]; exact gs2) kt (((db'.keep (fun b xs e => s2 _ _ e)).put (rfl : fB (.busy n d) = some _) g2 KM.set_same e2).keep kt) (((ds2.skip (fun e he => (nn e he).elim) (fun e he => ?_) e2).more).keep kt)) (fun c o e n1 n2 => by rw [upd_ne n1]; exact s2 _ _ (fr _ _ (s1 _ _ e) n2))
      rw [KM.set_same] at he; cases he; rfl
    refine ⟨C, a.dx, _, .ref a.ds, ht1.hp, B.cl, B.nS, kf_s a life, a.ds, rfl, .inr ⟨sk, .inl gs⟩, sk, pk q, t, gs, rfl, pk_tup gt, fun v hv => ?_, fun hv => ?_⟩
    · obtain ⟨_, h', gs', fr⟩ := step _ _ (.inl rfl) (ds.drop (fun e he => (nn e he).elim) ne0)
      refine ⟨by simp, fun t2 G2 s2 g2 => ?_⟩
      obtain ⟨bk', dp, hq⟩ := fin _ _ h' gs' fr (by decide) t2 G2 s2 g2
      exact ⟨C, a.dx, _, .ref a.db, s2 _ _ h'.hp, B.cl, B.nB, kf_b a life, a.db, _, rfl, dp, hq⟩
    · have d' : Dic G sk (m.set q none) fS L := by
        have := ds.drop (m' := m.set q none) (fun e he => (nn e he).elim) ne0
        rwa [dropK_no (valV_not hv)] at this
      obtain ⟨_, h', gs', fr⟩ := step _ _ (.inr ⟨rfl, rfl⟩) d'
      refine ⟨by simp, fun t2 G2 s2 g2 => ?_⟩
      obtain ⟨bk', dp, hq⟩ := fin _ _ h' gs' fr (by decide) t2 G2 s2 g2
      exact ⟨C, a.dx, _, .ref a.db, s2 _ _ h'.hp, B.cl, B.nB, kf_b a life, a.db, _, rfl, dp, hq⟩
end
end KL
namespace KL
open PySem L2
section
variable {P : Program} {w : World} {K : W.Frag} {mg : Str → Option Value} {base : Heap}
def restK (t : Int) (q : Str × Str) (d a : Addr) : List V := [.int t, .str q.1, .str q.2, .ref d, .ref a]
def nrow (zs : List Tn) : List (Int × List V) := zs.map fun z => (z.1, z.2.2)
def NumU (m : KM) : Prop := ∀ q q' n t d a t' d' a', m q = some (.kept n t d a) → m q' = some (.kept n t' d' a') → q = q'
def KRows (m : KM) (life now : Int) (rs : List (Int × List V)) : Prop := ∀ n rest, (n, rest) ∈ rs ↔ ∃ q t d a, m q = some (.kept n t d a) ∧ t + life > now ∧ rest = restK t q d a
def spKept (C : Addr) : Sp := fun vs H Q _ => ∃ (p : Addr) (a : KF) (life now : Int) (m : KM) (L : Nat), vs = [.ref p, .int now] ∧ KyAt C H p a life m L ∧ L < 64 ∧ NumU m ∧
  ∀ l zs H', Same H H' → H l = none → H' l = some (.lst (nref zs)) → NAt H' zs → zs.Pairwise tln → (zs.map (·.1)).Nodup → KRows m life now (nrow zs) → zs.length < 64 → Q (.ref l) H'
theorem NAt.keep {H H' : Hp} {zs : List Tn} (h : NAt H zs) (k : ∀ b xs, H b = some (.tup xs) → H' b = some (.tup xs)) : NAt H' zs := fun z hz => k _ _ (h z hz)
theorem NAt.perm {H : Hp} {zs zs' : List Tn} (h : NAt H zs) (p : zs'.Perm zs) : NAt H zs' := fun z hz => h z (p.mem_iff.mp hz)
theorem Dic.ent {H : Hp} {kvs : List (List Key × V)} {m : KM} {L : Nat} (h : Dic H kvs m fS L) {p : List Key × V} (hp : p ∈ kvs) : ∃ q n w d z t, p = (pk q, .ref t) ∧ m q = some (.kept n w d z) ∧ H t = some (.tup [.int n, .int w, .ref d, .ref z]) := by
  obtain ⟨q, e, xs, t, h1, h2, h3, h4⟩ := h.all p hp
  cases e with
  | busy n d => cases h3
  | kept n w d z => cases h3; exact ⟨q, n, w, d, z, t, h1, h2, h4⟩
theorem nodupG {α : Type} {l : List α} {i j : Nat} {x : α} (hn : l.Nodup) (hi : l[i]? = some x) (hj : l[j]? = some x) : i = j := by
  obtain ⟨h1, e1⟩ := List.getElem?_eq_some_iff.mp hi
  obtain ⟨h2, e2⟩ := List.getElem?_eq_some_iff.mp hj
  exact (List.getElem_inj hn).mp (e1.trans e2.symm)
theorem ok_kept {C : Addr} (T : Txt K mg) (B : KsT K C) (c_Keys_is_kept : Mth P w K mg base 2 C "is_kept" ["self", "pair", "turn"] (spIsKeptR C)) (D : MethAt K C "kept" "Keys.kept" s_Keys_kept ["self", "turn"]) : Mth P w K mg base 3 C "kept" ["self", "turn"] (spKept C) := by
  refine D.go sc_Keys_kept (fun vs H Q E h => ?_) (fun f cdv A outer s H vs Q E hr h => ?_)
  · obtain ⟨p, a, life, now, m, L, rfl, _⟩ := h; rfl
  · obtain ⟨p, a, life, now, m, L, rfl, ht, hL, hu, Q0⟩ := h
    have hu1 := hu_of hr
    have hr_Keys_is_kept := hr
    refine ⟨_, (R.scons (R.set (i := 2) sc_Keys_kept.nd (R.lst R.nil))
      (R.scons (R.sthawT (R.for_ PassesOwn.never rfl (R.wDt (R.kfld (K := K) (R.v 0))) (R.gn (i := 3) sc_Keys_kept.nd)
      (R.sone (R.ife (R.val (R.meth c_Keys_is_kept hr_Keys_is_kept (R.v 0) (R.cons (R.v 3) (R.cons (R.v 1) R.nil))))
      (R.scons (R.set (i := 4) sc_Keys_kept.nd (R.dix hu1 (R.kfld (K := K) (R.v 0)) (R.v 3)))
      (R.sone (R.expr (R.kbm (K := K) PySem.F.plainAttrs_list PySem.F.slot_list_append PySem.F.type_list_append R.append (R.v 2) (R.cons (R.op R.catT (R.op R.catT (R.sl R.sT (R.v 4) R.pn (R.ps R.int)) (R.v 3)) (R.sl R.sT (R.v 4) (R.ps R.int) R.pn)) R.nil)))))
      R.snil))))
      (R.sone (R.ret (R.callB (R.ksortedN (K := K)) rfl T.b_sorted bb_sorted (R.cons (R.v 2) R.nil)))))), ?_⟩
    refine ⟨szl rfl, fun l hl => ?_⟩
    dsimp only [gName]
    have s1 := same_upd (o := .lst []) hl
    have g1 : (upd H l (.lst [])) l = some (.lst []) := upd_same
    generalize upd H l (.lst []) = G at s1 g1 ⊢
    have ht1 := ht.same s1
    obtain ⟨sk, gs, ds⟩ := ht1.hs
    refine ⟨C, a.dx, _, .ref a.ds, ht1.hp, B.cl, B.nS, kf_s a life, sk, gs, fun o bs hbl hbs => ?_⟩
    have nl : l ≠ a.ds := ne_of g1 gs (fun z => nomatch z)
    have kF : ∀ c v, G c = some v → c ≠ a.ds → (upd G a.ds (.frz o (.dT sk))) c = some v := fun c v e hc => by rw [upd_ne hc]; exact e
    have gF : (upd G a.ds (.frz o (.dT sk))) a.ds = some (.frz o (.dT sk)) := upd_same
    generalize upd G a.ds (.frz o (.dT sk)) = G2 at kF gF ⊢
    refine for_seq (seq_dt a.ds o sk bs) (fun i σ H' => ∃ (zs : List Tn) (o3 o4 : Option V), σ = [some (.ref p), some (.int now), some (.ref l), o3, o4] ∧ H' l = some (.lst (nref zs)) ∧ NAt H' zs ∧ zs.length ≤ i ∧ (zs.map (·.1)).Nodup ∧ (∀ n rest, (n, rest) ∈ nrow zs ↔ ∃ j q t d z u, j < i ∧ sk[j]? = some (pk q, u) ∧ m q = some (.kept n t d z) ∧ t + life > now ∧ rest = restK t q d z) ∧ (∀ c v, G2 c = some v → c ≠ l → H' c = some v))
      (fun i σ H' ⟨_, _, _, _, _, _, _, _, _, k⟩ => k _ _ gF nl.symm) ⟨[], none, none, rfl, kF _ _ g1 nl, (fun z hz => absurd hz List.not_mem_nil), Nat.le_refl _, List.nodup_nil, (fun n rest => ⟨fun h => absurd h List.not_mem_nil, fun ⟨j, _, _, _, _, _, hj, _⟩ => absurd hj (Nat.not_lt_zero _)⟩), fun c v e _ => e⟩ ?_ ?_
    · rintro i x σ H' hx ⟨zs, o3, o4, rfl, gl, hz, hzl, hnd, hrow, k⟩
      rw [List.getElem?_map] at hx
      obtain ⟨b, hb, rfl⟩ := Option.map_eq_some_iff.mp hx
      obtain ⟨pp, hpp, gb⟩ := hbs i b hb
      obtain ⟨q, n, w', d, z, t, rfl, hm, gt⟩ := Dic.ent ds (List.mem_of_getElem? hpp)
      have kG : ∀ {c : Addr} {v : HO}, G c = some v → c ≠ a.ds → c ≠ l → H' c = some v := fun e h1 h2 => k _ _ (kF _ _ e h1) h2
      have kT : ∀ c xs, G c = some (.tup xs) → H' c = some (.tup xs) := fun c xs e => kG e (ne_of e gs (fun z => nomatch z)) (ne_of e g1 (fun z => nomatch z))
      have gb' : H' b = some (.tup [.str q.1, .str q.2]) := kT _ _ gb
      have hp' : H' p = some (.ins C a.dx (kfs a life)) := kG ht1.hp (ne_of ht1.hp gs (fun z => nomatch z)) (ne_of ht1.hp g1 (fun z => nomatch z))
      have gs' : Rd H' a.ds (.dT sk) := .inr ⟨o, k _ _ gF nl.symm⟩
      have ds' := ds.keep kT
      have gt' := kT _ _ gt
      refine ⟨a.dx, _, hp', kf_no a life (by decide +kernel) (by decide +kernel) (by decide +kernel), p, a, life, m, L, sk, b, q, now, n, w', d, z, rfl, hp', gs', ds', gb', hm, ?_⟩
      show if decide (w' + life > now) = true then _ else _
      have old : ∀ n' rest', (∃ j q t d z u, j < i ∧ sk[j]? = some (pk q, u) ∧ m q = some (.kept n' t d z) ∧ t + life > now ∧ rest' = restK t q d z) → ∃ j q t d z u, j < i + 1 ∧ sk[j]? = some (pk q, u) ∧ m q = some (.kept n' t d z) ∧ t + life > now ∧ rest' = restK t q d z := fun n' rest' ⟨j, q, t, d, z, u, hj, r⟩ => ⟨j, q, t, d, z, u, Nat.lt_succ_of_lt hj, r⟩
      refine if_b (fun hb' => ?_) (fun hb' => ?_)
      · have al := of_decide_eq_true hb'
        obtain ⟨hv, _⟩ : valV sk (pk q) = some (.ref t) ∧ True := by
          obtain ⟨u, hv, gu⟩ := ds.at hm (rfl : fS (.kept n w' d z) = some _)
          refine ⟨?_, trivial⟩
          have h2 := List.mem_iff_getElem?.mp (valV_mem hv)
          obtain ⟨j, hj⟩ := h2
          have := nodupG ds.nd (i := j) (j := i) (x := pk q) (by rw [List.getElem?_map, hj]; rfl) (by rw [List.getElem?_map, hpp]; rfl)
          rw [this, hpp] at hj
          rw [hv, ← (Prod.mk.inj (Option.some.inj hj)).2]
        have dg := DGet.rd gs' (pk_tup gb')
        rw [hv] at dg
        refine ⟨C, a.dx, _, .ref a.ds, hp', B.cl, B.nS, kf_s a life, a.ds, .ref t, rfl, dg, ?_⟩
        dsimp only [gName]
        refine ⟨.inl ⟨rfl, _, SqL.of gl⟩, _, gt', fun t1 H1 sa1 ga1 => ⟨_, _, ga1, sa1 _ _ gb', ?_, fun t2 H2 sa2 ga2 => ⟨_, sa2 _ _ (sa1 _ _ gt'), fun t3 H3 sa3 ga3 => ⟨_, _, sa3 _ _ ga2, ga3, ?_, fun t4 H4 sa4 ga4 => ?_⟩⟩⟩⟩
        · show 2 + 2 ≤ 1000; decide
        · show 4 + 2 ≤ 1000; decide
        have s04 : Same H' H4 := ((sa1.trans sa2).trans sa3).trans sa4
        replace ga4 : H4 t4 = some (.tup (.int n :: restK w' q d z)) := ga4
        have gl4 := s04 _ _ gl
        have n4 : t4 ≠ l := ne_of ga4 gl4 (fun z => nomatch z)
        refine ⟨l, _, _, rfl, rfl, gl4, ?_, zs ++ [(n, t4, restK w' q d z)], _, _, rfl, ?_, fun y hy => ?_, ?_, ?_, fun n' rest' => ?_, fun c v e hc => ?_⟩
        · unfold nref
          rw [List.length_map]
          have := (List.getElem?_eq_some_iff.mp hpp).1
          have := ds.len
          exact Nat.lt_of_le_of_lt (show zs.length ≤ 64 by omega) (by decide)
        · rw [upd_same]; unfold nref; rw [List.map_append]; rfl
        · have e : H4 y.2.1 = some (.tup (.int y.1 :: y.2.2)) := by
            rcases List.mem_append.mp hy with h | h
            · exact s04 _ _ (hz y h)
            · cases List.mem_singleton.mp h; exact ga4
          rw [upd_ne (ne_of e gl4 (fun z => nomatch z))]
          exact e
        · rw [List.length_append]; exact Nat.succ_le_succ hzl
        · rw [List.map_append]
          refine nd_snoc hnd fun hin => ?_
          obtain ⟨y, hy, hyn⟩ := List.mem_map.mp hin
          obtain ⟨j, q', t', d', z', u', hj, hjs, hm', _⟩ := (hrow y.1 y.2.2).mp (List.mem_map.mpr ⟨y, hy, rfl⟩)
          rw [hyn] at hm'
          have eq := hu _ _ _ _ _ _ _ _ _ hm' hm
          have := nodupG ds.nd (i := j) (j := i) (x := pk q) (by rw [List.getElem?_map, hjs, eq]; rfl) (by rw [List.getElem?_map, hpp]; rfl)
          omega
        · unfold nrow
          rw [List.map_append, List.mem_append]
          constructor
          · rintro (h | h)
            · exact old _ _ ((hrow n' rest').mp h)
            · cases List.mem_singleton.mp h
              exact ⟨i, q, w', d, z, _, Nat.lt_succ_self _, hpp, hm, al, rfl⟩
          · rintro ⟨j, q', t', d', z', u', hj, hjs, hm', al', rfl⟩
            by_cases hji : j = i
            · rw [hji, hpp] at hjs
              cases pk_inj (Prod.mk.inj (Option.some.inj hjs)).1
              rw [hm] at hm'
              cases hm'
              exact .inr (List.mem_singleton.mpr rfl)
            · exact .inl ((hrow n' _).mpr ⟨j, q', t', d', z', u', by omega, hjs, hm', al', rfl⟩)
        · rw [upd_ne hc]; exact s04 _ _ (k _ _ e hc)
      · have al := of_decide_eq_false hb'
        refine ⟨zs, _, _, rfl, gl, hz, Nat.le_succ_of_le hzl, hnd, fun n' rest' => ⟨fun h => old _ _ ((hrow n' rest').mp h), ?_⟩, k⟩
        rintro ⟨j, q', t', d', z', u', hj, hjs, hm', al', rfl⟩
        by_cases hji : j = i
        · rw [hji, hpp] at hjs
          cases pk_inj (Prod.mk.inj (Option.some.inj hjs)).1
          rw [hm] at hm'
          cases hm'
          exact absurd al' al
        · exact (hrow n' _).mpr ⟨j, q', t', d', z', u', by omega, hjs, hm', al', rfl⟩
    · rintro σ H' ⟨zs, o3, o4, rfl, gl, hz, hzl, hnd, hrow, k⟩
      have hfr := k _ _ gF nl.symm
      refine ⟨a.ds, sk, o, ⟨sk, gs⟩, hfr, ?_⟩
      have kU : ∀ c v, G c = some v → c ≠ l → (upd H' a.ds (.dT sk)) c = some v := fun c v e hc => by
        by_cases z : c = a.ds
        · rw [z] at e ⊢; rw [gs] at e; cases e; exact upd_same
        · rw [upd_ne z]; exact k _ _ (kF _ _ e z) hc
      have gU : (upd H' a.ds (.dT sk)) l = some (.lst (nref zs)) := by rw [upd_ne nl]; exact gl
      have hzU : NAt (upd H' a.ds (.dT sk)) zs := NAt.keep hz (fun b xs e => by rw [upd_ne (ne_of e hfr (fun z => nomatch z))]; exact e)
      generalize upd H' a.ds (.dT sk) = H'' at kU gU hzU ⊢
      have hz64 : zs.length < 64 := by
        rw [List.length_map, hbl] at hzl
        have := ds.len
        omega
      refine ⟨zs, SqL.of gU, hzU, hnd, hz64, fun l2 zs' hl2 hp hs => ?_⟩
      have s0 : Same H H'' := fun c v e => kU _ _ (s1 _ _ e) (ne_of_none e hl)
      have s2 := same_upd (o := .lst (nref zs')) hl2
      refine Q0 l2 zs' _ (s0.trans s2) ?_ upd_same (NAt.keep (NAt.perm hzU hp) fun b xs e => s2 _ _ e) hs ((hp.map _).nodup_iff.mpr hnd) (fun n rest => ?_) (by rw [hp.length_eq]; exact hz64)
      · cases e : H l2 with
        | none => rfl
        | some v => rw [s0 _ _ e] at hl2; cases hl2
      · have : (n, rest) ∈ nrow zs' ↔ (n, rest) ∈ nrow zs := (hp.map _).mem_iff
        rw [this, hrow]
        constructor
        · rintro ⟨j, q, t, d, z, u, _, _, r⟩
          exact ⟨q, t, d, z, r⟩
        · rintro ⟨q, t, d, z, hm, r⟩
          obtain ⟨u, hv, _⟩ := ds.at hm (rfl : fS (.kept n t d z) = some _)
          obtain ⟨j, hj⟩ := List.mem_iff_getElem?.mp (valV_mem hv)
          refine ⟨j, q, t, d, z, _, ?_, hj, hm, r⟩
          rw [List.length_map, hbl]
          exact (List.getElem?_eq_some_iff.mp hj).1
def restU (q : Str × Str) (d : Addr) : List V := [.str q.1, .str q.2, .ref d]
def NumUB (m : KM) : Prop := ∀ q q' n d d', m q = some (.busy n d) → m q' = some (.busy n d') → q = q'
def URows (m : KM) (rs : List (Int × List V)) : Prop := ∀ n rest, (n, rest) ∈ rs ↔ ∃ q d, m q = some (.busy n d) ∧ rest = restU q d
def spUnder (C : Addr) : Sp := fun vs H Q _ => ∃ (p : Addr) (a : KF) (life : Int) (m : KM) (L : Nat), vs = [.ref p] ∧ KyAt C H p a life m L ∧ L < 64 ∧ NumUB m ∧
  ∀ l zs H', Same H H' → H l = none → H' l = some (.lst (nref zs)) → NAt H' zs → zs.Pairwise tln → (zs.map (·.1)).Nodup → URows m (nrow zs) → zs.length < 64 → Q (.ref l) H'
theorem Dic.entB {H : Hp} {kvs : List (List Key × V)} {m : KM} {L : Nat} (h : Dic H kvs m fB L) {p : List Key × V} (hp : p ∈ kvs) : ∃ q n d t, p = (pk q, .ref t) ∧ m q = some (.busy n d) ∧ H t = some (.tup [.int n, .ref d]) := by
  obtain ⟨q, e, xs, t, h1, h2, h3, h4⟩ := h.all p hp
  cases e with
  | busy n d => cases h3; exact ⟨q, n, d, t, h1, h2, h4⟩
  | kept n w d z => cases h3
theorem ok_under {C : Addr} (T : Txt K mg) (B : KsT K C) (D : MethAt K C "under" "Keys.under" s_Keys_under ["self"]) : Mth P w K mg base 1 C "under" ["self"] (spUnder C) := by
  refine D.go sc_Keys_under (fun vs H Q E h => ?_) (fun f cdv A outer s H vs Q E hr h => ?_)
  · obtain ⟨p, a, life, m, L, rfl, _⟩ := h; rfl
  · obtain ⟨p, a, life, m, L, rfl, ht, hL, hu, Q0⟩ := h
    refine ⟨_, (R.sone (R.ret (R.callB (R.ksortedN (K := K)) rfl T.b_sorted bb_sorted (R.cons (R.thawT (R.comp rfl (js := [none, none]) (N := ["pair", "entry"]) (CompScope.by (defScope s_Keys_under) ["self"] rfl rfl (by decide +kernel)) (gown_tup (gowns_cons rfl (gowns_cons rfl gowns_nil))) (R.items (R.kfld (K := K) (R.v 0))) (fun C s₂ H₂ fp => ⟨(R.kgt (K := K) (n := 2) rfl (R.gsc (R.gn (i := 0) (show (["pair", "entry"] : List Str).Nodup by decide +kernel)) (R.gsc (R.gn (i := 1) (show (["pair", "entry"] : List Str).Nodup by decide +kernel)) R.gsn))), R.ts0, (R.op R.catT (R.op R.catT (R.sl R.sT (R.v 1) R.pn (R.ps R.int)) (R.v 0)) (R.sl R.sT (R.v 1) (R.ps R.int) R.pn))⟩))) R.nil)))), ?_⟩
    obtain ⟨bk, gb, db⟩ := ht.hb
    refine ⟨C, a.dx, _, .ref a.db, ht.hp, B.cl, B.nB, kf_b a life, bk, gb, fun o ps hpl hps => ?_⟩
    have kF : ∀ c v, H c = some v → c ≠ a.db → (upd H a.db (.frz o (.dT bk))) c = some v := fun c v e hc => by rw [upd_ne hc]; exact e
    have gF : (upd H a.db (.frz o (.dT bk))) a.db = some (.frz o (.dT bk)) := upd_same
    generalize upd H a.db (.frz o (.dT bk)) = G at kF gF ⊢
    have hbl := db.len
    refine comp_items (by omega) (fun i ys H' => ∃ zs : List Tn, ys = nref zs ∧ NAt H' zs ∧ zs.length = i ∧ (zs.map (·.1)).Nodup ∧ (∀ n rest, (n, rest) ∈ nrow zs ↔ ∃ j q d u, j < i ∧ bk[j]? = some (pk q, u) ∧ m q = some (.busy n d) ∧ rest = restU q d) ∧ Same G H')
      (fun i ys H' ⟨zs, e, _, hl, _, _, s'⟩ => ⟨s' _ _ gF, by rw [e]; unfold nref; rw [List.length_map, hl]; exact Nat.le_refl _⟩) ⟨[], rfl, (fun z hz => absurd hz List.not_mem_nil), rfl, List.nodup_nil, (fun n rest => ⟨fun h => absurd h List.not_mem_nil, fun ⟨j, _, _, _, hj, _⟩ => absurd hj (Nat.not_lt_zero _)⟩), Same.refl _⟩ ?_ ?_
    · rintro i b y ys H' t hpi ⟨zs, rfl, hz, hl, hnd, hrow, s'⟩ htn
      obtain ⟨k, hk, gb'⟩ := hps i b y hpi
      obtain ⟨q, n, d, u, e1, hm, gu⟩ := Dic.entB db (List.mem_of_getElem? hk)
      cases e1
      have sT := same_upd (o := .tup [.ref b, .ref u]) htn
      refine ⟨t, _, rfl, SqT.of upd_same, rfl, _, _, rfl, _, _, rfl, rfl, ?_⟩
      have s0 : Same G (upd H' t (.tup [.ref b, .ref u])) := s'.trans sT
      have hz0 : NAt (upd H' t (.tup [.ref b, .ref u])) zs := NAt.keep hz (fun b xs e => sT _ _ e)
      generalize upd H' t (.tup [.ref b, .ref u]) = H1 at s0 hz0 ⊢
      have gb1 : H1 b = some (.tup [.str q.1, .str q.2]) := s0 _ _ (kF _ _ gb' (ne_of gb' gb (fun z => nomatch z)))
      have gu1 := s0 _ _ (kF _ _ gu (ne_of gu gb (fun z => nomatch z)))
      refine ⟨_, gu1, fun t1 H2 sa1 ga1 => ⟨_, _, ga1, sa1 _ _ gb1, ?_, fun t2 H3 sa2 ga2 => ⟨_, sa2 _ _ (sa1 _ _ gu1), fun t3 H4 sa3 ga3 => ⟨_, _, sa3 _ _ ga2, ga3, ?_, fun t4 H5 sa4 ga4 => ?_⟩⟩⟩⟩
      · show 1 + 2 ≤ 1000; decide
      · show 3 + 1 ≤ 1000; decide
      replace ga4 : H5 t4 = some (.tup (.int n :: restU q d)) := ga4
      have s15 : Same H1 H5 := ((sa1.trans sa2).trans sa3).trans sa4
      refine ⟨zs ++ [(n, t4, restU q d)], ?_, fun y hy => ?_, ?_, ?_, fun n' rest' => ?_, s0.trans s15⟩
      · unfold nref; rw [List.map_append]; rfl
      · rcases List.mem_append.mp hy with h | h
        · exact s15 _ _ (hz0 y h)
        · cases List.mem_singleton.mp h; exact ga4
      · rw [List.length_append, hl]; rfl
      · rw [List.map_append]
        refine nd_snoc hnd fun hin => ?_
        obtain ⟨y, hy, hyn⟩ := List.mem_map.mp hin
        obtain ⟨j, q', d', u', hj, hjs, hm', _⟩ := (hrow y.1 y.2.2).mp (List.mem_map.mpr ⟨y, hy, rfl⟩)
        rw [hyn] at hm'
        have eq := hu _ _ _ _ _ hm' hm
        have := nodupG db.nd (i := j) (j := i) (x := pk q) (by rw [List.getElem?_map, hjs, eq]; rfl) (by rw [List.getElem?_map, hk]; rfl)
        omega
      · unfold nrow
        rw [List.map_append, List.mem_append]
        constructor
        · rintro (h | h)
          · obtain ⟨j, q', d', u', hj, r⟩ := (hrow n' rest').mp h
            exact ⟨j, q', d', u', Nat.lt_succ_of_lt hj, r⟩
          · cases List.mem_singleton.mp h
            exact ⟨i, q, d, _, Nat.lt_succ_self _, hk, hm, rfl⟩
        · rintro ⟨j, q', d', u', hj, hjs, hm', rfl⟩
          by_cases hji : j = i
          · rw [hji, hk] at hjs
            cases pk_inj (Prod.mk.inj (Option.some.inj hjs)).1
            rw [hm] at hm'
            cases hm'
            exact .inr (List.mem_singleton.mpr rfl)
          · exact .inl ((hrow n' _).mpr ⟨j, q', d', u', by omega, hjs, hm', rfl⟩)
    · rintro ys H' ⟨zs, rfl, hz, hl, hnd, hrow, s'⟩
      intro l hl0
      have s1 := same_upd (o := .lst (nref zs)) hl0
      have g1 : (upd H' l (.lst (nref zs))) l = some (.lst (nref zs)) := upd_same
      have hz1 : NAt (upd H' l (.lst (nref zs))) zs := NAt.keep hz (fun b xs e => s1 _ _ e)
      have fl : H' l = none := hl0
      generalize upd H' l (.lst (nref zs)) = H1 at s1 g1 hz1 ⊢
      have hfr := s1 _ _ (s' _ _ gF)
      refine ⟨a.db, bk, o, ⟨bk, gb⟩, hfr, ?_⟩
      have nl : l ≠ a.db := ne_of g1 hfr (fun z => nomatch z)
      have kU : Same H (upd H1 a.db (.dT bk)) := fun c v e => by
        by_cases z : c = a.db
        · rw [z] at e ⊢; rw [gb] at e; cases e; exact upd_same
        · rw [upd_ne z]; exact s1 _ _ (s' _ _ (kF _ _ e z))
      have gU : (upd H1 a.db (.dT bk)) l = some (.lst (nref zs)) := by rw [upd_ne nl]; exact g1
      have hzU : NAt (upd H1 a.db (.dT bk)) zs := NAt.keep hz1 (fun b xs e => by rw [upd_ne (ne_of e hfr (fun z => nomatch z))]; exact e)
      generalize upd H1 a.db (.dT bk) = H'' at kU gU hzU ⊢
      have hz64 : zs.length < 64 := by omega
      refine ⟨zs, SqL.of gU, hzU, hnd, hz64, fun l2 zs' hl2 hp hs => ?_⟩
      have s2 := same_upd (o := .lst (nref zs')) hl2
      refine Q0 l2 zs' _ (kU.trans s2) ?_ upd_same (NAt.keep (NAt.perm hzU hp) fun b xs e => s2 _ _ e) hs ((hp.map _).nodup_iff.mpr hnd) (fun n rest => ?_) (by rw [hp.length_eq]; exact hz64)
      · cases e : H l2 with
        | none => rfl
        | some v => rw [kU _ _ e] at hl2; cases hl2
      · have : (n, rest) ∈ nrow zs' ↔ (n, rest) ∈ nrow zs := (hp.map _).mem_iff
        rw [this, hrow]
        constructor
        · rintro ⟨j, q, d, u, _, _, r⟩
          exact ⟨q, d, r⟩
        · rintro ⟨q, d, hm, r⟩
          obtain ⟨u, hv, _⟩ := db.at hm (rfl : fB (.busy n d) = some _)
          obtain ⟨j, hj⟩ := List.mem_iff_getElem?.mp (valV_mem hv)
          refine ⟨j, q, d, _, ?_, hj, hm, r⟩
          rw [hpl]
          exact (List.getElem?_eq_some_iff.mp hj).1
def flatT (xs : List V) : Prop := xs.length ≤ 1000 ∧ ∀ v ∈ xs, (∃ s, v = .str s) ∨ ∃ i, v = .int i
theorem flatT.rep {H : Hp} {d : Addr} {xs : List V} (h : flatT xs) (g : H d = some (.tup xs)) (n : Nat) : Rep H (n + 1) (.tp (xs.map TV.sc)) (.ref d) ∧ okT (n + 1) (.tp (xs.map TV.sc)) := by
  obtain ⟨hl, h⟩ := h
  refine ⟨⟨d, xs, rfl, g, ?_⟩, by rw [List.length_map]; exact hl, ?_⟩
  · clear g hl
    induction xs with
    | nil => exact .nil
    | cons x r ih =>
      refine .cons ?_ (ih fun v hv => h v (List.mem_cons_of_mem _ hv))
      rcases h x List.mem_cons_self with ⟨s, rfl⟩ | ⟨i, rfl⟩ <;> cases n <;> exact ⟨rfl, rfl⟩
  · intro t ht
    obtain ⟨v, hv, rfl⟩ := List.mem_map.mp ht
    rcases h v hv with ⟨s, rfl⟩ | ⟨i, rfl⟩ <;> cases n <;> exact trivial
theorem Deed6.flat {zs : List Str} {xs : List V} (h : Deed6 zs xs) : flatT xs := by
  cases h <;> refine ⟨by simp, fun v hv => ?_⟩ <;> simp only [List.mem_cons, List.not_mem_nil, or_false] at hv <;> (rcases hv with rfl | rfl | rfl | rfl | rfl <;> first | exact .inl ⟨_, rfl⟩ | exact .inr ⟨_, rfl⟩)
theorem Ans6.flat {w : Str} {n : Int} {hs : List Str} {ys : List V} (h : Ans6 w n hs ys) : flatT ys := by
  cases h <;> refine ⟨by simp, fun v hv => ?_⟩ <;> simp only [List.mem_cons, List.not_mem_nil, or_false] at hv <;> (rcases hv with rfl | rfl | rfl | rfl | rfl <;> first | exact .inl ⟨_, rfl⟩ | exact .inr ⟨_, rfl⟩)
def EntAt (zs : List Str) (H : Hp) : KE → Prop
  | .busy _ d => ∃ xs, H d = some (.tup xs) ∧ Deed6 zs xs
  | .kept _ _ d a => ∃ xs ys, H d = some (.tup xs) ∧ Deed6 zs xs ∧ H a = some (.tup ys) ∧ flatT ys
theorem EntAt.keep {zs : List Str} {H H' : Hp} {e : KE} (h : EntAt zs H e) (k : ∀ b xs, H b = some (.tup xs) → H' b = some (.tup xs)) : EntAt zs H' e := by
  cases e with
  | busy n d => obtain ⟨xs, g, r⟩ := h; exact ⟨xs, k _ _ g, r⟩
  | kept n t d a => obtain ⟨xs, ys, g, r, g2, r2⟩ := h; exact ⟨xs, ys, k _ _ g, r, k _ _ g2, r2⟩
def EntsAt (zs : List Str) (H : Hp) (m : KM) : Prop := ∀ q e, m q = some e → EntAt zs H e
theorem lookRep {zs : List Str} {H : Hp} {m : KM} (h : EntsAt zs H m) (q : Str × Str) (life turn : Int) (n' : Nat) : ∃ t, okT (n' + 3) t ∧ ∀ u, H u = some (.tup (lookV life turn (m q))) → Rep H (n' + 3) t (.ref u) := by
  have free : ∃ t, okT (n' + 3) t ∧ ∀ u, H u = some (.tup [.str "free"]) → Rep H (n' + 3) t (.ref u) := ⟨.tp [.sc (.str "free")], ⟨by simp, fun t ht => by cases List.mem_singleton.mp ht; exact trivial⟩, fun u g => ⟨u, _, rfl, g, .cons ⟨rfl, rfl⟩ .nil⟩⟩
  cases hm : m q with
  | none => exact free
  | some e =>
    have he := h q e hm
    cases e with
    | busy n d =>
      obtain ⟨xs, g, r⟩ := he
      obtain ⟨r1, r2⟩ := (Deed6.flat r).rep g (n' + 1)
      refine ⟨.tp [.sc (.str "busy"), .sc (.int n), .tp (xs.map TV.sc)], ⟨by simp, fun t ht => ?_⟩, fun u gu => ⟨u, _, rfl, gu, .cons ⟨rfl, rfl⟩ (.cons ⟨rfl, rfl⟩ (.cons r1 .nil))⟩⟩
      simp only [List.mem_cons, List.not_mem_nil, or_false] at ht
      rcases ht with rfl | rfl | rfl
      · exact trivial
      · exact trivial
      · exact r2
    | kept n t d a =>
      obtain ⟨xs, ys, g, r, ga, ra⟩ := he
      obtain ⟨r1, r2⟩ := (Deed6.flat r).rep g (n' + 1)
      obtain ⟨r3, r4⟩ := ra.rep ga (n' + 1)
      show ∃ t', okT (n' + 3) t' ∧ ∀ u, H u = some (.tup (if t + life > turn then _ else _)) → _
      by_cases hb : t + life > turn
      · rw [if_pos hb]
        refine ⟨.tp [.sc (.str "kept"), .sc (.int n), .tp (xs.map TV.sc), .tp (ys.map TV.sc)], ⟨by simp, fun t ht => ?_⟩, fun u gu => ⟨u, _, rfl, gu, .cons ⟨rfl, rfl⟩ (.cons ⟨rfl, rfl⟩ (.cons r1 (.cons r3 .nil)))⟩⟩
        simp only [List.mem_cons, List.not_mem_nil, or_false] at ht
        rcases ht with rfl | rfl | rfl | rfl
        · exact trivial
        · exact trivial
        · exact r2
        · exact r4
      · rw [if_neg hb]
        exact free
theorem rise_mem {x : Int × List V} : ∀ {r : List (Int × List V)}, (x :: r).Pairwise (fun a b => a.1 < b.1) → ∀ y ∈ r, x.1 < y.1
  | r, h, y, hy => (List.pairwise_cons.mp h).1 y hy
theorem rise_eq : ∀ {xs ys : List (Int × List V)}, xs.Pairwise (fun a b => a.1 < b.1) → ys.Pairwise (fun a b => a.1 < b.1) → (∀ z, z ∈ xs ↔ z ∈ ys) → xs = ys
  | [], [], _, _, _ => rfl
  | [], y :: ys, _, _, h => absurd ((h y).mpr List.mem_cons_self) List.not_mem_nil
  | x :: xs, [], _, _, h => absurd ((h x).mp List.mem_cons_self) List.not_mem_nil
  | x :: xs, y :: ys, hx, hy, h => by
    have e : x = y := by
      rcases List.mem_cons.mp ((h x).mp List.mem_cons_self) with e | m1
      · exact e
      · rcases List.mem_cons.mp ((h y).mpr List.mem_cons_self) with e | m2
        · exact e.symm
        · have a1 := rise_mem hy x m1
          have a2 := rise_mem hx y m2
          omega
    subst e
    congr 1
    refine rise_eq (List.pairwise_cons.mp hx).2 (List.pairwise_cons.mp hy).2 fun z => ⟨fun m => ?_, fun m => ?_⟩
    · rcases List.mem_cons.mp ((h z).mp (List.mem_cons_of_mem _ m)) with e | m'
      · subst e; exact absurd (rise_mem hx z m) (Int.lt_irrefl _)
      · exact m'
    · rcases List.mem_cons.mp ((h z).mpr (List.mem_cons_of_mem _ m)) with e | m'
      · subst e; exact absurd (rise_mem hy z m) (Int.lt_irrefl _)
      · exact m'
end
end KL
namespace KL
open PySem L2
section
variable {P : Program} {w : World} {K : W.Frag} {mg : Str → Option Value} {base : Heap}
inductive EK where
  | begin (n : Int) (d : Addr)
  | drop
  | settle (w : Int) (z : Addr)
structure En where
  a : Addr
  t : Addr
  q : Str × Str
  k : EK
def En.row (x : En) : List V := match x.k with
  | .begin n d => [.str "begin", .ref x.t, .int n, .ref d]
  | .drop => [.str "drop", .ref x.t]
  | .settle w z => [.str "settle", .ref x.t, .int w, .ref z]
def LogAt (H : Hp) (es : List En) : Prop := ∀ x ∈ es, H x.a = some (.tup x.row) ∧ H x.t = some (.tup [.str x.q.1, .str x.q.2])
theorem LogAt.keep {H H' : Hp} {es : List En} (h : LogAt H es) (k : ∀ b xs, H b = some (.tup xs) → H' b = some (.tup xs)) : LogAt H' es := fun x hx => ⟨k _ _ (h x hx).1, k _ _ (h x hx).2⟩
def eref (es : List En) : List V := es.map fun x => V.ref x.a
def isB (x : En) : Bool := match x.k with
  | .begin .. => true
  | _ => false
def own (es : List En) (q : Str × Str) : List En := es.filter fun x => decide (x.q = q)
inductive V1 : List En → Option KE → Prop
  | nil : V1 [] none
  | beg {l : List En} {s : Option KE} {x : En} {n : Int} {d : Addr} : V1 l s → (∀ n d, s ≠ some (.busy n d)) → x.k = .begin n d → V1 (l ++ [x]) (some (.busy n d))
  | drop {l : List En} {x : En} {n : Int} {d : Addr} : V1 l (some (.busy n d)) → x.k = .drop → V1 (l ++ [x]) none
  | settle {l : List En} {x : En} {n w : Int} {d z : Addr} : V1 l (some (.busy n d)) → x.k = .settle w z → V1 (l ++ [x]) (some (.kept n w d z))
theorem V1.sum {l : List En} {s : Option KE} (h : V1 l s) : (l = [] ∧ s = none) ∨ ∃ x b n d, l.getLast? = some x ∧ (l.filter isB).getLast? = some b ∧ b.k = .begin n d ∧ ((x.k = .begin n d ∧ s = some (.busy n d)) ∨ (x.k = .drop ∧ s = none) ∨ ∃ w z, x.k = .settle w z ∧ s = some (.kept n w d z)) := by
  have busy : ∀ {l : List En} {n : Int} {d : Addr}, ((l = [] ∧ some (KE.busy n d) = none) ∨ ∃ x b n' d', l.getLast? = some x ∧ (l.filter isB).getLast? = some b ∧ b.k = .begin n' d' ∧ ((x.k = .begin n' d' ∧ some (KE.busy n d) = some (.busy n' d')) ∨ (x.k = .drop ∧ some (KE.busy n d) = none) ∨ ∃ w z, x.k = .settle w z ∧ some (KE.busy n d) = some (.kept n' w d' z))) → ∃ b, (l.filter isB).getLast? = some b ∧ b.k = .begin n d := by
    rintro l n d (⟨_, e⟩ | ⟨x, b, n', d', _, hb, hk, ⟨_, e⟩ | ⟨_, e⟩ | ⟨w, z, _, e⟩⟩)
    · cases e
    · cases e; exact ⟨b, hb, hk⟩
    · cases e
    · cases e
  induction h with
  | nil => exact .inl ⟨rfl, rfl⟩
  | @beg l s x n d h hs hk ih =>
    refine .inr ⟨x, x, n, d, by simp, ?_, hk, .inl ⟨hk, rfl⟩⟩
    have : isB x = true := by unfold isB; rw [hk]
    rw [List.filter_append]
    simp [this]
  | @drop l x n d h hk ih =>
    obtain ⟨b, hb, hbk⟩ := busy ih
    refine .inr ⟨x, b, n, d, by simp, ?_, hbk, .inr (.inl ⟨hk, rfl⟩)⟩
    have : isB x = false := by unfold isB; rw [hk]
    rw [List.filter_append]
    simp [this, hb]
  | @settle l x n w d z h hk ih =>
    obtain ⟨b, hb, hbk⟩ := busy ih
    refine .inr ⟨x, b, n, d, by simp, ?_, hbk, .inr (.inr ⟨w, z, hk, rfl⟩)⟩
    have : isB x = false := by unfold isB; rw [hk]
    rw [List.filter_append]
    simp [this, hb]
theorem eqT2 {q r : Str × Str} : eqTup [.str q.1, .str q.2] [.str r.1, .str r.2] = decide (q = r) := by
  obtain ⟨a, b⟩ := q
  obtain ⟨c, d⟩ := r
  show (((a == c) && ((b == d) && true)) && true) = decide ((a, b) = (c, d))
  by_cases h1 : a = c
  · by_cases h2 : b = d
    · simp [h1, h2]
    · simp [h1, h2]
  · simp [h1]
theorem flat2 {q r : Str × Str} : ∀ (j : Nat) (u v : V), [V.str q.1, .str q.2][j]? = some u → [V.str r.1, .str r.2][j]? = some v → flatV u = true ∧ flatV v = true := fun j u v hu hv => by
  match j with
  | 0 => cases hu; cases hv; exact ⟨rfl, rfl⟩
  | 1 => cases hu; cases hv; exact ⟨rfl, rfl⟩
  | j + 2 => cases hu
theorem row_at1 (x : En) : atI x.row 1 = some (.ref x.t) := by
  unfold En.row
  split <;> rfl
theorem row_at0 (x : En) : ∃ w : Str, atI x.row 0 = some (.str w) ∧ (decide (w = "begin") = isB x) := by
  unfold En.row isB
  split
  · rename_i n d e; exact ⟨_, rfl, by rw [e]; simp⟩
  · rename_i e; exact ⟨_, rfl, by rw [e]; exact (by decide +kernel : decide (("drop" : Str) = "begin") = false)⟩
  · rename_i w z e; exact ⟨_, rfl, by rw [e]; exact (by decide +kernel : decide (("settle" : Str) = "begin") = false)⟩
theorem last_at {es : List En} {b : En} (h : es.getLast? = some b) : atI (eref es) (-1) = some (.ref b.a) := by
  obtain ⟨l, rfl⟩ : ∃ l, es = l ++ [b] := by
    rw [List.getLast?_eq_some_iff] at h
    exact h
  unfold eref
  rw [List.map_append]
  unfold atI ixN
  rw [if_neg (by decide), List.length_append, List.length_map]
  rw [if_pos (by simp; omega)]
  have e : ((-1 : Int) + ((l.length + [V.ref b.a].length : Nat) : Int)).toNat = l.length := by simp; omega
  show (List.map (fun x => V.ref x.a) l ++ [V.ref b.a])[((-1 : Int) + ((l.length + [V.ref b.a].length : Nat) : Int)).toNat]? = _
  rw [e]
  simp
end
end KL
namespace KL
open PySem L2
section
variable {P : Program} {w : World} {K : W.Frag} {mg : Str → Option Value} {base : Heap}
def spLast : Sp := fun vs H Q _ => ∃ (l t : Addr) (es : List En) (q : Str × Str) (s : Option KE), vs = [.ref l, .ref t] ∧ H l = some (.lst (eref es)) ∧ LogAt H es ∧ H t = some (.tup [.str q.1, .str q.2]) ∧ es.length ≤ 100 ∧ V1 (own es q) s ∧
  (own es q = [] → ∀ H', Same H H' → Q .non H') ∧
  (∀ x b, (own es q).getLast? = some x → ((own es q).filter isB).getLast? = some b → x ∈ es → b ∈ es → ∀ u H', Same H H' → H' u = some (.tup [.ref x.a, .ref b.a]) → Q (.ref u) H')
theorem own_mem {es : List En} {q : Str × Str} {x : En} (h : x ∈ own es q) : x ∈ es ∧ x.q = q := ⟨(List.mem_filter.mp h).1, of_decide_eq_true (List.mem_filter.mp h).2⟩
theorem last_mem {α : Type} {l : List α} {x : α} (h : l.getLast? = some x) : x ∈ l := by
  obtain ⟨r, rfl⟩ := List.getLast?_eq_some_iff.mp h
  simp
theorem own_take {es : List En} {q : Str × Str} {i : Nat} {x : En} (hx : es[i]? = some x) (hq : x.q = q) (hno : own (es.drop (i + 1)) q = []) : own es q = own (es.take (i + 1)) q ∧ (own es q).getLast? = some x := by
  have e1 : own es q = own (es.take (i + 1)) q ++ own (es.drop (i + 1)) q := by
    unfold own
    rw [← List.filter_append, List.take_append_drop]
  rw [hno, List.append_nil] at e1
  refine ⟨e1, ?_⟩
  rw [e1, List.take_succ, hx]
  unfold own
  rw [List.filter_append]
  simp [hq]
theorem drop_own {es : List En} {q : Str × Str} {i : Nat} {x : En} (hx : es[i]? = some x) (hq : x.q ≠ q) (hno : own (es.drop (i + 1)) q = []) : own (es.drop i) q = [] := by
  obtain ⟨hi, e⟩ := List.getElem?_eq_some_iff.mp hx
  rw [List.drop_eq_getElem_cons hi, e]
  unfold own at hno ⊢
  rw [List.filter_cons, if_neg (by simpa using hq)]
  exact hno
theorem ok_last (T : Txt K mg) (D : DefAt K mg "_law_last" s_law_last ["_law_log", "_law_pair"]) : Callee P w K mg base 1 "_law_last" ["_law_log", "_law_pair"] spLast := by
  refine D.go sc_law_last (fun vs H Q E h => ?_) (fun f cdv A outer s H vs Q E hr h => ?_)
  · obtain ⟨l, t, es, q, st, rfl, _⟩ := h; rfl
  · obtain ⟨l, t, es, q, st, rfl, gl, hlog, gt, h100, hv, Q0, Q1⟩ := h
    have hu64 := hr.units
    refine ⟨_, (R.scons (R.for_ PassesOwn.never rfl (R.rangeM rfl T.b_range (R.cons (R.op R.sub (R.callB (R.klenL (K := K)) rfl T.b_len bb_len (R.cons (R.v 0) R.nil)) R.int) (R.cons (R.neg R.int) (R.cons (R.neg R.int) R.nil)))) (R.gn (i := 2) sc_law_last.nd)
      (R.sone (R.ife (R.tcmp (R.eqF hu64) (R.ix (R.kiT (K := K)) (R.ix (R.kiL (K := K)) (R.v 0) (R.v 2)) R.int) (R.v 1))
      (R.scons (R.scomp (i := 3) sc_law_last.nd rfl (Or.inl rfl) rfl (js := [none, some 1]) (N := ["_law_entry", "_law_pair"]) (CompScope.by (defScope s_law_last) ["_law_log", "_law_pair", "_law_at", "_law_begun"] rfl rfl (by decide +kernel)) (gown_name rfl) (R.kwL (K := K) (R.sl (R.ksL (K := K)) (R.v 0) R.pn (R.ps (R.op R.add (R.v 2) R.int)))) (fun C s₂ H₂ fp => ⟨(R.gn (i := 0) (show (["_law_entry", "_law_pair"] : List Str).Nodup by decide +kernel)), (R.ts1 (R.tw (R.wand (R.tcmp R.eq (R.ix (R.kiT (K := K)) (R.v 0) R.int) R.str) (R.wand1 (R.tcmp (R.eqF hu64) (R.ix (R.kiT (K := K)) (R.v 0) R.int) (R.v 1)))))), (R.v 0)⟩) rfl)
      (R.sone (R.ret (R.wtup (R.cons (R.ix (R.kiL (K := K)) (R.v 0) (R.v 2)) (R.cons (R.ix (R.kiL (K := K)) (R.v 3) (R.neg R.int)) R.nil))))))
      R.snil)))
      (R.sone (R.ret R.non))), ?_⟩
    have hel : (eref es).length = es.length := by unfold eref; rw [List.length_map]
    refine ⟨_, .inl (SqL.of gl), _, _, rfl, ⟨by rw [hel]; omega, by rw [hel]; omega, by decide, by decide⟩, ?_⟩
    have en : ((((eref es).length : Nat) : Int) - 1 - -1).toNat = es.length := by rw [hel]; omega
    refine for_seq (seq_rangeM _ _) (fun i σ H' => H' = H ∧ own (es.drop (es.length - i)) q = [] ∧ ∃ o2 o3, σ = [some (.ref l), some (.ref t), o2, o3]) (fun _ _ _ _ => trivial) ⟨rfl, (by rw [Nat.sub_zero, List.drop_length]; rfl), _, _, rfl⟩ ?_ ?_
    · rintro i v σ H' hv' ⟨rfl, hno, o2, o3, rfl⟩
      have hi : i < es.length := by
        have := (List.getElem?_eq_some_iff.mp hv').1
        unfold rangeM at this
        rw [List.length_map, List.length_range, en] at this
        exact this
      have ev : v = .int (((es.length - 1 - i : Nat)) : Int) := by
        unfold rangeM at hv'
        rw [List.getElem?_map, List.getElem?_range (by rw [en]; exact hi)] at hv'
        have := Option.some.inj hv'
        rw [← this]
        show V.int _ = V.int _
        rw [hel]
        congr 1
        omega
      subst ev
      obtain ⟨at_, hat⟩ : ∃ at_ : Nat, at_ = es.length - 1 - i := ⟨_, rfl⟩
      rw [← hat]
      have e1 : es.length - i = at_ + 1 := by omega
      rw [e1] at hno
      obtain ⟨x, hx⟩ : ∃ x, es[at_]? = some x := ⟨es[at_]'(by omega), List.getElem?_eq_getElem (by omega)⟩
      have hxm := List.mem_of_getElem? hx
      obtain ⟨gx, gxt⟩ := hlog x hxm
      have atx : atI (eref es) (at_ : Int) = some (.ref x.a) := atI_nat (by unfold eref; rw [List.getElem?_map, hx]; rfl)
      dsimp only [gName]
      refine ⟨_, SqL.of gl, _, atx, _, SqT.of gx, _, row_at1 x, _, _, gxt, gt, flat2, ?_⟩
      show if eqTup _ _ = true then _ else _
      rw [eqT2]
      refine if_b (fun hb => ?_) (fun hb => ?_)
      · have hq := of_decide_eq_true hb
        obtain ⟨o1, hlast⟩ := own_take hx hq hno
        refine ⟨_, SqL.of gl, fun lc hlc => ⟨lc, rfl, ⟨_, SqL.of upd_same⟩, ?_⟩⟩
        have ec : cut (eref es) none (some ((at_ : Int) + 1)) = eref (es.take (at_ + 1)) := by
          have := cut_to (eref es) (at_ + 1)
          rw [show (((at_ + 1 : Nat)) : Int) = (at_ : Int) + 1 by omega] at this
          rw [this]
          unfold eref
          rw [List.map_take]
        rw [ec]
        have sc := same_upd (o := .lst (eref (es.take (at_ + 1)))) hlc
        have gc : (upd H' lc (.lst (eref (es.take (at_ + 1))))) lc = some (.lst (eref (es.take (at_ + 1)))) := upd_same
        generalize upd H' lc (.lst (eref (es.take (at_ + 1)))) = G at sc gc ⊢
        have hel2 : (eref (es.take (at_ + 1))).length ≤ 100 := by unfold eref; rw [List.length_map, List.length_take]; omega
        refine comp_seq (seq_list K lc (eref (es.take (at_ + 1)))) (by omega) (fun j ys H'' => H'' = G ∧ ys = eref (((es.take (at_ + 1)).take j).filter fun y => decide (y.q = q) && isB y)) (fun j ys H'' ⟨e, e2⟩ => ⟨by rw [e]; exact SqL.of gc, ?_⟩) ⟨rfl, rfl⟩ ?_ ?_
        · rw [e2]; unfold eref; rw [List.length_map]
          exact Nat.le_trans (List.length_filter_le _ _) (by rw [List.length_take]; exact Nat.min_le_left _ _)
        · rintro j y ys H'' hy ⟨rfl, rfl⟩
          unfold eref at hy
          rw [List.getElem?_map] at hy
          obtain ⟨z, hz, rfl⟩ := Option.map_eq_some_iff.mp hy
          have hzm : z ∈ es := List.mem_of_mem_take (List.mem_of_getElem? hz)
          obtain ⟨gz, gzt⟩ := hlog z hzm
          obtain ⟨wd, hw, hwb⟩ := row_at0 z
          have step : ∀ b : Bool, (decide (z.q = q) && isB z) = b → eref (((es.take (at_ + 1)).take (j + 1)).filter fun y => decide (y.q = q) && isB y) = if b = true then eref (((es.take (at_ + 1)).take j).filter fun y => decide (y.q = q) && isB y) ++ [.ref z.a] else eref (((es.take (at_ + 1)).take j).filter fun y => decide (y.q = q) && isB y) := fun b hb' => by
            rw [List.take_succ, hz, List.filter_append]
            cases b with
            | true => simp [hb', eref]
            | false => simp [hb', eref]
          refine ⟨_, SqT.of (sc _ _ gz), _, hw, ?_⟩
          show if decide (wd = "begin") = true then _ else _
          rw [hwb]
          refine if_b (fun h1 => ?_) (fun h1 => ?_)
          · refine ⟨_, SqT.of (sc _ _ gz), _, row_at1 z, _, _, sc _ _ gzt, sc _ _ gt, flat2, ?_⟩
            show if eqTup _ _ = true then _ else _
            rw [eqT2]
            refine if_b (fun h2 => ⟨rfl, ?_⟩) (fun h2 => ⟨rfl, ?_⟩)
            · rw [step true (by rw [h2, h1]; rfl)]; rfl
            · rw [step false (by rw [h2]; rfl)]; rfl
          · refine ⟨rfl, ?_⟩
            rw [step false (by rw [h1]; simp)]; rfl
        · rintro ys H'' ⟨rfl, e2⟩
          have hlen : (eref (es.take (at_ + 1))).length = (es.take (at_ + 1)).length := by unfold eref; rw [List.length_map]
          rw [hlen, List.take_of_length_le (Nat.le_refl _)] at e2
          have e3 : (es.take (at_ + 1)).filter (fun y => decide (y.q = q) && isB y) = (own es q).filter isB := by
            rw [o1]
            unfold own
            rw [List.filter_filter]
            congr 1
            funext y
            exact Bool.and_comm _ _
          rw [e3] at e2
          subst e2
          intro lb hlb
          rcases hv.sum with ⟨hn, _⟩ | ⟨x', b, n, d, hx', hb', _⟩
          · rw [hn] at hlast; cases hlast
          rw [hlast] at hx'
          cases hx'
          have sb := same_upd (o := .lst (eref ((own es q).filter isB))) hlb
          dsimp only [gName]
          refine ⟨_, SqL.of (sb _ _ (sc _ _ gl)), _, atx, _, SqL.of upd_same, _, last_at hb', by simp, fun u H3 s3 g3 => ?_⟩
          exact Q1 x b hlast hb' hxm (own_mem (List.mem_filter.mp (last_mem hb')).1).1 u H3 ((sc.trans sb).trans s3) g3
      · refine ⟨rfl, ?_, _, _, rfl⟩
        have e2 : es.length - (i + 1) = at_ := by omega
        rw [e2]
        exact drop_own hx (of_decide_eq_false hb) hno
    · rintro σ H' ⟨rfl, hno, o2, o3, rfl⟩
      refine Q0 ?_ H' (Same.refl _)
      have el : (rangeM (((eref es).length : Int) - 1) ((((eref es).length : Nat) : Int) - 1 - -1).toNat).length = es.length := by unfold rangeM; rw [List.length_map, List.length_range, en]
      rw [el, Nat.sub_self, List.drop_zero] at hno
      exact hno
end
end KL
namespace KL
open PySem L2
section
variable {P : Program} {w : World} {K : W.Frag} {mg : Str → Option Value} {base : Heap}
def spLooked44 : Sp := fun vs H Q _ => ∃ (l t : Addr) (es : List En) (q : Str × Str) (s : Option KE) (life turn : Int), vs = [.ref l, .ref t, .int life, .int turn] ∧ H l = some (.lst (eref es)) ∧ LogAt H es ∧ H t = some (.tup [.str q.1, .str q.2]) ∧ es.length ≤ 100 ∧ V1 (own es q) s ∧ ∀ u H', Same H H' → H' u = some (.tup (lookV life turn s)) → Q (.ref u) H'
theorem row_begin {x : En} {n : Int} {d : Addr} (h : x.k = .begin n d) : x.row = [.str "begin", .ref x.t, .int n, .ref d] := by unfold En.row; rw [h]
theorem row_drop {x : En} (h : x.k = .drop) : x.row = [.str "drop", .ref x.t] := by unfold En.row; rw [h]
theorem row_settle {x : En} {w : Int} {z : Addr} (h : x.k = .settle w z) : x.row = [.str "settle", .ref x.t, .int w, .ref z] := by unfold En.row; rw [h]
theorem ok_looked44 (T : Txt K mg) (c__law_last : Callee P w K mg base 1 "_law_last" ["_law_log", "_law_pair"] spLast) (D : DefAt K mg "_law_looked" s_law_looked ["_law_log", "_law_pair", "_law_life", "_law_turn"]) : Callee P w K mg base 2 "_law_looked" ["_law_log", "_law_pair", "_law_life", "_law_turn"] spLooked44 := by
  refine D.go sc_law_looked (fun vs H Q E h => ?_) (fun f cdv A outer s H vs Q E hr h => ?_)
  · obtain ⟨l, t, es, q, st, life, turn, rfl, _⟩ := h; rfl
  · obtain ⟨l, t, es, q, st, life, turn, rfl, gl, hlog, gt, h100, hv, Q0⟩ := h
    have hr__law_last := hr
    refine ⟨_, (R.scons (R.set (i := 4) sc_law_looked.nd (R.fn c__law_last hr__law_last rfl (R.cons (R.v 0) (R.cons (R.v 1) R.nil))))
      (R.scons (R.ife (R.tw (R.wor (R.tcmp R.isN (R.v 4) R.non) (R.wor1 (R.tcmp R.eq (R.ix (R.kiT (K := K)) (R.ix (R.kiT (K := K)) (R.v 4) R.int) R.int) R.str))))
      (R.sone (R.ret (R.wtup (R.cons R.str R.nil))))
      R.snil)
      (R.scons (R.asg (R.sl R.sT (R.ix (R.kiT (K := K)) (R.v 4) R.int) (R.ps R.int) R.pn) (R.kgt (K := K) (n := 2) rfl (R.gsc (R.gn (i := 5) sc_law_looked.nd) (R.gsc (R.gn (i := 6) sc_law_looked.nd) R.gsn))))
      (R.scons (R.ife (R.tcmp R.eq (R.ix (R.kiT (K := K)) (R.ix (R.kiT (K := K)) (R.v 4) R.int) R.int) R.str)
      (R.sone (R.ret (R.wtup (R.cons R.str (R.cons (R.v 5) (R.cons (R.v 6) R.nil))))))
      R.snil)
      (R.scons (R.asg (R.sl R.sT (R.ix (R.kiT (K := K)) (R.v 4) R.int) (R.ps R.int) R.pn) (R.kgt (K := K) (n := 2) rfl (R.gsc (R.gn (i := 7) sc_law_looked.nd) (R.gsc (R.gn (i := 8) sc_law_looked.nd) R.gsn))))
      (R.sone (R.ret (R.ix (R.kiL (K := K)) (R.lst (R.cons (R.wtup (R.cons R.str R.nil)) (R.cons (R.wtup (R.cons R.str (R.cons (R.v 5) (R.cons (R.v 6) (R.cons (R.v 8) R.nil))))) R.nil))) (R.callTy R.toInt rfl T.b_int bb_int (R.cons (R.cmp R.gt (R.op R.add (R.v 7) (R.v 2)) (R.v 3)) R.nil)))))))))), ?_⟩
    refine ⟨l, t, es, q, st, rfl, gl, hlog, gt, h100, hv, fun hn H1 s1 => ?_, fun x b hx hb hxm hbm u H1 s1 g1 => ?_⟩
    · dsimp only [gName]
      have hs : st = none := by
        rcases hv.sum with ⟨_, h⟩ | ⟨x, b, n, d, h, _⟩
        · exact h
        · rw [hn] at h; cases h
      subst hs
      exact ⟨by simp, fun u H' s' g' => Q0 u H' (s1.trans s') g'⟩
    · dsimp only [gName]
      rcases hv.sum with ⟨h, _⟩ | ⟨x', b', n, d, hx', hb', hbk, hc⟩
      · rw [h] at hx; cases hx
      rw [hx] at hx'
      cases hx'
      rw [hb] at hb'
      cases hb'
      have gx := s1 _ _ (hlog x hxm).1
      have gb := s1 _ _ (hlog b hbm).1
      rw [row_begin hbk] at gb
      rcases hc with ⟨hk, rfl⟩ | ⟨hk, rfl⟩ | ⟨w', z, hk, rfl⟩
      · rw [row_begin hk] at gx
        refine ⟨_, SqT.of g1, _, rfl, _, SqT.of gx, _, rfl, ?_⟩
        refine ⟨_, SqT.of g1, _, rfl, _, gb, fun t1 H2 s2 g2 => ⟨t1, _, rfl, SqT.of g2, rfl, _, _, rfl, _, _, rfl, rfl, ?_⟩⟩
        dsimp only [gName]
        refine ⟨_, SqT.of (s2 _ _ g1), _, rfl, _, SqT.of (s2 _ _ gx), _, rfl, ?_⟩
        exact ⟨by simp, fun u' H' s' g' => Q0 u' H' ((s1.trans s2).trans s') g'⟩
      · rw [row_drop hk] at gx
        refine ⟨_, SqT.of g1, _, rfl, _, SqT.of gx, _, rfl, ?_⟩
        exact ⟨by simp, fun u' H' s' g' => Q0 u' H' (s1.trans s') g'⟩
      · rw [row_settle hk] at gx
        refine ⟨_, SqT.of g1, _, rfl, _, SqT.of gx, _, rfl, ?_⟩
        refine ⟨_, SqT.of g1, _, rfl, _, gb, fun t1 H2 s2 g2 => ⟨t1, _, rfl, SqT.of g2, rfl, _, _, rfl, _, _, rfl, rfl, ?_⟩⟩
        dsimp only [gName]
        refine ⟨_, SqT.of (s2 _ _ g1), _, rfl, _, SqT.of (s2 _ _ gx), _, rfl, ?_⟩
        refine ⟨_, SqT.of (s2 _ _ g1), _, rfl, _, s2 _ _ gx, fun t3 H3 s3 g3 => ⟨t3, _, rfl, SqT.of g3, rfl, _, _, rfl, _, _, rfl, rfl, ?_⟩⟩
        dsimp only [gName]
        refine ⟨by simp, fun t4 H4 s4 g4 => ⟨by simp, fun t5 H5 s5 g5 => ⟨szl rfl, fun l6 h6 => ⟨_, SqL.of upd_same, ?_⟩⟩⟩⟩
        have s6 := same_upd (o := .lst [.ref t4, .ref t5]) h6
        have sA : Same H (upd H5 l6 (.lst [.ref t4, .ref t5])) := ((((s1.trans s2).trans s3).trans s4).trans s5).trans s6
        by_cases al : w' + life > turn
        · rw [if_pos (decide_eq_true al)]
          refine ⟨_, rfl, Q0 _ _ sA ?_⟩
          show _ = some (HO.tup (if w' + life > turn then _ else _))
          rw [if_pos al]
          exact s6 _ _ g5
        · rw [if_neg (by simpa using al)]
          refine ⟨_, rfl, Q0 _ _ sA ?_⟩
          show _ = some (HO.tup (if w' + life > turn then _ else _))
          rw [if_neg al]
          exact s6 _ _ (s5 _ _ g4)
def stepK (m : KM) (x : En) : Option KM := match x.k, m x.q with
  | .begin _ _, some (.busy _ _) => none
  | .begin n d, _ => some (m.set x.q (some (.busy n d)))
  | .drop, some (.busy _ _) => some (m.set x.q none)
  | .settle w z, some (.busy n d) => some (m.set x.q (some (.kept n w d z)))
  | _, _ => none
def spDo (C : Addr) (CB CN : Addr) : Sp := fun vs H Q E => ∃ (p : Addr) (a : KF) (life : Int) (m : KM) (L : Nat) (x : En), vs = [.ref p, .ref x.a] ∧ KyAt C H p a life m L ∧ L ≤ 500 ∧ H x.a = some (.tup x.row) ∧ H x.t = some (.tup [.str x.q.1, .str x.q.2]) ∧
  (∀ m', stepK m x = some m' → ∀ H', KyAt C H' p a life m' (L + 1) → FrK H H' a → Q .non H') ∧
  (stepK m x = none → ∀ cls od H', (cls = CB ∨ cls = CN) → Same H H' → E (.ref cls) od H')
theorem ok_do {C CB CN : Addr} (T : Txt K mg) (c_Keys_begin : MthX P w K mg base 3 C "begin" ["self", "asker", "key", "number", "deed"] (spBeginX C CB)) (c_Keys_drop : MthX P w K mg base 2 C "drop" ["self", "asker", "key"] (spDropX C CN)) (c_Keys_settle : MthX P w K mg base 2 C "settle" ["self", "asker", "key", "turn", "answer"] (spSettleX C CN))
    (D : DefAt K mg "_law_do" s_law_do ["_law_keys_here", "_law_entry"]) : CalleeX P w K mg base 4 "_law_do" ["_law_keys_here", "_law_entry"] (spDo C CB CN) := by
  refine D.goX sc_law_do (fun vs H Q E h => ?_) (fun f cdv A outer s H vs Q E hr h => ?_)
  · obtain ⟨p, a, life, m, L, x, rfl, _⟩ := h; rfl
  · obtain ⟨p, a, life, m, L, x, rfl, ht, hL, gx, gt, Q0, E0⟩ := h
    have hr_Keys_begin : Room 3 _ := hr
    have hr_Keys_drop : Room 2 _ := hr.mono (by decide)
    have hr_Keys_settle : Room 2 _ := hr.mono (by decide)
    refine ⟨_, (R.scons (R.asg (R.ix (R.kiT (K := K)) (R.v 1) R.int) (R.kgt (K := K) (n := 2) rfl (R.gsc (R.gn (i := 2) sc_law_do.nd) (R.gsc (R.gn (i := 3) sc_law_do.nd) R.gsn))))
      (R.scons (R.ife (R.tcmp R.eq (R.ix (R.kiT (K := K)) (R.v 1) R.int) R.str)
      (R.sone (R.ret (R.methX c_Keys_begin hr_Keys_begin takes_pass (R.v 0) (R.cons (R.v 2) (R.cons (R.v 3) (R.cons (R.ix (R.kiT (K := K)) (R.v 1) R.int) (R.cons (R.ix (R.kiT (K := K)) (R.v 1) R.int) R.nil)))))))
      R.snil)
      (R.scons (R.ife (R.tcmp R.eq (R.ix (R.kiT (K := K)) (R.v 1) R.int) R.str)
      (R.sone (R.ret (R.methX c_Keys_drop hr_Keys_drop takes_pass (R.v 0) (R.cons (R.v 2) (R.cons (R.v 3) R.nil)))))
      R.snil)
      (R.sone (R.ret (R.methX c_Keys_settle hr_Keys_settle takes_pass (R.v 0) (R.cons (R.v 2) (R.cons (R.v 3) (R.cons (R.ix (R.kiT (K := K)) (R.v 1) R.int) (R.cons (R.ix (R.kiT (K := K)) (R.v 1) R.int) R.nil)))))))))), ?_⟩
    refine ⟨_, SqT.of gx, _, row_at1 x, x.t, _, rfl, SqT.of gt, rfl, _, _, rfl, _, _, rfl, rfl, ?_⟩
    dsimp only [gName]
    have nm : ∀ k, (k == ("life" : Str)) = false → (k == ("begun_ones" : Str)) = false → (k == ("settled_ones" : Str)) = false → (kfs a life).lookup k = none := fun k h1 h2 h3 => kf_no a life h1 h2 h3
    cases hk : x.k with
    | begin n d =>
      rw [row_begin hk] at gx
      refine ⟨_, SqT.of gx, _, rfl, ?_⟩
      refine ⟨a.dx, _, ht.hp, nm _ (by decide +kernel) (by decide +kernel) (by decide +kernel), _, SqT.of gx, _, rfl, _, SqT.of gx, _, rfl, p, a, life, m, L, x.q, n, d, rfl, ht, hL, fun hno H' h' fr => ?_, fun n' d' hm dx H' s' g' => ?_⟩
      · refine Q0 _ ?_ H' h' fr
        unfold stepK
        rw [hk]
        cases hm : m x.q with
        | none => rfl
        | some e =>
          cases e with
          | busy n' d' => exact absurd hm (hno n' d')
          | kept => rfl
      · refine E0 ?_ CB (some dx) H' (.inl rfl) s'
        unfold stepK
        rw [hk, hm]
    | drop =>
      rw [row_drop hk] at gx
      refine ⟨_, SqT.of gx, _, rfl, ?_⟩
      refine ⟨_, SqT.of gx, _, rfl, ?_⟩
      refine ⟨a.dx, _, ht.hp, nm _ (by decide +kernel) (by decide +kernel) (by decide +kernel), p, a, life, m, L, x.q, rfl, ht, fun n d hm H' h' fr => ?_, fun hno H' s' => ?_⟩
      · refine Q0 _ ?_ H' h'.more fr
        unfold stepK
        rw [hk, hm]
      · refine E0 ?_ CN none H' (.inr rfl) s'
        unfold stepK
        rw [hk]
        cases hm : m x.q with
        | none => rfl
        | some e =>
          cases e with
          | busy n' d' => exact absurd hm (hno n' d')
          | kept => rfl
    | settle w' z =>
      rw [row_settle hk] at gx
      refine ⟨_, SqT.of gx, _, rfl, ?_⟩
      refine ⟨_, SqT.of gx, _, rfl, ?_⟩
      refine ⟨a.dx, _, ht.hp, nm _ (by decide +kernel) (by decide +kernel) (by decide +kernel), _, SqT.of gx, _, rfl, _, SqT.of gx, _, rfl, p, a, life, m, L, x.q, w', z, rfl, ht, hL, fun n d hm H' h' fr => ?_, fun hno H' s' => ?_⟩
      · refine Q0 _ ?_ H' h' fr
        unfold stepK
        rw [hk, hm]
      · refine E0 ?_ CN none H' (.inr rfl) s'
        unfold stepK
        rw [hk]
        cases hm : m x.q with
        | none => rfl
        | some e =>
          cases e with
          | busy n' d' => exact absurd hm (hno n' d')
          | kept => rfl
structure Ref44 (K : W.Frag) (mg : Str → Option Value) (CB CN CD : Addr) : Prop where
  mD : mg "DoorError" = some (.ref CD)
  x : ∀ c, (c = CB ∨ c = CN) → W.exmOne K (.ref c) (.ref CD) = some true ∧ XKind K c ∧ W.kitOne K (.ref c) (.type "ValueError") = some true
def spRefused (C : Addr) : Sp := fun vs H Q _ => ∃ (p : Addr) (a : KF) (life : Int) (m : KM) (L : Nat) (x : En), vs = [.ref p, .ref x.a] ∧ KyAt C H p a life m L ∧ L ≤ 500 ∧ H x.a = some (.tup x.row) ∧ H x.t = some (.tup [.str x.q.1, .str x.q.2]) ∧
  ∀ H', KyAt C H' p a life ((stepK m x).getD m) (L + 1) → FrK H H' a → Q (.bl (stepK m x).isNone) H'
theorem ok_refused {C CB CN CD : Addr} (T : Txt K mg) (R4 : Ref44 K mg CB CN CD) (c__law_do : CalleeX P w K mg base 4 "_law_do" ["_law_keys_here", "_law_entry"] (spDo C CB CN)) (D : DefAt K mg "_law_refused" s_law_refused ["_law_keys_here", "_law_entry"]) : Callee P w K mg base 5 "_law_refused" ["_law_keys_here", "_law_entry"] (spRefused C) := by
  have M_DoorError := R4.mD
  refine D.go sc_law_refused (fun vs H Q E h => ?_) (fun f cdv A outer s H vs Q E hr h => ?_)
  · obtain ⟨p, a, life, m, L, x, rfl, _⟩ := h; rfl
  · obtain ⟨p, a, life, m, L, x, rfl, ht, hL, gx, gt, Q0⟩ := h
    have hr__law_do := hr
    refine ⟨_, (R.scons (R.set (i := 2) sc_law_refused.nd R.bl)
      (R.scons (R.ktry (K := K) (i := 3) M_DoorError rfl sc_law_refused.nd (fun pn Ex => (R.sone (R.expr (R.fnX c__law_do hr__law_do rfl takes_trying (R.cons (R.v 0) (R.cons (R.v 1) R.nil))))))
      (fun a => (R.sone (R.set (i := 2) sc_law_refused.nd (R.callB (R.kisX (K := K)) rfl T.b_isinstance bb_isinstance (R.cons (R.v 3) (R.cons (R.bty rfl T.b_ValueError bb_ValueError) R.nil)))))))
      (R.sone (R.ret (R.v 2))))), ?_⟩
    refine ⟨p, a, life, m, L, x, rfl, ht, hL, gx, gt, fun m' hm H' h' fr => ?_, fun hm cls od H' hc s' => ?_⟩
    · have := Q0 H' (by rw [hm]; exact h') fr
      rw [hm] at this
      exact this
    · obtain ⟨x1, x2, x3⟩ := R4.x cls hc
      refine ⟨x1, fun e he => ?_⟩
      refine ⟨cls, true, _, upd_same, x2, x3, ?_⟩
      have sA := s'.trans (same_upd (o := .ext (ExcO e (.ref cls) od)) he)
      have := Q0 _ (by rw [hm]; exact (ht.same sA).more) (fun c o e' _ _ => sA _ _ e')
      rw [hm] at this
      exact this
end
end KL
namespace KL
open PySem L2
section
variable {P : Program} {w : World} {K : W.Frag} {mg : Str → Option Value} {base : Heap}
def prsOf (ns ks : List Str) : List (Str × Str) := ns.flatMap fun a => ks.map fun k => (a, k)
abbrev TPr := Addr × (Str × Str)
def PrAt (H : Hp) (ts : List TPr) : Prop := ∀ t ∈ ts, H t.1 = some (.tup [.str t.2.1, .str t.2.2])
def pref (ts : List TPr) : List V := ts.map fun t => V.ref t.1
theorem prs_snoc (ns : List Str) (a : Str) (ks : List Str) : prsOf (ns ++ [a]) ks = prsOf ns ks ++ ks.map fun k => (a, k) := by
  unfold prsOf
  rw [List.flatMap_append]
  simp
def spPairs : Sp := fun vs H Q _ => ∃ (ln lk : Addr) (ns ks : List Str), vs = [.ref ln, .ref lk] ∧ H ln = some (.lst (ns.map V.str)) ∧ H lk = some (.lst (ks.map V.str)) ∧ ks.length ≤ 10 ∧ ∀ l ts H', Same H H' → H l = none → H' l = some (.lst (pref ts)) → PrAt H' ts → ts.map (·.2) = prsOf (ns.take 2) ks → Q (.ref l) H'
theorem take_s {α : Type} {xs : List α} {i : Nat} {x : α} (h : xs[i]? = some x) : xs.take (i + 1) = xs.take i ++ [x] := by
  rw [List.take_succ, h]
  rfl
theorem ok_pairs (T : Txt K mg) (D : DefAt K mg "_law_pairs" s_law_pairs ["_law_names_here", "_law_keys_here"]) : Callee P w K mg base 1 "_law_pairs" ["_law_names_here", "_law_keys_here"] spPairs := by
  refine D.go sc_law_pairs (fun vs H Q E h => ?_) (fun f cdv A outer s H vs Q E hr h => ?_)
  · obtain ⟨ln, lk, ns, ks, rfl, _⟩ := h; rfl
  · obtain ⟨ln, lk, ns, ks, rfl, hn, hk, h10, q⟩ := h
    refine ⟨_, (R.scons (R.set (i := 2) sc_law_pairs.nd (R.lst R.nil))
      (R.scons (R.for_ PassesOwn.never rfl (R.kwL (K := K) (R.sl (R.ksL (K := K)) (R.v 0) R.pn (R.ps R.int))) (R.gn (i := 3) sc_law_pairs.nd)
      (R.sone (R.expr (R.kbm (K := K) PySem.F.plainAttrs_list PySem.F.slot_list_extend PySem.F.type_list_extend R.extend (R.v 2) (R.cons (R.comp rfl (js := [none, some 3]) (N := ["_law_key", "_law_asker"]) (CompScope.by (defScope s_law_pairs) ["_law_names_here", "_law_keys_here", "_law_pairs_here", "_law_asker"] rfl rfl (by decide +kernel)) (gown_name rfl) (R.kwL (K := K) (R.v 1)) (fun C s₂ H₂ fp => ⟨(R.gn (i := 0) (show (["_law_key", "_law_asker"] : List Str).Nodup by decide +kernel)), R.ts0, (R.wtup (R.cons (R.v 1) (R.cons (R.v 0) R.nil)))⟩)) R.nil)))))
      (R.sone (R.ret (R.v 2))))), ?_⟩
    refine ⟨szl rfl, fun l hl => ?_⟩
    dsimp only [gName]
    have s1 := same_upd (o := .lst []) hl
    have g1 : (upd H l (.lst [])) l = some (.lst []) := upd_same
    generalize upd H l (.lst []) = G at s1 g1 ⊢
    refine ⟨_, SqL.of (s1 _ _ hn), fun ls hls => ?_⟩
    have nls : l ≠ ls := ne_of_none g1 hls
    have hcut : cut (ns.map V.str) none (some 2) = (ns.take 2).map V.str := (cut_to (ns.map V.str) 2).trans List.map_take.symm
    rw [hcut]
    have s2 := same_upd (o := .lst ((ns.take 2).map V.str)) hls
    have g2 : (upd G ls (.lst ((ns.take 2).map V.str))) ls = some (.lst ((ns.take 2).map V.str)) := upd_same
    generalize upd G ls (.lst ((ns.take 2).map V.str)) = G2 at s2 g2 ⊢
    have hk2 := s2 _ _ (s1 _ _ hk)
    refine ⟨ls, rfl, ⟨_, SqL.of g2⟩, ?_⟩
    refine for_seq (seq_list K ls ((ns.take 2).map V.str)) (fun i σ H' => ∃ (ts : List TPr) (o3 : Option V), σ = [some (.ref ln), some (.ref lk), some (.ref l), o3] ∧ H' l = some (.lst (pref ts)) ∧ PrAt H' ts ∧ ts.map (·.2) = prsOf ((ns.take 2).take i) ks ∧ (∀ c o, G2 c = some o → c ≠ l → H' c = some o)) (fun i σ H' ⟨_, _, _, _, _, _, k⟩ => SqL.of (k _ _ g2 nls.symm)) ⟨[], none, rfl, s2 _ _ g1, (fun t ht => absurd ht List.not_mem_nil), by simp [prsOf], fun c o e _ => e⟩ ?_ ?_
    · rintro i x σ H3 hx ⟨ts, o3, rfl, gl, ht, hp, k⟩
      rw [List.getElem?_map] at hx
      obtain ⟨a, ha, rfl⟩ := Option.map_eq_some_iff.mp hx
      have nkl : lk ≠ l := fun e => by rw [e, hl] at hk; cases hk
      have hk3 := k _ _ hk2 nkl
      refine ⟨.inl ⟨rfl, _, SqL.of gl⟩, lk, rfl, ⟨_, SqL.of hk3⟩, ?_⟩
      refine comp_seq (seq_list K lk (ks.map V.str)) (by rw [List.length_map]; omega) (fun j ys H' => ∃ us : List TPr, ys = pref us ∧ Same H3 H' ∧ PrAt H' us ∧ us.map (·.2) = (ks.take j).map (fun k => (a, k)) ∧ us.length ≤ j) (fun j ys H' ⟨us, e, s', _, _, hl'⟩ => ⟨SqL.of (s' _ _ hk3), by rw [e]; unfold pref; rw [List.length_map]; exact hl'⟩) ⟨[], rfl, Same.refl _, (fun t ht => absurd ht List.not_mem_nil), by simp, Nat.le_refl _⟩ ?_ ?_
      · rintro j y ys H' hy ⟨us, rfl, s', hu, hm, hl'⟩
        rw [List.getElem?_map] at hy
        obtain ⟨b, hb, rfl⟩ := Option.map_eq_some_iff.mp hy
        refine ⟨by simp, fun t H4 s4 g4 => ⟨us ++ [(t, (a, b))], ?_, s'.trans s4, fun u hu' => ?_, ?_, ?_⟩⟩
        · unfold pref; rw [List.map_append]; rfl
        · rcases List.mem_append.mp hu' with h | h
          · exact s4 _ _ (hu u h)
          · cases List.mem_singleton.mp h; exact g4
        · rw [List.map_append, hm, take_s hb, List.map_append]; rfl
        · rw [List.length_append]; exact Nat.succ_le_succ hl'
      · rintro ys H' ⟨us, rfl, s', hu, hm, hl'⟩
        rw [List.length_map] at hm hl'
        intro lc hlc
        have glc := s' _ _ gl
        have nlc : l ≠ lc := ne_of_none glc hlc
        have sc := same_upd (o := .lst (pref us)) hlc
        have hts : ts.length ≤ 20 := by
          have : (ts.map (·.2)).length = (prsOf ((ns.take 2).take i) ks).length := by rw [hp]
          rw [List.length_map] at this
          rw [this]
          have h2 : ((ns.take 2).take i).length ≤ 2 := by rw [List.length_take, List.length_take]; omega
          generalize (ns.take 2).take i = zs at h2
          match zs, h2 with
          | [], _ => simp [prsOf]
          | [_], _ => simp [prsOf]; omega
          | [_, _], _ => simp [prsOf]; omega
        refine ⟨l, lc, _, _, rfl, rfl, sc _ _ glc, upd_same, ?_, ts ++ us, _, rfl, ?_, fun u hu' => ?_, ?_, fun c o e hc => ?_⟩
        · unfold pref; rw [List.length_map, List.length_map]; exact Nat.le_trans (by omega) (show 40 ≤ sizeLine by decide)
        · rw [upd_same]; unfold pref; rw [List.map_append]
        · have e : (upd H' lc (.lst (pref us))) u.1 = some (.tup [.str u.2.1, .str u.2.2]) := by
            rcases List.mem_append.mp hu' with h | h
            · exact sc _ _ (s' _ _ (ht u h))
            · exact sc _ _ (hu u h)
          rw [upd_ne (ne_of e (sc _ _ glc) (fun z => nomatch z))]
          exact e
        · rw [List.map_append, hp, hm, take_s ha, prs_snoc, List.take_of_length_le (Nat.le_refl _)]
        · rw [upd_ne hc]; exact sc _ _ (s' _ _ (k _ _ e hc))
    · rintro σ H3 ⟨ts, o3, rfl, gl, ht, hp, k⟩
      refine q l ts H3 (fun c o e => k _ _ (s2 _ _ (s1 _ _ e)) (ne_of_none e hl)) hl gl ht ?_
      rw [hp, List.take_of_length_le (by rw [List.length_map]; exact Nat.le_refl _)]
def numE : KE → Int
  | .busy n _ => n
  | .kept n _ _ _ => n
def NumA (m : KM) : Prop := ∀ q q' e e', m q = some e → m q' = some e' → numE e = numE e' → q = q'
theorem NumA.u {m : KM} (h : NumA m) : NumU m ∧ NumUB m := ⟨fun q q' n t d a t' d' a' h1 h2 => h q q' _ _ h1 h2 rfl, fun q q' n d d' h1 h2 => h q q' _ _ h1 h2 rfl⟩
def numL (life turn : Int) : Option KE → List Int
  | none => []
  | some (.busy n _) => [n]
  | some (.kept n t _ _) => if t + life > turn then [n] else []
theorem numL_cut (life turn : Int) (s : Option KE) : cut (lookV life turn s) (some 1) (some 2) = (numL life turn s).map V.int := by
  match s with
  | none => rfl
  | some (.busy n d) => rfl
  | some (.kept n t d z) =>
    show cut (if t + life > turn then _ else _) _ _ = (if t + life > turn then [n] else []).map V.int
    split <;> rfl
theorem numL_mem {life turn : Int} {s : Option KE} {n : Int} (h : n ∈ numL life turn s) : ∃ e, s = some e ∧ numE e = n := by
  match s with
  | none => cases h
  | some (.busy n' d) => cases List.mem_singleton.mp h; exact ⟨_, rfl, rfl⟩
  | some (.kept n' t d z) =>
    replace h : n ∈ (if t + life > turn then [n'] else []) := h
    split at h
    · cases List.mem_singleton.mp h; exact ⟨_, rfl, rfl⟩
    · cases h
theorem numL_nd (life turn : Int) (s : Option KE) : (numL life turn s).Nodup := by
  match s with
  | none => exact List.nodup_nil
  | some (.busy n d) => exact List.pairwise_singleton _ _
  | some (.kept n t d z) =>
    show (if t + life > turn then [n] else []).Nodup
    split
    · exact List.pairwise_singleton _ _
    · exact List.nodup_nil
theorem numL_len (life turn : Int) (s : Option KE) : (numL life turn s).length ≤ 1 := by
  match s with
  | none => exact Nat.zero_le _
  | some (.busy n d) => exact Nat.le_refl _
  | some (.kept n t d z) =>
    show (if t + life > turn then [n] else []).length ≤ 1
    split <;> simp
def nums (m : KM) (life turn : Int) (qs : List (Str × Str)) : List Int := qs.flatMap fun q => numL life turn (m q)
theorem nums_nd {m : KM} {life turn : Int} (hm : NumA m) : ∀ {qs : List (Str × Str)}, qs.Nodup → (nums m life turn qs).Nodup
  | [], _ => List.nodup_nil
  | q :: r, h => by
    obtain ⟨h1, h2⟩ := List.pairwise_cons.mp h
    show (numL life turn (m q) ++ nums m life turn r).Pairwise (· ≠ ·)
    refine List.pairwise_append.mpr ⟨numL_nd _ _ _, nums_nd hm h2, fun x hx y hy e => ?_⟩
    obtain ⟨q', hq', hy'⟩ := List.mem_flatMap.mp hy
    obtain ⟨e1, a1, b1⟩ := numL_mem hx
    obtain ⟨e2, a2, b2⟩ := numL_mem hy'
    exact h1 q' hq' (hm q q' e1 e2 a1 a2 (by rw [b1, b2]; exact e))
theorem nums_len {m : KM} {life turn : Int} : ∀ {qs : List (Str × Str)}, (nums m life turn qs).length ≤ qs.length
  | [] => Nat.le_refl _
  | q :: r => by
    show (numL life turn (m q) ++ nums m life turn r).length ≤ _
    rw [List.length_append, List.length_cons]
    have := numL_len life turn (m q)
    have := nums_len (m := m) (life := life) (turn := turn) (qs := r)
    omega
theorem nd_leI {xs : List Int} : ∀ {ys : List Int}, xs.Nodup → (∀ x ∈ xs, x ∈ ys) → xs.length ≤ ys.length := by
  induction xs with
  | nil => exact fun _ _ => Nat.zero_le _
  | cons x r ih =>
    intro ys hn h
    obtain ⟨h1, h2⟩ := List.nodup_cons.mp hn
    have hx := h x List.mem_cons_self
    have := ih (ys := ys.erase x) h2 fun y hy => (List.mem_erase_of_ne (fun e => h1 (by rw [← e]; exact hy))).mpr (h y (List.mem_cons_of_mem _ hy))
    rw [List.length_erase_of_mem hx] at this
    have hp : 0 < ys.length := List.length_pos_of_mem hx
    rw [List.length_cons]
    omega
theorem ints_eq {xs ys : List Int} (hx : xs.Pairwise (· ≤ ·)) (hy : ys.Pairwise (· ≤ ·)) (nx : xs.Nodup) (ny : ys.Nodup) (h : ∀ z, z ∈ xs ↔ z ∈ ys) : xs = ys := by
  have up : ∀ {zs : List Int}, zs.Pairwise (· ≤ ·) → zs.Nodup → (zs.map fun z => (z, ([] : List V))).Pairwise (fun a b => a.1 < b.1) := fun {zs} h1 h2 => by
    rw [List.pairwise_map]
    exact (h1.and h2).imp fun {a b} ⟨x, y⟩ => by
      have x' : a ≤ b := x
      have y' : a ≠ b := y
      show a < b
      omega
  have e := rise_eq (up hx nx) (up hy ny) fun z => by
    constructor
    · rintro hz
      obtain ⟨w, hw, rfl⟩ := List.mem_map.mp hz
      exact List.mem_map.mpr ⟨w, (h w).mp hw, rfl⟩
    · rintro hz
      obtain ⟨w, hw, rfl⟩ := List.mem_map.mp hz
      exact List.mem_map.mpr ⟨w, (h w).mpr hw, rfl⟩
  have := congrArg (List.map (·.1)) e
  simpa [List.map_map, Function.comp_def] using this
theorem rep_ints {H : Hp} {l : Addr} (ns : List Int) (hl : ns.length ≤ 1000) : okT 4 (.ls (ns.map fun n => .sc (.int n))) ∧ (H l = some (.lst (ns.map V.int)) → Rep H 4 (.ls (ns.map fun n => .sc (.int n))) (.ref l)) := by
  refine ⟨⟨by rw [List.length_map]; exact hl, fun t ht => ?_⟩, fun g => ⟨l, _, rfl, g, ?_⟩⟩
  · obtain ⟨n, _, rfl⟩ := List.mem_map.mp ht
    exact trivial
  · clear g hl
    induction ns with
    | nil => exact .nil
    | cons n r ih => exact .cons ⟨rfl, rfl⟩ ih
def spRight44 (C : Addr) : Sp := fun vs H Q _ => ∃ (p l lp : Addr) (a : KF) (life turn : Int) (m : KM) (L : Nat) (es : List En) (ts : List TPr) (zn : List Str), vs = [.ref p, .ref l, .ref lp, .int life, .int turn] ∧ KyAt C H p a life m L ∧ L < 64 ∧ EntsAt zn H m ∧ NumA m ∧ H l = some (.lst (eref es)) ∧ LogAt H es ∧ es.length ≤ 100 ∧ (∀ q, V1 (own es q) (m q)) ∧ H lp = some (.lst (pref ts)) ∧ PrAt H ts ∧ ts.length = 6 ∧ (ts.map (·.2)).Nodup ∧ (∀ q e, m q = some e → q ∈ ts.map (·.2)) ∧
  ∀ H', Same H H' → Q (.bl true) H'
theorem ok_right44 {C : Addr} (T : Txt K mg) (c__law_looked : Callee P w K mg base 2 "_law_looked" ["_law_log", "_law_pair", "_law_life", "_law_turn"] spLooked44) (c_Keys_look : Mth P w K mg base 3 C "look" ["self", "asker", "key", "turn"] (spLook C))
    (c_Keys_kept : Mth P w K mg base 3 C "kept" ["self", "turn"] (spKept C)) (c_Keys_under : Mth P w K mg base 1 C "under" ["self"] (spUnder C)) (c__law_same : Callee P w K mg base 6 "_law_same" ["_law_found", "_law_due"] (spSame 4))
    (D : DefAt K mg "_law_right" s_law_right ["_law_keys_here", "_law_log", "_law_pairs_here", "_law_life", "_law_turn"]) : Callee P w K mg base 7 "_law_right" ["_law_keys_here", "_law_log", "_law_pairs_here", "_law_life", "_law_turn"] (spRight44 C) := by
  refine D.go sc_law_right (fun vs H Q E h => ?_) (fun f cdv A outer s H vs Q E hr h => ?_)
  · obtain ⟨p, l, lp, a, life, turn, m, L, es, ts, zn, rfl, _⟩ := h; rfl
  · obtain ⟨p, l, lp, a, life, turn, m, L, es, ts, zn, rfl, ht, hL, he, hA, gl, hlog, h100, hv, gp, hp, h6, hnt, hmt, Q0⟩ := h
    have hr__law_looked : Room 2 _ := hr.mono (by decide)
    have hr_Keys_look : Room 3 _ := hr.mono (by decide)
    have hr_Keys_kept : Room 3 _ := hr.mono (by decide)
    have hr_Keys_under : Room 1 _ := hr.mono (by decide)
    have hr__law_same : Room 6 _ := hr
    obtain ⟨hU, hB⟩ := hA.u
    refine ⟨_, (R.scons (R.set (i := 5) sc_law_right.nd (R.lst R.nil))
      (R.scons (R.for_ PassesOwn.never rfl (R.kwL (K := K) (R.v 2)) (R.gn (i := 6) sc_law_right.nd)
      (R.scons (R.set (i := 7) sc_law_right.nd (R.fn c__law_looked hr__law_looked rfl (R.cons (R.v 1) (R.cons (R.v 6) (R.cons (R.v 3) (R.cons (R.v 4) R.nil))))))
      (R.scons (R.ife (R.tnot (R.val (R.fn c__law_same hr__law_same rfl (R.cons (R.meth c_Keys_look hr_Keys_look (R.v 0) (R.cons (R.ix (R.kiT (K := K)) (R.v 6) R.int) (R.cons (R.ix (R.kiT (K := K)) (R.v 6) R.int) (R.cons (R.v 4) R.nil)))) (R.cons (R.v 7) R.nil)))))
      (R.sone (R.ret R.bl))
      R.snil)
      (R.sone (R.expr (R.kbm (K := K) PySem.F.plainAttrs_list PySem.F.slot_list_extend PySem.F.type_list_extend R.extend (R.v 5) (R.cons (R.callTy (R.ktoList (K := K)) rfl T.b_list bb_list (R.cons (R.sl R.sT (R.v 7) (R.ps R.int) (R.ps R.int)) R.nil)) R.nil)))))))
      (R.scons (R.set (i := 8) sc_law_right.nd (R.op R.cat (R.comp rfl (js := [none]) (N := ["_law_entry"]) (CompScope.by (defScope s_law_right) ["_law_keys_here", "_law_log", "_law_pairs_here", "_law_life", "_law_turn", "_law_numbers", "_law_pair", "_law_due", "_law_found"] rfl rfl (by decide +kernel)) (gown_name rfl) (R.kwL (K := K) (R.meth c_Keys_kept hr_Keys_kept (R.v 0) (R.cons (R.v 4) R.nil))) (fun C s₂ H₂ fp => ⟨(R.gn (i := 0) (show (["_law_entry"] : List Str).Nodup by decide +kernel)), R.ts0, (R.ix (R.kiT (K := K)) (R.v 0) R.int)⟩)) (R.comp rfl (js := [none]) (N := ["_law_entry"]) (CompScope.by (defScope s_law_right) ["_law_keys_here", "_law_log", "_law_pairs_here", "_law_life", "_law_turn", "_law_numbers", "_law_pair", "_law_due", "_law_found"] rfl rfl (by decide +kernel)) (gown_name rfl) (R.kwL (K := K) (R.meth0 c_Keys_under hr_Keys_under (R.v 0))) (fun C s₂ H₂ fp => ⟨(R.gn (i := 0) (show (["_law_entry"] : List Str).Nodup by decide +kernel)), R.ts0, (R.ix (R.kiT (K := K)) (R.v 0) R.int)⟩))))
      (R.sone (R.ret (R.and (R.fn c__law_same hr__law_same rfl (R.cons (R.callB (R.ksortedI (K := K)) rfl T.b_sorted bb_sorted (R.cons (R.v 8) R.nil)) (R.cons (R.callB (R.ksortedI (K := K)) rfl T.b_sorted bb_sorted (R.cons (R.v 5) R.nil)) R.nil))) (R.one (R.cmp R.eq (R.callB R.lenSt rfl T.b_len bb_len (R.cons (R.callTy (R.ksetI (K := K) rfl) rfl T.b_set bb_set (R.cons (R.v 5) R.nil)) R.nil)) (R.callB (R.klenL (K := K)) rfl T.b_len bb_len (R.cons (R.v 5) R.nil)))))))))), ?_⟩
    refine ⟨szl rfl, fun lu hlu => ?_⟩
    dsimp only [gName]
    have s1 := same_upd (o := .lst []) hlu
    have gu : (upd H lu (.lst [])) lu = some (.lst []) := upd_same
    generalize upd H lu (.lst []) = G at s1 gu ⊢
    have npu : lp ≠ lu := ne_of_none gp hlu
    refine ⟨lp, rfl, ⟨_, SqL.of (s1 _ _ gp)⟩, ?_⟩
    have kk : ∀ {G' : Hp}, (∀ c v, G c = some v → c ≠ lu → G' c = some v) → Same H G' := fun {G'} k c v e => k _ _ (s1 _ _ e) (ne_of_none e hlu)
    refine for_seq (seq_list K lp (pref ts)) (fun i σ H' => ∃ (o6 o7 o8 : Option V), σ = [some (.ref p), some (.ref l), some (.ref lp), some (.int life), some (.int turn), some (.ref lu), o6, o7, o8] ∧ H' lu = some (.lst ((nums m life turn ((ts.take i).map (·.2))).map V.int)) ∧ (∀ c v, G c = some v → c ≠ lu → H' c = some v))
      (fun i σ H' ⟨_, _, _, _, _, k⟩ => SqL.of (k _ _ (s1 _ _ gp) npu)) ⟨_, _, _, rfl, gu, fun c v e _ => e⟩ ?_ ?_
    · rintro i v σ H' hv' ⟨o6, o7, o8, rfl, gn, k⟩
      unfold pref at hv'
      rw [List.getElem?_map] at hv'
      obtain ⟨t, hti, rfl⟩ := Option.map_eq_some_iff.mp hv'
      have sH := kk k
      have gt := sH _ _ (hp t (List.mem_of_getElem? hti))
      have ht1 := ht.same sH
      dsimp only [gName]
      refine ⟨l, t.1, es, t.2, m t.2, life, turn, rfl, sH _ _ gl, hlog.keep (fun b xs e => sH _ _ e), gt, h100, hv t.2, fun u H3 s3 g3 => ?_⟩
      dsimp only [gName]
      have ht3 := ht1.same s3
      have gt3 := s3 _ _ gt
      refine ⟨a.dx, _, ht3.hp, kf_no a life (by decide +kernel) (by decide +kernel) (by decide +kernel), _, SqT.of gt3, _, rfl, _, SqT.of gt3, _, rfl, p, a, life, m, L, t.2, turn, rfl, ht3, fun u2 H4 s4 g4 => ?_⟩
      have he4 : EntsAt zn H4 m := fun q e h => (he q e h).keep (fun b xs g => s4 _ _ (s3 _ _ (sH _ _ g)))
      obtain ⟨tr, ok, rp⟩ := lookRep he4 t.2 life turn 1
      refine ⟨_, _, tr, rfl, rp u2 g4, rp u (s4 _ _ g3), ok, fun H5 s5 => ?_⟩
      have s15 : Same H' H5 := (s3.trans s4).trans s5
      have gu5 : H5 u = some (.tup (lookV life turn (m t.2))) := s5 _ _ (s4 _ _ g3)
      have gn5 := s15 _ _ gn
      refine ⟨.inl ⟨rfl, _, SqL.of gn5⟩, _, gu5, fun t6 H6 s6 g6 => ⟨_, .inr (SqT.of g6), fun lc hlc => ?_⟩⟩
      rw [numL_cut]
      have gn6 := s6 _ _ gn5
      have nlc : lu ≠ lc := ne_of_none gn6 hlc
      have sc := same_upd (o := .lst ((numL life turn (m t.2)).map V.int)) hlc
      have htl : (ts.take i).length ≤ 6 := by rw [List.length_take, h6]; exact Nat.min_le_right _ _
      have hnl := nums_len (m := m) (life := life) (turn := turn) (qs := (ts.take i).map (·.2))
      rw [List.length_map] at hnl
      have hn1 := numL_len life turn (m t.2)
      refine ⟨lu, lc, _, _, rfl, rfl, sc _ _ gn6, upd_same, ?_, _, _, _, rfl, ?_, fun c v e hc => ?_⟩
      · rw [List.length_map, List.length_map]; exact Nat.le_trans (show _ ≤ 20 by omega) (by decide)
      · rw [upd_same]
        have e : (ts.take (i + 1)).map (·.2) = (ts.take i).map (·.2) ++ [t.2] := by rw [List.take_succ, hti, List.map_append]; rfl
        rw [e]
        unfold nums
        rw [List.flatMap_append, List.map_append]
        simp
      · rw [upd_ne hc]; exact sc _ _ (s6 _ _ (s15 _ _ (k _ _ e hc)))
    · rintro σ HA ⟨o6, o7, o8, rfl, gn, k⟩
      have hlen : (pref ts).length = 6 := by unfold pref; rw [List.length_map, h6]
      rw [hlen, List.take_of_length_le (by rw [h6]; exact Nat.le_refl _)] at gn
      have sA := kk k
      have htA := ht.same sA
      obtain ⟨ns, hns⟩ : ∃ ns, ns = nums m life turn (ts.map (·.2)) := ⟨_, rfl⟩
      rw [← hns] at gn
      have nsd : ns.Nodup := by rw [hns]; exact nums_nd hA hnt
      have nsl : ns.length ≤ 6 := by
        have := nums_len (m := m) (life := life) (turn := turn) (qs := ts.map (·.2))
        rw [List.length_map, h6] at this
        rw [hns]; exact this
      have nsm : ∀ n, n ∈ ns ↔ (∃ q t d z, m q = some (.kept n t d z) ∧ t + life > turn) ∨ ∃ q d, m q = some (.busy n d) := fun n => by
        rw [hns]
        constructor
        · intro h
          obtain ⟨q, hq, h⟩ := List.mem_flatMap.mp h
          cases hm : m q with
          | none => rw [hm] at h; cases h
          | some e =>
            rw [hm] at h
            cases e with
            | busy n' d => cases List.mem_singleton.mp h; exact .inr ⟨q, d, hm⟩
            | kept n' t d z =>
              replace h : n ∈ (if t + life > turn then [n'] else []) := h
              split at h
              · rename_i al; cases List.mem_singleton.mp h; exact .inl ⟨q, t, d, z, hm, al⟩
              · cases h
        · rintro (⟨q, t, d, z, hm, al⟩ | ⟨q, d, hm⟩)
          · refine List.mem_flatMap.mpr ⟨q, hmt q _ hm, ?_⟩
            rw [hm]
            show n ∈ (if t + life > turn then [n] else [])
            rw [if_pos al]
            exact List.mem_singleton.mpr rfl
          · refine List.mem_flatMap.mpr ⟨q, hmt q _ hm, ?_⟩
            rw [hm]
            exact List.mem_singleton.mpr rfl
      refine ⟨a.dx, _, htA.hp, kf_no a life (by decide +kernel) (by decide +kernel) (by decide +kernel), p, a, life, turn, m, L, rfl, htA, hL, hU, fun lf zf H2 s2 flf glf hzf hpf hnf hrf hf64 => ⟨lf, rfl, ⟨_, SqL.of glf⟩, ?_⟩⟩
      have comp1 : ∀ {zs : List Tn} {j : Nat} {y : V}, (nref zs)[j]? = some y → ∃ z, zs[j]? = some z ∧ y = .ref z.2.1 := fun {zs j y} h => by
        unfold nref at h
        rw [List.getElem?_map] at h
        obtain ⟨z, hz, rfl⟩ := Option.map_eq_some_iff.mp h
        exact ⟨z, hz, rfl⟩
      refine comp_seq (seq_list K lf (nref zf)) (by unfold nref; rw [List.length_map]; omega) (fun j ys H'' => H'' = H2 ∧ ys = ((zf.take j).map (·.1)).map V.int) (fun j ys H'' ⟨e, e2⟩ => ⟨by rw [e]; exact SqL.of glf, by rw [e2, List.length_map, List.length_map, List.length_take]; exact Nat.min_le_left _ _⟩) ⟨rfl, rfl⟩ ?_ ?_
      · rintro j y ys H'' hy ⟨rfl, rfl⟩
        obtain ⟨z, hz, rfl⟩ := comp1 hy
        refine ⟨_, SqT.of (hzf z (List.mem_of_getElem? hz)), .int z.1, atI_nat (j := 0) rfl, rfl, ?_⟩
        rw [List.take_succ, hz, List.map_append, List.map_append]
        rfl
      rintro ys H'' ⟨rfl, e2⟩
      have hlz : (nref zf).length = zf.length := by unfold nref; rw [List.length_map]
      rw [hlz, List.take_of_length_le (Nat.le_refl _)] at e2
      subst e2
      intro l3 h3
      have s3 := same_upd (o := .lst ((zf.map (·.1)).map V.int)) h3
      have g3 : (upd H'' l3 (.lst ((zf.map (·.1)).map V.int))) l3 = some (.lst ((zf.map (·.1)).map V.int)) := upd_same
      generalize upd H'' l3 (.lst ((zf.map (·.1)).map V.int)) = H3 at s3 g3 ⊢
      have htB := (htA.same s2).same s3
      refine ⟨a.dx, _, htB.hp, kf_no a life (by decide +kernel) (by decide +kernel) (by decide +kernel), p, a, life, m, L, rfl, htB, hL, hB, fun lo zo H4 s4 flo glo hzo hpo hno hro ho64 => ⟨lo, rfl, ⟨_, SqL.of glo⟩, ?_⟩⟩
      refine comp_seq (seq_list K lo (nref zo)) (by unfold nref; rw [List.length_map]; omega) (fun j ys H'' => H'' = H4 ∧ ys = ((zo.take j).map (·.1)).map V.int) (fun j ys H'' ⟨e, e2⟩ => ⟨by rw [e]; exact SqL.of glo, by rw [e2, List.length_map, List.length_map, List.length_take]; exact Nat.min_le_left _ _⟩) ⟨rfl, rfl⟩ ?_ ?_
      · rintro j y ys H5 hy ⟨rfl, rfl⟩
        obtain ⟨z, hz, rfl⟩ := comp1 hy
        refine ⟨_, SqT.of (hzo z (List.mem_of_getElem? hz)), .int z.1, atI_nat (j := 0) rfl, rfl, ?_⟩
        rw [List.take_succ, hz, List.map_append, List.map_append]
        rfl
      rintro ys H5 ⟨rfl, e2⟩
      have hlz2 : (nref zo).length = zo.length := by unfold nref; rw [List.length_map]
      rw [hlz2, List.take_of_length_le (Nat.le_refl _)] at e2
      subst e2
      intro l5 h5
      have s5 := same_upd (o := .lst ((zo.map (·.1)).map V.int)) h5
      have g5 : (upd H5 l5 (.lst ((zo.map (·.1)).map V.int))) l5 = some (.lst ((zo.map (·.1)).map V.int)) := upd_same
      generalize upd H5 l5 (.lst ((zo.map (·.1)).map V.int)) = H6 at s5 g5 ⊢
      have fsd : (zf.map (·.1) ++ zo.map (·.1)).Nodup := by
        refine List.pairwise_append.mpr ⟨hnf, hno, fun x hx y hy e => ?_⟩
        obtain ⟨z1, hz1, rfl⟩ := List.mem_map.mp hx
        obtain ⟨z2, hz2, rfl⟩ := List.mem_map.mp hy
        obtain ⟨q1, t1, d1, b1, hm1, _⟩ := (hrf z1.1 z1.2.2).mp (List.mem_map.mpr ⟨z1, hz1, rfl⟩)
        obtain ⟨q2, d2, hm2, _⟩ := (hro z2.1 z2.2.2).mp (List.mem_map.mpr ⟨z2, hz2, rfl⟩)
        have := hA q1 q2 _ _ hm1 hm2 e
        rw [this, hm2] at hm1
        cases hm1
      have fsm : ∀ n, n ∈ zf.map (·.1) ++ zo.map (·.1) ↔ n ∈ ns := fun n => by
        rw [nsm n, List.mem_append]
        constructor
        · rintro (h | h)
          · obtain ⟨z1, hz1, rfl⟩ := List.mem_map.mp h
            obtain ⟨q1, t1, d1, b1, hm1, al, _⟩ := (hrf z1.1 z1.2.2).mp (List.mem_map.mpr ⟨z1, hz1, rfl⟩)
            exact .inl ⟨q1, t1, d1, b1, hm1, al⟩
          · obtain ⟨z2, hz2, rfl⟩ := List.mem_map.mp h
            obtain ⟨q2, d2, hm2, _⟩ := (hro z2.1 z2.2.2).mp (List.mem_map.mpr ⟨z2, hz2, rfl⟩)
            exact .inr ⟨q2, d2, hm2⟩
        · rintro (⟨q, t, d, z, hm, al⟩ | ⟨q, d, hm⟩)
          · have := (hrf n (restK t q d z)).mpr ⟨q, t, d, z, hm, al, rfl⟩
            obtain ⟨z1, hz1, e1⟩ := List.mem_map.mp this
            exact .inl (List.mem_map.mpr ⟨z1, hz1, (Prod.mk.inj e1).1⟩)
          · have := (hro n (restU q d)).mpr ⟨q, d, hm, rfl⟩
            obtain ⟨z1, hz1, e1⟩ := List.mem_map.mp this
            exact .inr (List.mem_map.mpr ⟨z1, hz1, (Prod.mk.inj e1).1⟩)
      have fsl := nd_leI fsd fun x hx => (fsm x).mp hx
      refine ⟨_, _, s5 _ _ (s4 _ _ g3), g5, ?_, fun l7 h7 => ?_⟩
      · simp only [List.length_append, List.length_map] at fsl ⊢
        exact Nat.le_trans (show _ ≤ 6 by omega) (by decide)
      dsimp only [gName]
      have s7 := same_upd (o := .lst ((zf.map (·.1) ++ zo.map (·.1)).map V.int)) h7
      have g7 : (upd H6 l7 (.lst ((zf.map (·.1) ++ zo.map (·.1)).map V.int))) l7 = some (.lst ((zf.map (·.1) ++ zo.map (·.1)).map V.int)) := upd_same
      rw [← List.map_append]
      generalize upd H6 l7 (.lst ((zf.map (·.1) ++ zo.map (·.1)).map V.int)) = H7 at s7 g7 ⊢
      have sA7 : Same HA H7 := (((s2.trans s3).trans s4).trans s5).trans s7
      refine ⟨_, SqL.of g7, by omega, fun l8 n8 h8 hp8 hs8 => ?_⟩
      have s8 := same_upd (o := .lst (n8.map V.int)) h8
      have g8 : (upd H7 l8 (.lst (n8.map V.int))) l8 = some (.lst (n8.map V.int)) := upd_same
      generalize upd H7 l8 (.lst (n8.map V.int)) = H8 at s8 g8 ⊢
      refine ⟨ns, SqL.of (s8 _ _ (sA7 _ _ gn)), by omega, fun l9 n9 h9 hp9 hs9 => ?_⟩
      have s9 := same_upd (o := .lst (n9.map V.int)) h9
      have g9 : (upd H8 l9 (.lst (n9.map V.int))) l9 = some (.lst (n9.map V.int)) := upd_same
      generalize upd H8 l9 (.lst (n9.map V.int)) = H9 at s9 g9 ⊢
      have e89 : n8 = n9 := ints_eq hs8 hs9 (hp8.nodup_iff.mpr fsd) (hp9.nodup_iff.mpr nsd) fun z => by rw [hp8.mem_iff, hp9.mem_iff]; exact fsm z
      subst e89
      obtain ⟨ok, rp⟩ := rep_ints (H := H9) (l := l8) n8 (by rw [hp9.length_eq]; omega)
      obtain ⟨_, rp2⟩ := rep_ints (H := H9) (l := l9) n8 (by rw [hp9.length_eq]; omega)
      refine ⟨_, _, _, rfl, rp (s9 _ _ g8), rp2 g9, ok, fun H10 s10 => ?_⟩
      have sA10 : Same HA H10 := ((sA7.trans s8).trans s9).trans s10
      refine ⟨ns, SqL.of (sA10 _ _ gn), by omega, nsd, fun l11 h11 => ⟨_, upd_same, by omega, ?_⟩⟩
      have s11 := same_upd (o := .ext (SetI l11 ns.length)) h11
      refine ⟨_, .inl (SqL.of (s11 _ _ (sA10 _ _ gn))), ?_⟩
      have := Q0 _ (sA.trans (sA10.trans s11))
      show Q (.bl (decide (((ns.length : Nat) : Int) = (((ns.map V.int).length : Nat) : Int)))) _
      rw [List.length_map, decide_eq_true rfl]
      exact this
end
end KL
namespace KL
open PySem L2
section
variable {P : Program} {w : World} {K : W.Frag} {mg : Str → Option Value} {base : Heap}
theorem FrK.ko {C : Addr} {H H' : Hp} {p : Addr} {a : KF} {life : Int} {m : KM} {L : Nat} (fr : FrK H H' a) (h : KyAt C H p a life m L) {c : Addr} {o : HO} (e : H c = some o) (hn : ∀ kv, o ≠ .dT kv) : H' c = some o := by
  obtain ⟨b1, g1, _⟩ := h.hb
  obtain ⟨b2, g2, _⟩ := h.hs
  exact fr _ _ e (fun z => by rw [z, g1] at e; cases e; exact hn _ rfl) (fun z => by rw [z, g2] at e; cases e; exact hn _ rfl)
section
variable {C : Addr} {H H' : Hp} {zs : List Str} {p p' : Addr} {a a' : KF} {life life' : Int} {m m' : KM} {ld ld' pen : Addr} {L L' : Nat}
theorem KyAt.byPen (h : KyAt C H p a life m L) (pn : PenAt H pen) (k : K1 pen H H') : KyAt C H' p a life m L :=
  h.keep fun b o e hn => k _ _ e (fun z => by obtain ⟨i, j, g, _⟩ := pn; rw [z, g] at e; cases e; exact hn _ rfl)
theorem EntsAt.set {q : Str × Str} {o : Option KE} (h : EntsAt zs H m) (ho : ∀ e, o = some e → EntAt zs H e) : EntsAt zs H (m.set q o) := fun r e he => by
  by_cases hq : r = q
  · rw [hq, KM.set_same] at he; exact ho _ he
  · rw [KM.set_ne hq] at he; exact h r e he
theorem EntsAt.keep (h : EntsAt zs H m) (k : ∀ b xs, H b = some (.tup xs) → H' b = some (.tup xs)) : EntsAt zs H' m := fun q e he => (h q e he).keep k
end
def NumI (num : Nat → Int) (m : KM) (i : Nat) : Prop := ∃ w : Str × Str → Nat, (∀ q e, m q = some e → w q < i ∧ numE e = num (w q)) ∧ ∀ q q', (m q).isSome = true → (m q').isSome = true → w q = w q' → q = q'
theorem NumI.nil {num : Nat → Int} : NumI num (fun _ => none) 0 := ⟨fun _ => 0, fun _ _ h => (by cases h), fun _ _ h => (by cases h)⟩
theorem NumI.begin {num : Nat → Int} {m : KM} {i : Nat} {q : Str × Str} {d : Addr} (h : NumI num m i) : NumI num (m.set q (some (.busy (num i) d))) (i + 1) := by
  obtain ⟨w, h1, h2⟩ := h
  refine ⟨fun r => if r = q then i else w r, fun r e he => ?_, fun r r' hr hr' hw => ?_⟩
  · by_cases hq : r = q
    · rw [hq, KM.set_same] at he
      cases he
      dsimp only
      rw [if_pos hq]
      exact ⟨Nat.lt_succ_self _, rfl⟩
    · rw [KM.set_ne hq] at he
      dsimp only
      rw [if_neg hq]
      exact ⟨Nat.lt_succ_of_lt (h1 r e he).1, (h1 r e he).2⟩
  · dsimp only at hw
    have lt : ∀ {r}, r ≠ q → ((m.set q (some (.busy (num i) d))) r).isSome = true → w r < i := fun {r} hne hs => by
      rw [KM.set_ne hne] at hs
      obtain ⟨e, he⟩ := Option.isSome_iff_exists.mp hs
      exact (h1 r e he).1
    by_cases a1 : r = q
    · by_cases a2 : r' = q
      · rw [a1, a2]
      · rw [if_pos a1, if_neg a2] at hw
        have := lt a2 hr'
        omega
    · by_cases a2 : r' = q
      · rw [if_neg a1, if_pos a2] at hw
        have := lt a1 hr
        omega
      · rw [if_neg a1, if_neg a2] at hw
        rw [KM.set_ne a1] at hr
        rw [KM.set_ne a2] at hr'
        exact h2 r r' hr hr' hw
theorem NumI.other {num : Nat → Int} {m : KM} {i : Nat} {q : Str × Str} {o : Option KE} {e0 : KE} (h : NumI num m i) (hm : m q = some e0) (ho : ∀ e, o = some e → numE e = numE e0) : NumI num (m.set q o) (i + 1) := by
  obtain ⟨w, h1, h2⟩ := h
  have sm : ∀ {r}, ((m.set q o) r).isSome = true → (m r).isSome = true := fun {r} hs => by
    by_cases hq : r = q
    · rw [hq, hm]; rfl
    · rw [KM.set_ne hq] at hs; exact hs
  refine ⟨w, fun r e he => ?_, fun r r' hr hr' hw => h2 r r' (sm hr) (sm hr') hw⟩
  by_cases hq : r = q
  · rw [hq, KM.set_same] at he
    rw [hq]
    exact ⟨Nat.lt_succ_of_lt (h1 q e0 hm).1, (ho e he).trans (h1 q e0 hm).2⟩
  · rw [KM.set_ne hq] at he
    exact ⟨Nat.lt_succ_of_lt (h1 r e he).1, (h1 r e he).2⟩
theorem coprime_p : ∀ d, d < 64 → d ≠ 0 → Nat.Coprime d 999983 := by decide +kernel
theorem num_lt {s t : Int} (h0 : 1 ≤ t) (h1 : t < 999983) {j k : Nat} (hj : j < k) (hk : k < 64) : (s + t * (j : Int)) % 999983 ≠ (s + t * (k : Int)) % 999983 := fun e => by
  have hd : (999983 : Int) ∣ (s + t * (k : Int)) - (s + t * (j : Int)) := Int.dvd_of_emod_eq_zero (Int.emod_eq_emod_iff_emod_sub_eq_zero.mp e.symm)
  have e2 : (s + t * (k : Int)) - (s + t * (j : Int)) = t * ((k : Int) - j) := by rw [Int.mul_sub]; omega
  rw [e2] at hd
  obtain ⟨tn, rfl⟩ := Int.eq_ofNat_of_zero_le (show 0 ≤ t by omega)
  have e3 : (k : Int) - j = ((k - j : Nat) : Int) := by omega
  rw [e3, ← Int.natCast_mul] at hd
  have hd' : 999983 ∣ tn * (k - j) := Int.natCast_dvd_natCast.mp hd
  have cp := coprime_p (k - j) (by omega) (by omega)
  have := Nat.Coprime.dvd_of_dvd_mul_right cp.symm hd'
  have := Nat.le_of_dvd (by omega) this
  omega
theorem num_inj {s t : Int} (h0 : 1 ≤ t) (h1 : t < 999983) {j k : Nat} (hj : j < 64) (hk : k < 64) (e : 1 + (s + t * (j : Int)) % 999983 = 1 + (s + t * (k : Int)) % 999983) : j = k := by
  have e' : (s + t * (j : Int)) % 999983 = (s + t * (k : Int)) % 999983 := by omega
  rcases Nat.lt_trichotomy j k with h | h | h
  · exact absurd e' (num_lt h0 h1 h hk)
  · exact h
  · exact absurd e'.symm (num_lt h0 h1 h hj)
theorem NumI.a {num : Nat → Int} {m : KM} {i : Nat} (h : NumI num m i) (inj : ∀ j k, j < i → k < i → num j = num k → j = k) : NumA m := by
  obtain ⟨w, h1, h2⟩ := h
  intro q q' e e' hq hq' hn
  obtain ⟨a1, b1⟩ := h1 q e hq
  obtain ⟨a2, b2⟩ := h1 q' e' hq'
  exact h2 q q' (by rw [hq]; rfl) (by rw [hq']; rfl) (inj _ _ a1 a2 (by rw [← b1, ← b2]; exact hn))
theorem NumI.skip {num : Nat → Int} {m : KM} {i : Nat} (h : NumI num m i) : NumI num m (i + 1) := by
  obtain ⟨w, h1, h2⟩ := h
  exact ⟨w, fun q e he => ⟨Nat.lt_succ_of_lt (h1 q e he).1, (h1 q e he).2⟩, h2⟩
theorem prs_nodup {ns ks : List Str} (hn : ns.Nodup) (hk : ks.Nodup) : (prsOf ns ks).Nodup := by
  induction ns with
  | nil => exact List.nodup_nil
  | cons a r ih =>
    obtain ⟨h1, h2⟩ := List.pairwise_cons.mp hn
    show ((ks.map fun k => (a, k)) ++ prsOf r ks).Pairwise (· ≠ ·)
    refine List.pairwise_append.mpr ⟨?_, ih h2, fun x hx y hy e => ?_⟩
    · rw [List.pairwise_map]
      exact List.Pairwise.imp (fun {x y} h e => h (Prod.mk.inj e).2) hk
    · obtain ⟨k, _, rfl⟩ := List.mem_map.mp hx
      obtain ⟨b, hb, hy⟩ := List.mem_flatMap.mp hy
      obtain ⟨k', _, rfl⟩ := List.mem_map.mp hy
      exact h1 b hb (Prod.mk.inj e).1
theorem V1.fn {l : List En} {s s' : Option KE} (h : V1 l s) (h' : V1 l s') : s = s' := by
  rcases h.sum with ⟨e, rfl⟩ | ⟨x, b, n, d, hx, hb, hk, hc⟩
  · rcases h'.sum with ⟨_, rfl⟩ | ⟨x', b', n', d', hx', _⟩
    · rfl
    · rw [e] at hx'; cases hx'
  · rcases h'.sum with ⟨e, _⟩ | ⟨x', b', n', d', hx', hb', hk', hc'⟩
    · rw [e] at hx; cases hx
    · rw [hx] at hx'; cases hx'
      rw [hb] at hb'; cases hb'
      rw [hk] at hk'; cases hk'
      rcases hc with ⟨h1, e1⟩ | ⟨h1, e1⟩ | ⟨w, z, h1, e1⟩ <;> rcases hc' with ⟨h2, e2⟩ | ⟨h2, e2⟩ | ⟨w', z', h2, e2⟩ <;> rw [h1] at h2 <;> cases h2 <;> rw [e1, e2]
theorem V1.inv {l : List En} {x : En} {s : Option KE} (h : V1 (l ++ [x]) s) : ∃ s0, V1 l s0 ∧ ((∃ n d, x.k = .begin n d ∧ (∀ n d, s0 ≠ some (.busy n d)) ∧ s = some (.busy n d)) ∨ (∃ n d, x.k = .drop ∧ s0 = some (.busy n d) ∧ s = none) ∨ ∃ n d w z, x.k = .settle w z ∧ s0 = some (.busy n d) ∧ s = some (.kept n w d z)) := by
  generalize hl : l ++ [x] = l' at h
  cases h with
  | nil => exact absurd hl (by simp)
  | beg h hs hk =>
    obtain ⟨e1, e2⟩ := List.append_inj' hl rfl
    cases e1
    cases e2
    exact ⟨_, h, .inl ⟨_, _, hk, hs, rfl⟩⟩
  | drop h hk =>
    obtain ⟨e1, e2⟩ := List.append_inj' hl rfl
    cases e1
    cases e2
    exact ⟨_, h, .inr (.inl ⟨_, _, hk, rfl, rfl⟩)⟩
  | settle h hk =>
    obtain ⟨e1, e2⟩ := List.append_inj' hl rfl
    cases e1
    cases e2
    exact ⟨_, h, .inr (.inr ⟨_, _, _, _, hk, rfl, rfl⟩)⟩
theorem V1.step {l : List En} {x : En} {s : Option KE} {m : KM} (h : V1 (l ++ [x]) s) (hm : V1 l (m x.q)) : ∃ m', stepK m x = some m' ∧ m' x.q = s := by
  obtain ⟨s0, h0, hc⟩ := h.inv
  have e := h0.fn hm
  subst e
  unfold stepK
  rcases hc with ⟨n, d, hk, hs, rfl⟩ | ⟨n, d, hk, hs, rfl⟩ | ⟨n, d, w, z, hk, hs, rfl⟩
  · rw [hk]
    cases hq : m x.q with
    | none => exact ⟨_, rfl, KM.set_same⟩
    | some e =>
      cases e with
      | busy n' d' => exact absurd hq (hs n' d')
      | kept => exact ⟨_, rfl, KM.set_same⟩
  · rw [hk, hs]; exact ⟨_, rfl, KM.set_same⟩
  · rw [hk, hs]; exact ⟨_, rfl, KM.set_same⟩
theorem V1.pre : ∀ (n : Nat) {l r : List En} {s : Option KE}, r.length = n → V1 (l ++ r) s → ∃ s', V1 l s'
  | 0, l, r, s, hr, h => by
    rw [List.length_eq_zero_iff.mp hr, List.append_nil] at h
    exact ⟨s, h⟩
  | n + 1, l, r, s, hr, h => by
    rcases List.eq_nil_or_concat r with rfl | ⟨r', x, rfl⟩
    · cases hr
    · rw [List.concat_eq_append, ← List.append_assoc] at h
      obtain ⟨s0, h0, _⟩ := h.inv
      exact V1.pre n (by simpa using hr) h0
theorem V1.snoc {l : List En} {x : En} {m m' : KM} (h : V1 l (m x.q)) (hs : stepK m x = some m') : V1 (l ++ [x]) (m' x.q) := by
  unfold stepK at hs
  cases hk : x.k with
  | begin n d =>
    rw [hk] at hs
    cases hq : m x.q with
    | none => rw [hq] at hs h; cases hs; rw [KM.set_same]; exact .beg h (fun _ _ z => nomatch z) hk
    | some e =>
      rw [hq] at hs h
      cases e with
      | busy => cases hs
      | kept => cases hs; rw [KM.set_same]; exact .beg h (fun _ _ z => nomatch z) hk
  | drop =>
    rw [hk] at hs
    cases hq : m x.q with
    | none => rw [hq] at hs; cases hs
    | some e =>
      rw [hq] at hs h
      cases e with
      | busy => cases hs; rw [KM.set_same]; exact .drop h hk
      | kept => cases hs
  | settle w z =>
    rw [hk] at hs
    cases hq : m x.q with
    | none => rw [hq] at hs; cases hs
    | some e =>
      rw [hq] at hs h
      cases e with
      | busy => cases hs; rw [KM.set_same]; exact .settle h hk
      | kept => cases hs
theorem stepK_ne {m m' : KM} {x : En} (h : stepK m x = some m') {q : Str × Str} (hq : q ≠ x.q) : m' q = m q := by
  unfold stepK at h
  split at h <;> first | (cases h; done) | (cases h; exact KM.set_ne hq)
theorem own_snoc (es : List En) (x : En) (q : Str × Str) : own (es ++ [x]) q = own es q ++ (if x.q = q then [x] else []) := by
  unfold own
  rw [List.filter_append]
  congr 1
  by_cases h : x.q = q <;> simp [h]
end
end KL
namespace KL
open PySem L2
section
variable {P : Program} {w : World} {K : W.Frag} {mg : Str → Option Value} {base : Heap}
def spLaw (K : W.Frag) : Sp := fun vs H Q _ => ∃ (a : Addr) (ns : List Int), vs = [.ref a] ∧ SqL K H a (ns.map V.int) ∧ ns.length ≤ 63 ∧ ∀ H', Q (.bl true) H'
def DeedsAt (zn : List Str) (H : Hp) (es : List En) : Prop := ∀ x ∈ es, ∀ n d, x.k = .begin n d → ∃ xs, H d = some (.tup xs) ∧ Deed6 zn xs
theorem DeedsAt.keep {zn : List Str} {H H' : Hp} {es : List En} (h : DeedsAt zn H es) (k : ∀ b xs, H b = some (.tup xs) → H' b = some (.tup xs)) : DeedsAt zn H' es := fun x hx n d e => let ⟨xs, g, r⟩ := h x hx n d e; ⟨xs, k _ _ g, r⟩
structure StL (C : Addr) (H : Hp) (zn : List Str) (p : Addr) (a : KF) (life : Int) (m : KM) (l : Addr) (es : List En) (L : Nat) : Prop where
  ky : KyAt C H p a life m L
  en : EntsAt zn H m
  gl : H l = some (.lst (eref es))
  lg : LogAt H es
  dd : DeedsAt zn H es
  ln : es.length ≤ L
  v : ∀ q, V1 (own es q) (m q)
theorem StL.byPen {C : Addr} {H H' : Hp} {zn : List Str} {p : Addr} {a : KF} {life : Int} {m : KM} {l : Addr} {es : List En} {L : Nat} {pen : Addr} (h : StL C H zn p a life m l es L) (pn : PenAt H pen) (k : K1 pen H H') (nl : l ≠ pen) : StL C H' zn p a life m l es L := by
  have kt : ∀ b xs, H b = some (.tup xs) → H' b = some (.tup xs) := fun b xs e => k _ _ e (PenAt.tup pn e)
  exact ⟨KyAt.byPen h.ky pn k, h.en.keep kt, k _ _ h.gl nl, h.lg.keep kt, h.dd.keep kt, h.ln, h.v⟩
theorem StL.same {C : Addr} {H H' : Hp} {zn : List Str} {p : Addr} {a : KF} {life : Int} {m : KM} {l : Addr} {es : List En} {L : Nat} (h : StL C H zn p a life m l es L) (s : Same H H') : StL C H' zn p a life m l es L :=
  ⟨h.ky.same s, h.en.keep (fun b xs e => s _ _ e), s _ _ h.gl, h.lg.keep (fun b xs e => s _ _ e), h.dd.keep (fun b xs e => s _ _ e), h.ln, h.v⟩
def busyB : Option KE → Bool
  | some (.busy _ _) => true
  | _ => false
theorem step_none {m : KM} {x : En} {way n w : Int} {d z : Addr} (hx : (way = 0 ∧ x.k = .begin n d) ∨ (way = 1 ∧ x.k = .drop) ∨ (1 < way ∧ x.k = .settle w z)) : (stepK m x).isNone = decide (busyB (m x.q) = decide (way = 0)) := by
  unfold stepK
  rcases hx with ⟨hw, hk⟩ | ⟨hw, hk⟩ | ⟨hw, hk⟩
  · rw [hk, decide_eq_true hw]
    cases hm : m x.q with
    | none => rfl
    | some e => cases e <;> rfl
  · have hd : decide (way = 0) = false := decide_eq_false (by omega)
    rw [hk, hd]
    cases hm : m x.q with
    | none => rfl
    | some e => cases e <;> rfl
  · have hd : decide (way = 0) = false := decide_eq_false (by omega)
    rw [hk, hd]
    cases hm : m x.q with
    | none => rfl
    | some e => cases e <;> rfl
theorem step_cases {m m' : KM} {x : En} (h : stepK m x = some m') : (∃ n d, x.k = .begin n d ∧ m' = m.set x.q (some (.busy n d))) ∨ (∃ n d, x.k = .drop ∧ m x.q = some (.busy n d) ∧ m' = m.set x.q none) ∨ ∃ n d w z, x.k = .settle w z ∧ m x.q = some (.busy n d) ∧ m' = m.set x.q (some (.kept n w d z)) := by
  unfold stepK at h
  cases hk : x.k with
  | begin n d =>
    rw [hk] at h
    cases hq : m x.q with
    | none => rw [hq] at h; cases h; exact .inl ⟨n, d, rfl, rfl⟩
    | some e =>
      rw [hq] at h
      cases e with
      | busy => cases h
      | kept => cases h; exact .inl ⟨n, d, rfl, rfl⟩
  | drop =>
    rw [hk] at h
    cases hq : m x.q with
    | none => rw [hq] at h; cases h
    | some e =>
      rw [hq] at h
      cases e with
      | busy n d => cases h; exact .inr (.inl ⟨n, d, rfl, rfl, rfl⟩)
      | kept => cases h
  | settle w z =>
    rw [hk] at h
    cases hq : m x.q with
    | none => rw [hq] at h; cases h
    | some e =>
      rw [hq] at h
      cases e with
      | busy n d => cases h; exact .inr (.inr ⟨n, d, w, z, rfl, rfl, rfl⟩)
      | kept => cases h
theorem NumI.stepK {num : Nat → Int} {m m' : KM} {i : Nat} {x : En} (h : NumI num m i) (hs : stepK m x = some m') (hb : ∀ n d, x.k = .begin n d → n = num i) : NumI num m' (i + 1) := by
  rcases step_cases hs with ⟨n, d, hk, rfl⟩ | ⟨n, d, hk, hm, rfl⟩ | ⟨n, d, w, z, hk, hm, rfl⟩
  · rw [hb n d hk]; exact h.begin
  · exact h.other hm (fun e he => by cases he)
  · exact h.other hm (fun e he => by cases he; rfl)
theorem ents_step {zn : List Str} {H : Hp} {m m' : KM} {x : En} (h : EntsAt zn H m) (hs : stepK m x = some m') (hb : ∀ n d, x.k = .begin n d → ∃ xs, H d = some (.tup xs) ∧ Deed6 zn xs) (hz : ∀ w z, x.k = .settle w z → ∃ ys, H z = some (.tup ys) ∧ flatT ys) : EntsAt zn H m' := by
  rcases step_cases hs with ⟨n, d, hk, rfl⟩ | ⟨n, d, hk, hm, rfl⟩ | ⟨n, d, w, z, hk, hm, rfl⟩
  · exact h.set (fun e he => by cases he; exact hb n d hk)
  · exact h.set (fun e he => by cases he)
  · refine h.set (fun e he => ?_)
    cases he
    obtain ⟨xs, g, r⟩ := h _ _ hm
    obtain ⟨ys, g2, r2⟩ := hz w z hk
    exact ⟨xs, ys, g, r, g2, r2⟩
theorem ok_law {C CB CN : Addr} (T : Txt K mg) (B : KsT K C) (c__law_pen : Callee P w K mg base 1 "_law_pen" ["_law_cell", "_law_k"] spPen) (c__law_take : Callee P w K mg base 1 "_law_take" ["_law_pen_here", "_law_most"] spTake) (c__law_cell_at : Callee P w K mg base 1 "_law_cell_at" ["_law_script", "_law_k"] (spCell K))
    (c__law_names : Callee P w K mg base 2 "_law_names" ["_law_pen_here", "_law_many"] spNames20) (c__law_keys : Callee P w K mg base 2 "_law_keys" ["_law_pen_here", "_law_many"] spKeys20) (c__law_number : Callee P w K mg base 2 "_law_number" ["_law_pen_here", "_law_least", "_law_most"] spNumber20)
    (c__law_pairs : Callee P w K mg base 1 "_law_pairs" ["_law_names_here", "_law_keys_here"] spPairs) (c__law_deed : Callee P w K mg base 3 "_law_deed" ["_law_pen_here", "_law_names_here"] spDeed40) (c__law_answer : Callee P w K mg base 3 "_law_answer" ["_law_pen_here", "_law_deed_here"] spAnswer40)
    (c_Keys : Mkr P w K mg base 1 "Keys" C ["self", "life"] [] (spKInit C)) (c__law_same : Callee P w K mg base 6 "_law_same" ["_law_found", "_law_due"] (spSame 4)) (c_Keys_look : Mth P w K mg base 3 C "look" ["self", "asker", "key", "turn"] (spLook C))
    (c__law_last : Callee P w K mg base 1 "_law_last" ["_law_log", "_law_pair"] spLast) (c__law_looked : Callee P w K mg base 2 "_law_looked" ["_law_log", "_law_pair", "_law_life", "_law_turn"] spLooked44) (c__law_do : CalleeX P w K mg base 4 "_law_do" ["_law_keys_here", "_law_entry"] (spDo C CB CN)) (c__law_refused : Callee P w K mg base 5 "_law_refused" ["_law_keys_here", "_law_entry"] (spRefused C))
    (c__law_right : Callee P w K mg base 7 "_law_right" ["_law_keys_here", "_law_log", "_law_pairs_here", "_law_life", "_law_turn"] (spRight44 C))
    {f : Addr} {fd : FuncData} (F : Fun K "law" "law" s_law f fd) : FnOk P w K mg base CX0 8 f fd ["_law_script"] (spLaw K) := by
  refine F.go sc_law (fun vs H Q E h => ?_) (fun cdv A outer s H vs Q E hr h => ?_)
  · obtain ⟨a, ns, rfl, _⟩ := h; rfl
  · obtain ⟨sa, ns, rfl, hS, hlen, q⟩ := h
    have hr__law_pen : Room 1 _ := hr.mono (by decide)
    have hr__law_take : Room 1 _ := hr.mono (by decide)
    have hr__law_cell_at : Room 1 _ := hr.mono (by decide)
    have hr__law_names : Room 2 _ := hr.mono (by decide)
    have hr__law_keys : Room 2 _ := hr.mono (by decide)
    have hr__law_number : Room 2 _ := hr.mono (by decide)
    have hr__law_pairs : Room 1 _ := hr.mono (by decide)
    have hr__law_deed : Room 3 _ := hr.mono (by decide)
    have hr__law_answer : Room 3 _ := hr.mono (by decide)
    have hr_Keys : Room 2 _ := hr.mono (by decide)
    have hr__law_same : Room 6 _ := hr.mono (by decide)
    have hr_Keys_look : Room 3 _ := hr.mono (by decide)
    have hr__law_last : Room 1 _ := hr.mono (by decide)
    have hr__law_looked : Room 2 _ := hr.mono (by decide)
    have hr__law_do : Room 4 _ := hr.mono (by decide)
    have hr__law_refused : Room 5 _ := hr.mono (by decide)
    have hu64 := hr.units
    have hr__law_right : Room 7 _ := hr
    have hu1 := hu_of hr
    refine ⟨_, (R.scons (R.set (i := 1) sc_law.nd (R.fn c__law_pen hr__law_pen rfl (R.cons (R.fn c__law_cell_at hr__law_cell_at rfl (R.cons (R.v 0) (R.cons R.int R.nil))) (R.cons R.int R.nil))))
      (R.scons (R.set (i := 2) sc_law.nd (R.fn c__law_pairs hr__law_pairs rfl (R.cons (R.fn c__law_names hr__law_names rfl (R.cons (R.v 1) (R.cons R.int R.nil))) (R.cons (R.fn c__law_keys hr__law_keys rfl (R.cons (R.v 1) (R.cons R.int R.nil))) R.nil))))
      (R.scons (R.set (i := 3) sc_law.nd (R.fn c__law_names hr__law_names rfl (R.cons (R.v 1) (R.cons R.int R.nil))))
      (R.scons (R.set (i := 4) sc_law.nd (R.fn c__law_number hr__law_number rfl (R.cons (R.v 1) (R.cons R.int (R.cons (R.op R.pow R.int R.int) R.nil)))))
      (R.scons (R.set (i := 5) sc_law.nd (R.fn c__law_take hr__law_take rfl (R.cons (R.v 1) (R.cons R.int R.nil))))
      (R.scons (R.set (i := 6) sc_law.nd (R.op R.add R.int (R.fn c__law_take hr__law_take rfl (R.cons (R.v 1) (R.cons R.int R.nil)))))
      (R.scons (R.set (i := 7) sc_law.nd (R.make c_Keys hr_Keys rfl (R.cons (R.v 4) R.nil)))
      (R.scons (R.set (i := 8) sc_law.nd (R.lst R.nil))
      (R.scons (R.for_ PassesOwn.never rfl (R.enum (K := K) rfl T.b_enumerate (R.sl (R.ksL (K := K)) (R.v 0) (R.ps R.int) (R.ps R.int))) (R.kgt (K := K) (n := 2) rfl (R.gsc (R.gn (i := 9) sc_law.nd) (R.gsc (R.gn (i := 10) sc_law.nd) R.gsn)))
      (R.scons (R.set (i := 1) sc_law.nd (R.fn c__law_pen hr__law_pen rfl (R.cons (R.v 10) (R.cons (R.op R.add (R.v 9) R.int) R.nil))))
      (R.scons (R.set (i := 11) sc_law.nd (R.ix (R.kiL (K := K)) (R.v 2) (R.fn c__law_take hr__law_take rfl (R.cons (R.v 1) (R.cons R.int R.nil)))))
      (R.scons (R.set (i := 12) sc_law.nd (R.fn c__law_number hr__law_number rfl (R.cons (R.v 1) (R.cons R.int (R.cons (R.op R.pow R.int R.int) R.nil)))))
      (R.scons (R.set (i := 13) sc_law.nd (R.fn c__law_deed hr__law_deed rfl (R.cons (R.v 1) (R.cons (R.v 3) R.nil))))
      (R.scons (R.set (i := 14) sc_law.nd (R.fn c__law_last hr__law_last rfl (R.cons (R.v 8) (R.cons (R.v 11) R.nil))))
      (R.scons (R.set (i := 15) sc_law.nd (R.and (R.cmp R.notN (R.v 14) R.non) (R.one (R.cmp R.eq (R.ix (R.kiT (K := K)) (R.ix (R.kiT (K := K)) (R.v 14) R.int) R.int) R.str))))
      (R.scons (R.set (i := 16) sc_law.nd (R.wtup (R.cons R.str (R.cons (R.v 11) (R.cons (R.op R.add R.int (R.op R.mod (R.op R.add (R.v 5) (R.op R.mul (R.v 6) (R.v 9))) R.int)) (R.cons (R.v 13) R.nil))))))
      (R.scons (R.set (i := 17) sc_law.nd (R.fn c__law_take hr__law_take rfl (R.cons (R.v 1) (R.cons R.int R.nil))))
      (R.scons (R.ife (R.tcmp R.eq (R.v 17) R.int)
      (R.sone (R.set (i := 16) sc_law.nd (R.wtup (R.cons R.str (R.cons (R.v 11) R.nil)))))
      R.snil)
      (R.scons (R.ife (R.tcmp R.gt (R.v 17) R.int)
      (R.sone (R.set (i := 16) sc_law.nd (R.wtup (R.cons R.str (R.cons (R.v 11) (R.cons (R.v 12) (R.cons (R.fn c__law_answer hr__law_answer rfl (R.cons (R.v 1) (R.cons (R.ix (R.kiT (K := K)) (R.ix (R.kiT (K := K)) (R.korG (K := K) (R.v 14) (R.one (R.wtup (R.cons (R.wtup R.nil) (R.cons (R.wtup (R.cons R.str (R.cons R.int (R.cons R.int (R.cons (R.v 13) R.nil))))) R.nil))))) R.int) R.int) R.nil))) R.nil)))))))
      R.snil)
      (R.scons (R.ife (R.tcmp R.ne (R.fn c__law_refused hr__law_refused rfl (R.cons (R.v 7) (R.cons (R.v 16) R.nil))) (R.cmp R.eq (R.v 15) (R.cmp R.eq (R.v 17) R.int)))
      (R.sone (R.ret R.bl))
      R.snil)
      (R.scons (R.ife (R.tcmp R.ne (R.v 15) (R.cmp R.eq (R.v 17) R.int))
      (R.sone (R.expr (R.kbm (K := K) PySem.F.plainAttrs_list PySem.F.slot_list_append PySem.F.type_list_append R.append (R.v 8) (R.cons (R.v 16) R.nil))))
      R.snil)
      (R.sone (R.ife (R.tnot (R.val (R.fn c__law_right hr__law_right rfl (R.cons (R.v 7) (R.cons (R.v 8) (R.cons (R.v 2) (R.cons (R.v 4) (R.cons (R.callB (R.max rfl) rfl T.b_max bb_max (R.cons R.int (R.cons (R.callB (R.min rfl) rfl T.b_min bb_min (R.cons (R.op R.pow R.int R.int) (R.cons (R.op R.sub (R.op R.add (R.v 12) (R.fn c__law_take hr__law_take rfl (R.cons (R.v 1) (R.cons R.int R.nil)))) R.int) R.nil))) R.nil))) R.nil))))))))
      (R.sone (R.ret R.bl))
      R.snil)))))))))))))))
      (R.scons (R.set (i := 18) sc_law.nd (R.make c_Keys hr_Keys rfl (R.cons (R.v 4) R.nil)))
      (R.scons (R.for_ PassesOwn.never rfl (R.kwL (K := K) (R.comp rfl (js := [none, some 2]) (N := ["_law_entry", "_law_pairs_here"]) (CompScope.by (defScope s_law) ["_law_script", "_law_pen_here", "_law_pairs_here", "_law_names_here", "_law_life", "_law_start", "_law_step", "_law_keys_here", "_law_log", "_law_k", "_law_cell", "_law_pair", "_law_turn", "_law_deed_here", "_law_last_here", "_law_busy", "_law_entry", "_law_way", "_law_alone"] rfl rfl (by decide +kernel)) (gown_name rfl) (R.kwL (K := K) (R.v 8)) (fun C s₂ H₂ fp => ⟨(R.gn (i := 0) (show (["_law_entry", "_law_pairs_here"] : List Str).Nodup by decide +kernel)), (R.ts1 (R.tcmp (R.eqF hu64) (R.ix (R.kiT (K := K)) (R.v 0) R.int) (R.ix (R.kiL (K := K)) (R.v 1) R.int))), (R.v 0)⟩))) (R.gn (i := 16) sc_law.nd)
      (R.sone (R.expr (R.fnX c__law_do hr__law_do rfl takes_none (R.cons (R.v 18) (R.cons (R.v 16) R.nil))))))
      (R.sone (R.ret (R.fn c__law_same hr__law_same rfl (R.cons (R.meth c_Keys_look hr_Keys_look (R.v 18) (R.cons (R.ix (R.kiT (K := K)) (R.ix (R.kiL (K := K)) (R.v 2) R.int) R.int) (R.cons (R.ix (R.kiT (K := K)) (R.ix (R.kiL (K := K)) (R.v 2) R.int) R.int) (R.cons R.int R.nil)))) (R.cons (R.fn c__law_looked hr__law_looked rfl (R.cons (R.v 8) (R.cons (R.ix (R.kiL (K := K)) (R.v 2) R.int) (R.cons (R.v 4) (R.cons R.int R.nil))))) R.nil)))))))))))))))), ?_⟩
    have e12 : (10 : Int) ^ (12 : Int).toNat = 1000000000000 := by decide
    refine ⟨sa, ns, 0, rfl, hS, fun c => ⟨c, 0, rfl, fun p H1 f1 s1 pn1 => ?_⟩⟩
    dsimp only [gName]
    refine ⟨p, 4, rfl, pn1, by decide, fun la PN H2 hpl _ hpnd nla gla pn2 k2 => ?_⟩
    refine ⟨p, 3, rfl, pn2, by decide, fun lk KS H3 hkl _ hknd nlk glk pn3 k3 => ?_⟩
    have npa : la ≠ p := pn1.ne nla
    refine ⟨la, lk, PN, KS, rfl, k3 _ _ gla npa, glk, by omega, fun lp ts H4 s4 nlp glp hpr hts => ?_⟩
    dsimp only [gName]
    have hts6 : ts.length = 6 := by
      have : (ts.map (·.2)).length = (prsOf (PN.take 2) KS).length := by rw [hts]
      rw [List.length_map] at this
      rw [this]
      have h2 : (PN.take 2).length = 2 := by rw [List.length_take]; omega
      match hz : PN.take 2, h2 with
      | [x, y], _ => simp [prsOf]; omega
    have htnd : (ts.map (·.2)).Nodup := by rw [hts]; exact prs_nodup (List.Nodup.sublist (List.take_sublist _ _) hpnd) hknd
    have pn4 := pn3.same s4
    refine ⟨p, 4, rfl, pn4, by decide, fun ln ZN H5 hzl hnm hnd nln gln pn5 k5 => ?_⟩
    dsimp only [gName]
    have npp : lp ≠ p := pn3.ne nlp
    have npl : ln ≠ p := pn4.ne nln
    refine ⟨⟨by decide, by decide, by decide⟩, p, 1, _, rfl, pn5, by decide, by decide, fun life H6 _ _ pn6 k6 => ?_⟩
    dsimp only [gName]
    refine ⟨p, 999983, rfl, pn6, by decide, by decide, fun st H9 _ _ pn9 k9 => ?_⟩
    dsimp only [gName]
    refine ⟨p, 999982, rfl, pn9, by decide, by decide, fun sp HA sp0 sp1 pnA kA => ?_⟩
    dsimp only [gName]
    have k8A : K1 p H5 HA := (k6.trans k9).trans kA
    have glnA := k8A _ _ gln npl
    have glpA := (k5.trans k8A) _ _ glp npp
    have hprA : PrAt HA ts := fun t ht => (k5.trans k8A) _ _ (hpr t ht) (PenAt.tup pn4 (hpr t ht))
    intro x dx hx0 hdx0 hne0
    refine ⟨x, dx, life, rfl, upd_same, fun HB a fb0 fs0 ky0 kB => ⟨rfl, ?_⟩⟩
    dsimp only [gName]
    have sB : Same HA HB := fun c o e => kB _ _ (by rw [upd_ne (ne_of_none e hx0), upd_ne (ne_of_none e hdx0)]; exact e) (ne_of_none e hx0)
    refine ⟨szl rfl, fun l hl => ?_⟩
    dsimp only [gName]
    have sD : Same HB (upd HB l (.lst [])) := same_upd hl
    have gl0 : (upd HB l (.lst [])) l = some (.lst []) := upd_same
    generalize upd HB l (.lst []) = HE at sD gl0 ⊢
    have st0 : StL C HE ZN x a life (fun _ => none) l [] 0 := ⟨ky0.same sD, fun _ _ h => (by cases h), gl0, (fun _ h => nomatch h), (fun _ h => nomatch h), Nat.le_refl _, fun q => .nil⟩
    have sAE : Same HA HE := sB.trans sD
    have gln' := sAE _ _ glnA
    have glp' := sAE _ _ glpA
    have hpr' : PrAt HE ts := fun t ht => sAE _ _ (hprA t ht)
    have hS' : SqL K HE sa (ns.map V.int) := sq_keep hS (fun o e => sAE _ _ ((k2.trans (k3.trans ((K1.of s4).trans (k5.trans k8A)))) _ _ (s1 _ _ e) (ne_of_none e f1)))
    have flB : HA l = none := by
      cases e : HA l with
      | none => rfl
      | some o => rw [sB _ _ e] at hl; cases hl
    clear ky0 fb0 fs0
    refine ⟨_, hS', fun lsc hlsc => ⟨_, SqL.of upd_same, ?_⟩⟩
    have hxs : ∃ ms : List Int, cut (ns.map V.int) (some 1) (some 63) = ms.map V.int ∧ ms.length ≤ 62 := by
      refine ⟨cut ns (some 1) (some 63), cut_map _ _ _ _, ?_⟩
      show (cut ns (some ((1 : Nat) : Int)) (some ((63 : Nat) : Int))).length ≤ 62
      unfold cut
      rw [HT.sIx_nat, HT.sIx_nat, List.length_take, List.length_drop]
      omega
    obtain ⟨ms, emx, hml⟩ := hxs
    rw [emx]
    have sJ : Same HE (upd HE lsc (.lst (ms.map V.int))) := same_upd hlsc
    have gsc0 : (upd HE lsc (.lst (ms.map V.int))) lsc = some (.lst (ms.map V.int)) := upd_same
    generalize upd HE lsc (.lst (ms.map V.int)) = HJ at sJ gsc0 ⊢
    have inj : ∀ i j k, i ≤ 63 → j < i → k < i → (fun n : Nat => 1 + (st + (1 + sp) * (n : Int)) % 999983) j = (fun n : Nat => 1 + (st + (1 + sp) * (n : Int)) % 999983) k → j = k := fun i j k hi hj hk e => num_inj (by omega) (by omega) (by omega) (by omega) e
    have nlpl : lp ≠ l := ne_of_none glpA flB
    have nlnl : ln ≠ l := ne_of_none glnA flB
    have kk2 : ∀ {G' : Hp}, (∀ c o, HJ c = some o → (∀ kv, o ≠ .dT kv) → c ≠ l → G' c = some o) → G' ln = some (.lst (ZN.map V.str)) ∧ G' lp = some (.lst (pref ts)) ∧ PrAt G' ts := fun {G'} k => ⟨k _ _ (sJ _ _ gln') (fun _ z => nomatch z) nlnl, k _ _ (sJ _ _ glp') (fun _ z => nomatch z) nlpl, fun t ht => k _ _ (sJ _ _ (hpr' t ht)) (fun _ z => nomatch z) (ne_of (sJ _ _ (hpr' t ht)) (sJ _ _ gl0) (fun z => nomatch z))⟩
    have nscl : lsc ≠ l := (ne_of_none gl0 hlsc).symm
    refine for_enum (fun i σ H' => ∃ (o1 o9 o10 o11 o12 o13 o14 o15 o16 o17 o18 : Option V) (M : KM) (es : List En), σ = [some (.ref sa), o1, some (.ref lp), some (.ref ln), some (.int life), some (.int st), some (.int (1 + sp)), some (.ref x), some (.ref l), o9, o10, o11, o12, o13, o14, o15, o16, o17, o18] ∧ StL C H' ZN x a life M l es i ∧ (∀ q e, M q = some e → q ∈ ts.map (·.2)) ∧ NumI (fun n : Nat => 1 + (st + (1 + sp) * (n : Int)) % 999983) M i ∧ (∀ c o, HJ c = some o → (∀ kv, o ≠ .dT kv) → c ≠ l → H' c = some o))
      (fun i σ H' ⟨_, _, _, _, _, _, _, _, _, _, _, _, _, _, _, _, _, k⟩ => SqL.of (k _ _ gsc0 (fun _ z => nomatch z) nscl)) ⟨_, _, _, _, _, _, _, _, _, _, _, fun _ => none, [], rfl, st0.same sJ, (fun _ _ h => by cases h), NumI.nil, fun _ _ e _ _ => e⟩ ?_ ?_
    · rintro i v σ G t hv ⟨o1, o9, o10, o11, o12, o13, o14, o15, o16, o17, o18, M, es, rfl, S, hin, nI, kJ⟩ htn
      rw [List.getElem?_map] at hv
      obtain ⟨cell, hc, rfl⟩ := Option.map_eq_some_iff.mp hv
      have hi : i < 62 := by
        have := (List.getElem?_eq_some_iff.mp hc).1
        omega
      refine ⟨t, _, rfl, SqT.of upd_same, rfl, _, _, rfl, _, _, rfl, rfl, ?_⟩
      have sT : Same G (upd G t (.tup [.int i, .int cell])) := same_upd htn
      generalize upd G t (.tup [.int i, .int cell]) = G0 at sT ⊢
      refine ⟨cell, _, rfl, fun p1 G1 fp sG1 pn1 => ?_⟩
      dsimp only [gName]
      have fpG : G p1 = none := by
        cases e : G p1 with
        | none => rfl
        | some o => rw [sT _ _ e] at fp; cases fp
      have nlp1 : l ≠ p1 := ne_of_none S.gl fpG
      have step1 : ∀ {G' G'' : Hp}, Same G G' → K1 p1 G' G'' → ∀ c o, G c = some o → G'' c = some o := fun {G' G''} k k' c o e => k' _ _ (k _ _ e) (ne_of_none e fpG)
      have k1 : Same G G1 := sT.trans sG1
      obtain ⟨glnG, glpG, hprG⟩ := kk2 kJ
      refine ⟨p1, 6, rfl, pn1, by decide, by decide, fun r G2 r0 r1 pn2 kk2' => ?_⟩
      have k2' : Same G G2 := step1 k1 kk2'
      obtain ⟨rn, rfl⟩ := Int.eq_ofNat_of_zero_le r0
      have hrn : rn < ts.length := by omega
      refine ⟨_, SqL.of (k2' _ _ glpG), .ref ts[rn].1, atI_nat (by unfold pref; rw [List.getElem?_map, List.getElem?_eq_getElem hrn]; rfl), ?_⟩
      dsimp only [gName]
      have htm : ts[rn] ∈ ts := List.getElem_mem hrn
      generalize ts[rn] = tp at htm ⊢
      refine ⟨⟨by decide, by decide, by decide⟩, p1, 0, _, rfl, pn2, by decide, by decide, fun turn G3 _ _ pn3' kk3 => ?_⟩
      dsimp only [gName]
      have k3' : Same G G3 := step1 k2' kk3
      refine ⟨p1, ln, ZN, rfl, pn3', k3' _ _ glnG, hnd, by omega, by omega, fun d dx G4 hdd gd pn4' kk4 => ?_⟩
      dsimp only [gName]
      have k4' : Same G G4 := step1 k3' kk4
      have S4 : StL C G4 ZN x a life M l es i := (((S.same (sT.trans sG1)).byPen pn1 kk2' nlp1).byPen pn2 kk3 nlp1).byPen pn3' kk4 nlp1
      have gt4 := k4' _ _ (hprG tp htm)
      have hln := S4.ln
      obtain ⟨num, hnum⟩ : ∃ num : Int, num = 1 + (st + (1 + sp) * (i : Int)) % 999983 := ⟨_, rfl⟩
      dsimp only [tSeq]
      refine cutS (t := tAsg _ _) (fun σ' H' => ∃ lv : V, σ' = [some (.ref sa), some (.ref p1), some (.ref lp), some (.ref ln), some (.int life), some (.int st), some (.int (1 + sp)), some (.ref x), some (.ref l), some (.int i), some (.int cell), some (.ref tp.1), some (.int turn), some (.ref d), some lv, o15, o16, o17, o18] ∧ Same G4 H' ∧ ((lv = .non ∧ busyB (M tp.2) = false) ∨ ∃ (u xx bb d' : Addr) (tq nn : V), lv = .ref u ∧ H' u = some (.tup [.ref xx, .ref bb]) ∧ (∃ (wd : Str) (rest : List V), H' xx = some (.tup (.str wd :: rest)) ∧ decide (wd = "begin") = busyB (M tp.2)) ∧ H' bb = some (.tup [.str "begin", tq, nn, .ref d']) ∧ ∃ xs, H' d' = some (.tup xs) ∧ Deed6 ZN xs)) (fun nx hnx => ?_) ?_
      · refine ⟨l, tp.1, es, tp.2, M tp.2, rfl, S4.gl, S4.lg, gt4, by omega, S4.v tp.2, fun hn H1 sH => hnx _ _ ⟨.non, rfl, sH, .inl ⟨rfl, ?_⟩⟩, fun xx bb hx hb hxm hbm u H1 sH gu => hnx _ _ ⟨.ref u, rfl, sH, .inr ?_⟩⟩
        · rcases (S4.v tp.2).sum with ⟨_, e⟩ | ⟨x', _, _, _, hx', _⟩
          · rw [e]; rfl
          · rw [hn] at hx'; cases hx'
        · rcases (S4.v tp.2).sum with ⟨e, _⟩ | ⟨x', b', n, d', hx', hb', hbk, hc⟩
          · rw [e] at hx; cases hx
          rw [hx] at hx'
          cases hx'
          rw [hb] at hb'
          cases hb'
          obtain ⟨xs, gxs, hxs⟩ := S4.dd bb hbm n d' hbk
          have gb := sH _ _ (S4.lg bb hbm).1
          rw [row_begin hbk] at gb
          have gx := sH _ _ (S4.lg xx hxm).1
          refine ⟨u, xx.a, bb.a, d', _, _, rfl, gu, ?_, gb, xs, sH _ _ gxs, hxs⟩
          rcases hc with ⟨hk, e⟩ | ⟨hk, e⟩ | ⟨w', z, hk, e⟩
          · rw [row_begin hk] at gx; exact ⟨_, _, gx, by rw [e]; rfl⟩
          · rw [row_drop hk] at gx; exact ⟨_, _, gx, by rw [e]; exact (by decide +kernel : decide (("drop" : Str) = "begin") = false)⟩
          · rw [row_settle hk] at gx; exact ⟨_, _, gx, by rw [e]; exact (by decide +kernel : decide (("settle" : Str) = "begin") = false)⟩
      rintro σ' G5 ⟨lv, rfl, s45, hlv⟩
      dsimp only [tSeq]
      refine cutS (t := tAsg _ _) (fun σ' H' => σ' = [some (.ref sa), some (.ref p1), some (.ref lp), some (.ref ln), some (.int life), some (.int st), some (.int (1 + sp)), some (.ref x), some (.ref l), some (.int i), some (.int cell), some (.ref tp.1), some (.int turn), some (.ref d), some lv, some (.bl (busyB (M tp.2))), o16, o17, o18] ∧ H' = G5) (fun nx hnx => ?_) ?_
      · rcases hlv with ⟨rfl, hbz⟩ | ⟨u, xx, bb, d', tq, nn, rfl, gu, ⟨wd, rest, gx, hbz⟩, gb, xs, gxs, hxs⟩
        · rw [hbz] at hnx
          exact hnx _ _ ⟨rfl, rfl⟩
        · refine ⟨_, SqT.of gu, _, rfl, _, SqT.of gx, .str wd, atI_nat (j := 0) rfl, ?_⟩
          rw [← hbz] at hnx
          exact hnx _ _ ⟨rfl, rfl⟩
      rintro σ' G5b ⟨rfl, hG⟩
      rw [hG]
      clear hG
      dsimp only [tSeq]
      have S5 := S4.same s45
      have gd5 := s45 _ _ gd
      have gt5 := s45 _ _ gt4
      have pn5 := pn4'.same s45
      have k5' : Same G G5 := k4'.trans s45
      refine ⟨.inr ⟨by omega, by omega⟩, (by show (0 : Int) < 999983; decide), by simp, fun u0 G6 s6 g6 => ?_⟩
      dsimp only [gName]
      have pn6 := pn5.same s6
      refine ⟨p1, 4, rfl, pn6, by decide, by decide, fun way G7 w0 w4 pn7 kk7 => ?_⟩
      dsimp only [gName]
      have k57 : K1 p1 G5 G7 := (K1.of s6).trans kk7
      have S7 := S5.byPen pn5 k57 nlp1
      have gd7 := k57 _ _ gd5 (PenAt.tup pn5 gd5)
      have gt7 := k57 _ _ gt5 (PenAt.tup pn5 gt5)
      have g67 := kk7 _ _ g6 (PenAt.tup pn6 g6)
      have k7' : Same G G7 := step1 k5' k57
      have hlv7 : lv = .non ∨ ∃ (u xx bb d' : Addr) (tq nn : V) (xs : List V), lv = .ref u ∧ G7 u = some (.tup [.ref xx, .ref bb]) ∧ G7 bb = some (.tup [.str "begin", tq, nn, .ref d']) ∧ G7 d' = some (.tup xs) ∧ Deed6 ZN xs := by
        rcases hlv with ⟨e, _⟩ | ⟨u, xx, bb, d', tq, nn, e, gu, _, gb, xs, gxs, hxs⟩
        · exact .inl e
        · exact .inr ⟨u, xx, bb, d', tq, nn, xs, e, k57 _ _ gu (PenAt.tup pn5 gu), k57 _ _ gb (PenAt.tup pn5 gb), k57 _ _ gxs (PenAt.tup pn5 gxs), hxs⟩
      dsimp only [tSeq]
      refine cutS (t := tIfS _ _ _) (fun σ' H' => ∃ e1 : Addr, σ' = [some (.ref sa), some (.ref p1), some (.ref lp), some (.ref ln), some (.int life), some (.int st), some (.int (1 + sp)), some (.ref x), some (.ref l), some (.int i), some (.int cell), some (.ref tp.1), some (.int turn), some (.ref d), some lv, some (.bl (busyB (M tp.2))), some (.ref e1), some (.int way), o18] ∧ Same G7 H' ∧ ((way = 1 ∧ H' e1 = some (.tup [.str "drop", .ref tp.1])) ∨ (way ≠ 1 ∧ e1 = u0))) (fun nx hnx => ?_) ?_
      · show if decide (way = 1) = true then _ else _
        refine if_b (fun hb => ?_) (fun hb => ?_)
        · exact ⟨by simp, fun e1 H' s' g' => hnx _ _ ⟨e1, rfl, s', .inl ⟨of_decide_eq_true hb, g'⟩⟩⟩
        · exact hnx _ _ ⟨u0, rfl, Same.refl _, .inr ⟨of_decide_eq_false hb, rfl⟩⟩
      rintro σ' G8 ⟨e1, rfl, s78, he1⟩
      dsimp only [tSeq]
      refine cutS (t := tIfS _ _ _) (fun σ' H' => ∃ (X : En) (z : Addr), σ' = [some (.ref sa), some (.ref p1), some (.ref lp), some (.ref ln), some (.int life), some (.int st), some (.int (1 + sp)), some (.ref x), some (.ref l), some (.int i), some (.int cell), some (.ref tp.1), some (.int turn), some (.ref d), some lv, some (.bl (busyB (M tp.2))), some (.ref X.a), some (.int way), o18] ∧ X.t = tp.1 ∧ X.q = tp.2 ∧ H' X.a = some (.tup X.row) ∧ ((way = 0 ∧ X.k = .begin (1 + (st + (1 + sp) * (i : Int)) % 999983) d) ∨ (way = 1 ∧ X.k = .drop) ∨ (1 < way ∧ X.k = .settle turn z)) ∧ (∀ w' z', X.k = .settle w' z' → ∃ ys, H' z' = some (.tup ys) ∧ flatT ys) ∧ PenAt H' p1 ∧ K1 p1 G7 H') (fun nx hnx => ?_) ?_
      · show if decide (way > 1) = true then _ else _
        have pn8 := pn7.same s78
        refine if_b (fun hb => ?_) (fun hb => ?_)
        · have hw := of_decide_eq_true hb
          dsimp only [tAsg, tTupW, tFn, tCons, tNil, vr, L2.start, List.set]
          refine cutE (t := tOp (mIxT K) (tOp (mIxT K) (tOrG K _ _) _) _) (fun v H' => ∃ dd xs, v = .ref dd ∧ Same G8 H' ∧ H' dd = some (.tup xs) ∧ Deed6 ZN xs) (fun kk hkk => ?_) ?_
          · rcases hlv7 with rfl | ⟨u, xx, bb, d', tq, nn, xs, rfl, gu, gb, gxs, hxs⟩
            · refine ⟨false, rfl, by simp, fun ta H1 sa1 ga1 => ⟨by simp, fun tb H2 sa2 ga2 => ⟨by simp, fun tc H3 sa3 ga3 => ⟨_, SqT.of ga3, _, rfl, _, SqT.of (sa3 _ _ ga2), _, rfl, hkk _ _ ⟨d, dx, rfl, (sa1.trans sa2).trans sa3, sa3 _ _ (sa2 _ _ (sa1 _ _ (s78 _ _ gd7))), hdd⟩⟩⟩⟩⟩
            · exact ⟨true, .inr (.inl ⟨_, SqT.of (s78 _ _ gu), rfl⟩), _, SqT.of (s78 _ _ gu), _, rfl, _, SqT.of (s78 _ _ gb), _, rfl, hkk _ _ ⟨d', xs, rfl, Same.refl _, s78 _ _ gxs, hxs⟩⟩
          rintro v G9 ⟨dd, xs, rfl, s89, gdd, hxs⟩
          have pn9 := pn8.same s89
          refine ⟨p1, dd, ZN, xs, rfl, pn9, gdd, hxs, fun z ys G10 w' n' hs' _ hAns gz pn10 kk10 => ⟨by simp, fun e2 G11 s11 g11 => ?_⟩⟩
          refine hnx _ _ ⟨⟨e2, tp.1, tp.2, .settle turn z⟩, z, rfl, rfl, rfl, g11, .inr (.inr ⟨hw, rfl⟩), fun w1 z1 e => ?_, pn10.same s11, ((K1.of (s78.trans s89)).trans kk10).trans (K1.of s11)⟩
          cases e
          exact ⟨ys, s11 _ _ gz, Ans6.flat hAns⟩
        · have hw := of_decide_eq_false hb
          rcases he1 with ⟨hw1, g1⟩ | ⟨hw1, rfl⟩
          · exact hnx _ _ ⟨⟨e1, tp.1, tp.2, .drop⟩, 0, rfl, rfl, rfl, g1, .inr (.inl ⟨hw1, rfl⟩), (fun w1 z1 e => by cases e), pn8, K1.of s78⟩
          · exact hnx _ _ ⟨⟨e1, tp.1, tp.2, .begin (1 + (st + (1 + sp) * (i : Int)) % 999983) d⟩, 0, rfl, rfl, rfl, s78 _ _ g67, .inl ⟨by omega, rfl⟩, (fun w1 z1 e => by cases e), pn8, K1.of s78⟩
      rintro σ' G9 ⟨X, z, rfl, hXt, hXq, gX, hXk, hXz, pn9, k79⟩
      have S9 := S7.byPen pn7 k79 nlp1
      have gt9 := k79 _ _ gt7 (PenAt.tup pn7 gt7)
      have gd9 := k79 _ _ gd7 (PenAt.tup pn7 gd7)
      have k9' : Same G G9 := step1 k7' k79
      have hstep := step_none (m := M) hXk
      rw [hXq] at hstep
      dsimp only [tSeq]
      refine ⟨x, a, life, M, i, X, rfl, S9.ky, by omega, gX, by rw [hXt, hXq]; exact gt9, fun GA kyA frA => ?_⟩
      show if (!decide ((stepK M X).isNone = decide (busyB (M tp.2) = decide (way = 0)))) = true then _ else _
      rw [hstep, decide_eq_true rfl, if_neg (by decide)]
      dsimp only [tNext, tSeq]
      have koA : ∀ {c : Addr} {o : HO}, G9 c = some o → (∀ kv, o ≠ .dT kv) → GA c = some o := fun {c o} e hn => FrK.ko frA S9.ky e hn
      have tn : ∀ {xs : List V} (kv : List (List Key × V)), HO.tup xs ≠ .dT kv := fun _ z => nomatch z
      have ln' : ∀ {xs : List V} (kv : List (List Key × V)), HO.lst xs ≠ .dT kv := fun _ z => nomatch z
      have glA := koA S9.gl ln'
      have hhb : ∀ n d', X.k = .begin n d' → n = 1 + (st + (1 + sp) * (i : Int)) % 999983 ∧ d' = d := fun n d' e => by
        rcases hXk with ⟨_, h⟩ | ⟨_, h⟩ | ⟨_, h⟩ <;> rw [h] at e <;> cases e
        exact ⟨rfl, rfl⟩
      have gXA := koA gX tn
      have gtA := koA gt9 tn
      have gdA := koA gd9 tn
      refine cutS (t := tIfS _ _ _) (fun σ' GB => ∃ es' : List En, σ' = [some (.ref sa), some (.ref p1), some (.ref lp), some (.ref ln), some (.int life), some (.int st), some (.int (1 + sp)), some (.ref x), some (.ref l), some (.int i), some (.int cell), some (.ref tp.1), some (.int turn), some (.ref d), some lv, some (.bl (busyB (M tp.2))), some (.ref X.a), some (.int way), o18] ∧ StL C GB ZN x a life ((stepK M X).getD M) l es' (i + 1) ∧ (∀ q e, (stepK M X).getD M q = some e → q ∈ ts.map (·.2)) ∧ NumI (fun n : Nat => 1 + (st + (1 + sp) * (n : Int)) % 999983) ((stepK M X).getD M) (i + 1) ∧ (∀ c o, GA c = some o → c ≠ l → GB c = some o)) (fun nx hnx => ?_) ?_
      · show if (!decide (busyB (M tp.2) = decide (way = 0))) = true then _ else _
        rw [← hstep]
        cases hs : stepK M X with
        | none =>
          rw [hs] at hnx kyA
          refine hnx _ _ ⟨es, rfl, ⟨kyA, EntsAt.keep S9.en (fun b xs e => koA e tn), glA, S9.lg.keep (fun b xs e => koA e tn), S9.dd.keep (fun b xs e => koA e tn), Nat.le_succ_of_le S9.ln, S9.v⟩, hin, nI.skip, fun c o e _ => e⟩
        | some m' =>
          rw [hs] at hnx kyA
          have lgA : LogAt GA es := S9.lg.keep (fun b xs e => koA e tn)
          have h9 := S9.ln
          refine ⟨.inl ⟨rfl, _, SqL.of glA⟩, l, _, _, rfl, rfl, glA, ?_, hnx _ _ ⟨es ++ [X], rfl, ?_, ?_, ?_, fun c o e hc => by rw [upd_ne hc]; exact e⟩⟩
          · unfold eref; rw [List.length_map]; exact Nat.lt_of_le_of_lt (show es.length ≤ 100 by omega) (by decide)
          · have er : eref es ++ [V.ref X.a] = eref (es ++ [X]) := by unfold eref; rw [List.map_append]; rfl
            rw [er]
            have kU : ∀ b xs, GA b = some (.tup xs) → (upd GA l (.lst (eref (es ++ [X])))) b = some (.tup xs) := fun b xs e => by rw [upd_ne (ne_of e glA (fun z => nomatch z))]; exact e
            refine ⟨kyA.keep (fun b o e hn => by rw [upd_ne (fun z => by rw [z, glA] at e; cases e; exact hn _ rfl)]; exact e), ?_, upd_same, ?_, ?_, by rw [List.length_append]; exact Nat.succ_le_succ h9, fun q => ?_⟩
            · refine EntsAt.keep (ents_step (EntsAt.keep S9.en (fun b xs e => koA e tn)) hs (fun n d' e => ?_) (fun w' z' e => ?_)) kU
              · obtain ⟨_, rfl⟩ := hhb n d' e; exact ⟨dx, gdA, hdd⟩
              · obtain ⟨ys, gy, fy⟩ := hXz w' z' e; exact ⟨ys, koA gy tn, fy⟩
            · intro y hy
              rcases List.mem_append.mp hy with hy | hy
              · exact ⟨kU _ _ (lgA y hy).1, kU _ _ (lgA y hy).2⟩
              · cases List.mem_singleton.mp hy
                exact ⟨kU _ _ gXA, by rw [hXt, hXq]; exact kU _ _ gtA⟩
            · intro y hy n d' e
              rcases List.mem_append.mp hy with hy | hy
              · obtain ⟨xs, g, r⟩ := S9.dd y hy n d' e
                exact ⟨xs, kU _ _ (koA g tn), r⟩
              · cases List.mem_singleton.mp hy
                obtain ⟨_, rfl⟩ := hhb n d' e
                exact ⟨dx, kU _ _ gdA, hdd⟩
            · rw [own_snoc]
              by_cases hq : X.q = q
              · rw [if_pos hq, ← hq]
                exact V1.snoc (S9.v X.q) hs
              · rw [if_neg hq, List.append_nil]
                show V1 _ (m' q)
                rw [stepK_ne hs (fun e => hq e.symm)]
                exact S9.v q
          · intro q e he
            by_cases hq : q = X.q
            · rw [hq, hXq]; exact List.mem_map.mpr ⟨tp, htm, rfl⟩
            · refine hin q e ?_
              rw [← stepK_ne hs hq]
              exact he
          · exact nI.stepK hs (fun n d' e => (hhb n d' e).1)
      rintro σ' GB ⟨es', rfl, SB, hinB, nB, kAB⟩
      have kGB : ∀ c o, G c = some o → (∀ kv, o ≠ .dT kv) → c ≠ l → GB c = some o := fun c o e hn hc => kAB _ _ (koA (k9' _ _ e) hn) hc
      have pnB : PenAt GB p1 := by
        obtain ⟨i', j', gp', rp'⟩ := pn9
        exact ⟨i', j', kAB _ _ (koA gp' ln') nlp1.symm, rp'⟩
      have glpB := kGB _ _ glpG ln' nlpl
      have hA := nB.a (fun j k hj hk e => inj (i + 1) j k (by omega) hj hk e)
      refine ⟨⟨by decide, by decide, by decide⟩, p1, 3, rfl, pnB, by decide, by decide, fun r3 GC _ _ pnC kC => ?_⟩
      have SC := SB.byPen pnB kC nlp1
      have hlnC := SC.ln
      have nlp2 : lp ≠ p1 := ne_of_none glpG fpG
      refine ⟨x, l, lp, a, life, _, _, i + 1, es', ts, ZN, rfl, SC.ky, by omega, SC.en, hA, SC.gl, SC.lg, by omega, SC.v, kC _ _ glpB nlp2, fun t ht => kC _ _ (kGB _ _ (hprG t ht) tn (ne_of (hprG t ht) S.gl (fun z => nomatch z))) (ne_of_none (hprG t ht) fpG), hts6, htnd, hinB, fun GD sD' => ?_⟩
      exact ⟨_, _, _, _, _, _, _, _, _, _, _, _, es', rfl, SC.same sD', hinB, nB, fun c o e hn hc => sD' _ _ (kC _ _ (kGB _ _ (kJ _ _ e hn hc) hn hc) (ne_of_none (kJ _ _ e hn hc) fpG))⟩
    · rintro σ G ⟨o1, o9, o10, o11, o12, o13, o14, o15, o16, o17, o18, M, es, rfl, S, hin, nI, kJ⟩
      obtain ⟨glnG, glpG, hprG⟩ := kk2 kJ
      have hml' : (ms.map V.int).length ≤ 62 := by rw [List.length_map]; exact hml
      have hes := S.ln
      intro xb dxb hxb hdxb hneb
      refine ⟨xb, dxb, life, rfl, upd_same, fun HC ab fb1 fs1 kyb kC => ⟨rfl, ?_⟩⟩
      dsimp only [gName]
      have sC : Same G HC := fun c o e => kC _ _ (by rw [upd_ne (ne_of_none e hxb), upd_ne (ne_of_none e hdxb)]; exact e) (ne_of_none e hxb)
      obtain ⟨t0, ht0⟩ : ∃ t0, ts[0]? = some t0 := ⟨ts[0]'(by omega), List.getElem?_eq_getElem (by omega)⟩
      have htm := List.mem_of_getElem? ht0
      have at0 : atI (pref ts) 0 = some (.ref t0.1) := atI_nat (j := 0) (by unfold pref; rw [List.getElem?_map, ht0]; rfl)
      have SC := S.same sC
      have glpC := sC _ _ glpG
      have gt0 := sC _ _ (hprG t0 htm)
      refine ⟨l, rfl, ⟨_, SqL.of SC.gl⟩, ?_⟩
      have hel : (eref es).length = es.length := by unfold eref; rw [List.length_map]
      refine comp_seq (seq_list K l (eref es)) (by omega) (fun j ys H'' => H'' = HC ∧ ys = eref (own (es.take j) t0.2)) (fun j ys H'' ⟨e, e2⟩ => ⟨by rw [e]; exact SqL.of SC.gl, ?_⟩) ⟨rfl, rfl⟩ ?_ ?_
      · rw [e2]; unfold eref; rw [List.length_map]
        exact Nat.le_trans (List.length_filter_le _ _) (by rw [List.length_take]; exact Nat.min_le_left _ _)
      · rintro j y ys H'' hy ⟨rfl, rfl⟩
        unfold eref at hy
        rw [List.getElem?_map] at hy
        obtain ⟨z, hz, rfl⟩ := Option.map_eq_some_iff.mp hy
        obtain ⟨gz, gzt⟩ := SC.lg z (List.mem_of_getElem? hz)
        have e1 : own (es.take (j + 1)) t0.2 = own (es.take j) t0.2 ++ (if z.q = t0.2 then [z] else []) := by rw [← own_snoc, List.take_succ, hz]; rfl
        refine ⟨_, SqT.of gz, _, row_at1 z, _, SqL.of glpC, _, at0, _, _, gzt, gt0, flat2, ?_⟩
        show if eqTup _ _ = true then _ else _
        rw [eqT2]
        refine if_b (fun hb => ⟨rfl, ?_⟩) (fun hb => ⟨rfl, ?_⟩)
        · rw [e1, if_pos (of_decide_eq_true hb)]; unfold eref; rw [List.map_append]; rfl
        · rw [e1, if_neg (of_decide_eq_false hb), List.append_nil]
      rintro ys H'' ⟨rfl, e2⟩
      rw [hel, List.take_of_length_le (Nat.le_refl _)] at e2
      subst e2
      intro lc hlc
      have sL := same_upd (o := .lst (eref (own es t0.2))) hlc
      have gL : (upd H'' lc (.lst (eref (own es t0.2)))) lc = some (.lst (eref (own es t0.2))) := upd_same
      refine ⟨lc, rfl, ⟨_, SqL.of upd_same⟩, ?_⟩
      generalize upd H'' lc (.lst (eref (own es t0.2))) = HL at sL gL ⊢
      have SL := SC.same sL
      have glpL := sL _ _ glpC
      have gt0L := sL _ _ gt0
      have hol : (own es t0.2).length ≤ 100 := Nat.le_trans (List.length_filter_le _ _) (by omega)
      have hoe : (eref (own es t0.2)).length = (own es t0.2).length := by unfold eref; rw [List.length_map]
      refine for_seq (seq_list K lc (eref (own es t0.2))) (fun j σ H' => ∃ (o16' : Option V) (m' : KM), σ = [some (.ref sa), o1, some (.ref lp), some (.ref ln), some (.int life), some (.int st), some (.int (1 + sp)), some (.ref x), some (.ref l), o9, o10, o11, o12, o13, o14, o15, o16', o17, some (.ref xb)] ∧ KyAt C H' xb ab life m' j ∧ V1 ((own es t0.2).take j) (m' t0.2) ∧ j ≤ 100 ∧ (∀ c o, HL c = some o → (∀ kv, o ≠ .dT kv) → H' c = some o))
        (fun j σ H' ⟨_, _, _, _, _, _, k⟩ => SqL.of (k _ _ gL (fun _ z => nomatch z))) ⟨_, _, rfl, kyb.same sL, .nil, Nat.zero_le _, fun _ _ e _ => e⟩ ?_ ?_
      · rintro j y σ H' hy ⟨o16', m', rfl, ky', v', hj, kL⟩
        unfold eref at hy
        rw [List.getElem?_map] at hy
        obtain ⟨z, hz, rfl⟩ := Option.map_eq_some_iff.mp hy
        obtain ⟨hzm, hzq⟩ := own_mem (List.mem_of_getElem? hz)
        obtain ⟨gz, gzt⟩ := SL.lg z hzm
        have hjl := (List.getElem?_eq_some_iff.mp hz).1
        have e1 : (own es t0.2).take (j + 1) = (own es t0.2).take j ++ [z] := by rw [List.take_succ, hz]; rfl
        obtain ⟨s', hs'⟩ : ∃ s', V1 ((own es t0.2).take j ++ [z]) s' := by
          rw [← e1]
          refine V1.pre _ (r := (own es t0.2).drop (j + 1)) rfl (s := M t0.2) ?_
          rw [List.take_append_drop]
          exact S.v t0.2
        obtain ⟨m'', hstep, hm''⟩ := V1.step (m := m') hs' (by rw [hzq]; exact v')
        dsimp only [gName]
        refine ⟨xb, ab, life, m', j, z, rfl, ky', by omega, kL _ _ gz (fun _ z => nomatch z), kL _ _ gzt (fun _ z => nomatch z), fun m3 hm3 H3 ky3 fr3 => ?_, fun hn => by rw [hstep] at hn; cases hn⟩
        rw [hstep] at hm3
        cases hm3
        refine ⟨_, m'', rfl, ky3, ?_, by omega, fun c o e hn => FrK.ko fr3 ky' (kL _ _ e hn) hn⟩
        rw [e1, show m'' t0.2 = s' by rw [← hzq]; exact hm'']
        exact hs'
      · rintro σ H' ⟨o16', m', rfl, ky', v', hj, kL⟩
        rw [hoe, List.take_of_length_le (Nat.le_refl _)] at v'
        have em : m' t0.2 = M t0.2 := v'.fn (S.v t0.2)
        have tn : ∀ {xs : List V} (kv : List (List Key × V)), HO.tup xs ≠ .dT kv := fun _ z => nomatch z
        have ln' : ∀ {xs : List V} (kv : List (List Key × V)), HO.lst xs ≠ .dT kv := fun _ z => nomatch z
        have glp' := kL _ _ glpL ln'
        have gt' := kL _ _ gt0L tn
        refine ⟨ab.dx, _, ky'.hp, kf_no ab life (by decide +kernel) (by decide +kernel) (by decide +kernel), _, SqL.of glp', _, at0, _, SqT.of gt', _, rfl, _, SqL.of glp', _, at0, _, SqT.of gt', _, rfl, xb, ab, life, m', _, t0.2, 0, rfl, ky', fun u H5 s5 g5 => ?_⟩
        rw [em] at g5
        refine ⟨_, SqL.of (s5 _ _ glp'), _, at0, l, t0.1, es, t0.2, M t0.2, life, 0, rfl, s5 _ _ (kL _ _ SL.gl ln'), LogAt.keep SL.lg (fun b xs e => s5 _ _ (kL _ _ e tn)), s5 _ _ gt', by omega, S.v t0.2, fun u2 H6 s6 g6 => ?_⟩
        have he6 : EntsAt ZN H6 M := EntsAt.keep SL.en (fun b xs e => s6 _ _ (s5 _ _ (kL _ _ e tn)))
        obtain ⟨tr, ok, rp⟩ := lookRep he6 t0.2 life 0 1
        exact ⟨_, _, tr, rfl, rp u (s6 _ _ g5), rp u2 g6, ok, fun H7 _ => q H7⟩
end
end KL
namespace KL
open PySem L2
theorem all_mk {l : W.OpenLaw} {w : World} {K : W.Frag} {h : Heap} {mg : Str → Option Value} {fa f_is_alive f_law_pen f_law_take f_law_cell_at f_law_names f_law_keys f_law_number f_law_deed f_law_answer f_law_pairs f_law_same f_law_last f_law_looked f_law_do f_law_refused f_law_right f_law : Addr} (X : K.In h) (G : h.Ns mainGlobals mg) (hfa : mg "law" = some (.ref fa))
    {od_is_alive an_is_alive : Option Addr} {sl_is_alive : Array (Option Value)} {oc_is_alive kV_is_alive dc_is_alive pm_is_alive cd_is_alive ct_is_alive : Value}
    {od_law_pen an_law_pen : Option Addr} {sl_law_pen : Array (Option Value)} {oc_law_pen kV_law_pen dc_law_pen pm_law_pen cd_law_pen ct_law_pen : Value}
    {od_law_take an_law_take : Option Addr} {sl_law_take : Array (Option Value)} {oc_law_take kV_law_take dc_law_take pm_law_take cd_law_take ct_law_take : Value}
    {od_law_cell_at an_law_cell_at : Option Addr} {sl_law_cell_at : Array (Option Value)} {oc_law_cell_at kV_law_cell_at dc_law_cell_at pm_law_cell_at cd_law_cell_at ct_law_cell_at : Value}
    {od_law_names an_law_names : Option Addr} {sl_law_names : Array (Option Value)} {oc_law_names kV_law_names dc_law_names pm_law_names cd_law_names ct_law_names : Value}
    {od_law_keys an_law_keys : Option Addr} {sl_law_keys : Array (Option Value)} {oc_law_keys kV_law_keys dc_law_keys pm_law_keys cd_law_keys ct_law_keys : Value}
    {od_law_number an_law_number : Option Addr} {sl_law_number : Array (Option Value)} {oc_law_number kV_law_number dc_law_number pm_law_number cd_law_number ct_law_number : Value}
    {od_law_deed an_law_deed : Option Addr} {sl_law_deed : Array (Option Value)} {oc_law_deed kV_law_deed dc_law_deed pm_law_deed cd_law_deed ct_law_deed : Value}
    {od_law_answer an_law_answer : Option Addr} {sl_law_answer : Array (Option Value)} {oc_law_answer kV_law_answer dc_law_answer pm_law_answer cd_law_answer ct_law_answer : Value}
    {od_law_pairs an_law_pairs : Option Addr} {sl_law_pairs : Array (Option Value)} {oc_law_pairs kV_law_pairs dc_law_pairs pm_law_pairs cd_law_pairs ct_law_pairs : Value}
    {od_law_same an_law_same : Option Addr} {sl_law_same : Array (Option Value)} {oc_law_same kV_law_same dc_law_same pm_law_same cd_law_same ct_law_same : Value}
    {od_law_last an_law_last : Option Addr} {sl_law_last : Array (Option Value)} {oc_law_last kV_law_last dc_law_last pm_law_last cd_law_last ct_law_last : Value}
    {od_law_looked an_law_looked : Option Addr} {sl_law_looked : Array (Option Value)} {oc_law_looked kV_law_looked dc_law_looked pm_law_looked cd_law_looked ct_law_looked : Value}
    {od_law_do an_law_do : Option Addr} {sl_law_do : Array (Option Value)} {oc_law_do kV_law_do dc_law_do pm_law_do cd_law_do ct_law_do : Value}
    {od_law_refused an_law_refused : Option Addr} {sl_law_refused : Array (Option Value)} {oc_law_refused kV_law_refused dc_law_refused pm_law_refused cd_law_refused ct_law_refused : Value}
    {od_law_right an_law_right : Option Addr} {sl_law_right : Array (Option Value)} {oc_law_right kV_law_right dc_law_right pm_law_right cd_law_right ct_law_right : Value}
    {od_law an_law : Option Addr} {sl_law : Array (Option Value)} {oc_law kV_law dc_law pm_law cd_law ct_law : Value}
    (a_is_alive : W.nsIn K mainGlobals "is_alive" = some (some (.ref f_is_alive))) (l_is_alive : K.lookup f_is_alive = some ⟨oc_is_alive, od_is_alive, .func (W.fnOf "is_alive" "is_alive" (defArgs s_is_alive) (defBody s_is_alive) (defScope s_is_alive) .none kV_is_alive dc_is_alive pm_is_alive an_is_alive cd_is_alive ct_is_alive), sl_is_alive⟩) (c_is_alive : W.codeIn K cd_is_alive "is_alive" = true) (k_is_alive : W.keepIn K (.ref f_is_alive) = true)
    (a_law_pen : W.nsIn K mainGlobals "_law_pen" = some (some (.ref f_law_pen))) (l_law_pen : K.lookup f_law_pen = some ⟨oc_law_pen, od_law_pen, .func (W.fnOf "_law_pen" "_law_pen" (defArgs s_law_pen) (defBody s_law_pen) (defScope s_law_pen) .none kV_law_pen dc_law_pen pm_law_pen an_law_pen cd_law_pen ct_law_pen), sl_law_pen⟩) (c_law_pen : W.codeIn K cd_law_pen "_law_pen" = true) (k_law_pen : W.keepIn K (.ref f_law_pen) = true)
    (a_law_take : W.nsIn K mainGlobals "_law_take" = some (some (.ref f_law_take))) (l_law_take : K.lookup f_law_take = some ⟨oc_law_take, od_law_take, .func (W.fnOf "_law_take" "_law_take" (defArgs s_law_take) (defBody s_law_take) (defScope s_law_take) .none kV_law_take dc_law_take pm_law_take an_law_take cd_law_take ct_law_take), sl_law_take⟩) (c_law_take : W.codeIn K cd_law_take "_law_take" = true) (k_law_take : W.keepIn K (.ref f_law_take) = true)
    (a_law_cell_at : W.nsIn K mainGlobals "_law_cell_at" = some (some (.ref f_law_cell_at))) (l_law_cell_at : K.lookup f_law_cell_at = some ⟨oc_law_cell_at, od_law_cell_at, .func (W.fnOf "_law_cell_at" "_law_cell_at" (defArgs s_law_cell_at) (defBody s_law_cell_at) (defScope s_law_cell_at) .none kV_law_cell_at dc_law_cell_at pm_law_cell_at an_law_cell_at cd_law_cell_at ct_law_cell_at), sl_law_cell_at⟩) (c_law_cell_at : W.codeIn K cd_law_cell_at "_law_cell_at" = true) (k_law_cell_at : W.keepIn K (.ref f_law_cell_at) = true)
    (a_law_names : W.nsIn K mainGlobals "_law_names" = some (some (.ref f_law_names))) (l_law_names : K.lookup f_law_names = some ⟨oc_law_names, od_law_names, .func (W.fnOf "_law_names" "_law_names" (defArgs s_law_names) (defBody s_law_names) (defScope s_law_names) .none kV_law_names dc_law_names pm_law_names an_law_names cd_law_names ct_law_names), sl_law_names⟩) (c_law_names : W.codeIn K cd_law_names "_law_names" = true) (k_law_names : W.keepIn K (.ref f_law_names) = true)
    (a_law_keys : W.nsIn K mainGlobals "_law_keys" = some (some (.ref f_law_keys))) (l_law_keys : K.lookup f_law_keys = some ⟨oc_law_keys, od_law_keys, .func (W.fnOf "_law_keys" "_law_keys" (defArgs s_law_keys) (defBody s_law_keys) (defScope s_law_keys) .none kV_law_keys dc_law_keys pm_law_keys an_law_keys cd_law_keys ct_law_keys), sl_law_keys⟩) (c_law_keys : W.codeIn K cd_law_keys "_law_keys" = true) (k_law_keys : W.keepIn K (.ref f_law_keys) = true)
    (a_law_number : W.nsIn K mainGlobals "_law_number" = some (some (.ref f_law_number))) (l_law_number : K.lookup f_law_number = some ⟨oc_law_number, od_law_number, .func (W.fnOf "_law_number" "_law_number" (defArgs s_law_number) (defBody s_law_number) (defScope s_law_number) .none kV_law_number dc_law_number pm_law_number an_law_number cd_law_number ct_law_number), sl_law_number⟩) (c_law_number : W.codeIn K cd_law_number "_law_number" = true) (k_law_number : W.keepIn K (.ref f_law_number) = true)
    (a_law_deed : W.nsIn K mainGlobals "_law_deed" = some (some (.ref f_law_deed))) (l_law_deed : K.lookup f_law_deed = some ⟨oc_law_deed, od_law_deed, .func (W.fnOf "_law_deed" "_law_deed" (defArgs s_law_deed) (defBody s_law_deed) (defScope s_law_deed) .none kV_law_deed dc_law_deed pm_law_deed an_law_deed cd_law_deed ct_law_deed), sl_law_deed⟩) (c_law_deed : W.codeIn K cd_law_deed "_law_deed" = true) (k_law_deed : W.keepIn K (.ref f_law_deed) = true)
    (a_law_answer : W.nsIn K mainGlobals "_law_answer" = some (some (.ref f_law_answer))) (l_law_answer : K.lookup f_law_answer = some ⟨oc_law_answer, od_law_answer, .func (W.fnOf "_law_answer" "_law_answer" (defArgs s_law_answer) (defBody s_law_answer) (defScope s_law_answer) .none kV_law_answer dc_law_answer pm_law_answer an_law_answer cd_law_answer ct_law_answer), sl_law_answer⟩) (c_law_answer : W.codeIn K cd_law_answer "_law_answer" = true) (k_law_answer : W.keepIn K (.ref f_law_answer) = true)
    (a_law_pairs : W.nsIn K mainGlobals "_law_pairs" = some (some (.ref f_law_pairs))) (l_law_pairs : K.lookup f_law_pairs = some ⟨oc_law_pairs, od_law_pairs, .func (W.fnOf "_law_pairs" "_law_pairs" (defArgs s_law_pairs) (defBody s_law_pairs) (defScope s_law_pairs) .none kV_law_pairs dc_law_pairs pm_law_pairs an_law_pairs cd_law_pairs ct_law_pairs), sl_law_pairs⟩) (c_law_pairs : W.codeIn K cd_law_pairs "_law_pairs" = true) (k_law_pairs : W.keepIn K (.ref f_law_pairs) = true)
    (a_law_same : W.nsIn K mainGlobals "_law_same" = some (some (.ref f_law_same))) (l_law_same : K.lookup f_law_same = some ⟨oc_law_same, od_law_same, .func (W.fnOf "_law_same" "_law_same" (defArgs s_law_same) (defBody s_law_same) (defScope s_law_same) .none kV_law_same dc_law_same pm_law_same an_law_same cd_law_same ct_law_same), sl_law_same⟩) (c_law_same : W.codeIn K cd_law_same "_law_same" = true) (k_law_same : W.keepIn K (.ref f_law_same) = true)
    (a_law_last : W.nsIn K mainGlobals "_law_last" = some (some (.ref f_law_last))) (l_law_last : K.lookup f_law_last = some ⟨oc_law_last, od_law_last, .func (W.fnOf "_law_last" "_law_last" (defArgs s_law_last) (defBody s_law_last) (defScope s_law_last) .none kV_law_last dc_law_last pm_law_last an_law_last cd_law_last ct_law_last), sl_law_last⟩) (c_law_last : W.codeIn K cd_law_last "_law_last" = true) (k_law_last : W.keepIn K (.ref f_law_last) = true)
    (a_law_looked : W.nsIn K mainGlobals "_law_looked" = some (some (.ref f_law_looked))) (l_law_looked : K.lookup f_law_looked = some ⟨oc_law_looked, od_law_looked, .func (W.fnOf "_law_looked" "_law_looked" (defArgs s_law_looked) (defBody s_law_looked) (defScope s_law_looked) .none kV_law_looked dc_law_looked pm_law_looked an_law_looked cd_law_looked ct_law_looked), sl_law_looked⟩) (c_law_looked : W.codeIn K cd_law_looked "_law_looked" = true) (k_law_looked : W.keepIn K (.ref f_law_looked) = true)
    (a_law_do : W.nsIn K mainGlobals "_law_do" = some (some (.ref f_law_do))) (l_law_do : K.lookup f_law_do = some ⟨oc_law_do, od_law_do, .func (W.fnOf "_law_do" "_law_do" (defArgs s_law_do) (defBody s_law_do) (defScope s_law_do) .none kV_law_do dc_law_do pm_law_do an_law_do cd_law_do ct_law_do), sl_law_do⟩) (c_law_do : W.codeIn K cd_law_do "_law_do" = true) (k_law_do : W.keepIn K (.ref f_law_do) = true)
    (a_law_refused : W.nsIn K mainGlobals "_law_refused" = some (some (.ref f_law_refused))) (l_law_refused : K.lookup f_law_refused = some ⟨oc_law_refused, od_law_refused, .func (W.fnOf "_law_refused" "_law_refused" (defArgs s_law_refused) (defBody s_law_refused) (defScope s_law_refused) .none kV_law_refused dc_law_refused pm_law_refused an_law_refused cd_law_refused ct_law_refused), sl_law_refused⟩) (c_law_refused : W.codeIn K cd_law_refused "_law_refused" = true) (k_law_refused : W.keepIn K (.ref f_law_refused) = true)
    (a_law_right : W.nsIn K mainGlobals "_law_right" = some (some (.ref f_law_right))) (l_law_right : K.lookup f_law_right = some ⟨oc_law_right, od_law_right, .func (W.fnOf "_law_right" "_law_right" (defArgs s_law_right) (defBody s_law_right) (defScope s_law_right) .none kV_law_right dc_law_right pm_law_right an_law_right cd_law_right ct_law_right), sl_law_right⟩) (c_law_right : W.codeIn K cd_law_right "_law_right" = true) (k_law_right : W.keepIn K (.ref f_law_right) = true)
    (a_law : W.nsIn K mainGlobals "law" = some (some (.ref f_law))) (l_law : K.lookup f_law = some ⟨oc_law, od_law, .func (W.fnOf "law" "law" (defArgs s_law) (defBody s_law) (defScope s_law) .none kV_law dc_law pm_law an_law cd_law ct_law), sl_law⟩) (c_law : W.codeIn K cd_law "law" = true) (k_law : W.keepIn K (.ref f_law) = true)
    {C_Keys : Addr} (aC_Keys : W.nsIn K mainGlobals "Keys" = some (some (.ref C_Keys))) (pg_Keys : W.plainGet K C_Keys Str.empty = true) (hd_Keys : W.hasDictIn K C_Keys = true) (po_Keys : W.plainOver K C_Keys = true) (sa_Keys : W.findIn K (.ref C_Keys) "__setattr__" = some (some (.builtin "object.__setattr__"))) (mk_Keys : W.makesIn K C_Keys = true) (kc_Keys : W.keepIn K (.ref C_Keys) = true)
    (n_Keys_life : W.findIn K (.ref C_Keys) "life" = some none)
    (n_Keys_begun_ones : W.findIn K (.ref C_Keys) "begun_ones" = some none)
    (n_Keys_settled_ones : W.findIn K (.ref C_Keys) "settled_ones" = some none)
    {f_Keys___init__ : Addr} {od_Keys___init__ an_Keys___init__ : Option Addr} {sl_Keys___init__ : Array (Option Value)} {oc_Keys___init__ kV_Keys___init__ dc_Keys___init__ pm_Keys___init__ cd_Keys___init__ ct_Keys___init__ : Value}
    (a_Keys___init__ : W.findIn K (.ref C_Keys) "__init__" = some (some (.ref f_Keys___init__))) (i_Keys___init__ : W.isFn K (.ref f_Keys___init__) = true) (l_Keys___init__ : K.lookup f_Keys___init__ = some ⟨oc_Keys___init__, od_Keys___init__, .func (W.fnOf "__init__" "Keys.__init__" (defArgs s_Keys___init__) (defBody s_Keys___init__) (defScope s_Keys___init__) .none kV_Keys___init__ dc_Keys___init__ pm_Keys___init__ an_Keys___init__ cd_Keys___init__ ct_Keys___init__), sl_Keys___init__⟩) (c_Keys___init__ : W.codeIn K cd_Keys___init__ "Keys.__init__" = true) (k_Keys___init__ : W.keepIn K (.ref f_Keys___init__) = true)
    {f_Keys_look : Addr} {od_Keys_look an_Keys_look : Option Addr} {sl_Keys_look : Array (Option Value)} {oc_Keys_look kV_Keys_look dc_Keys_look pm_Keys_look cd_Keys_look ct_Keys_look : Value}
    (a_Keys_look : W.findIn K (.ref C_Keys) "look" = some (some (.ref f_Keys_look))) (i_Keys_look : W.isFn K (.ref f_Keys_look) = true) (l_Keys_look : K.lookup f_Keys_look = some ⟨oc_Keys_look, od_Keys_look, .func (W.fnOf "look" "Keys.look" (defArgs s_Keys_look) (defBody s_Keys_look) (defScope s_Keys_look) .none kV_Keys_look dc_Keys_look pm_Keys_look an_Keys_look cd_Keys_look ct_Keys_look), sl_Keys_look⟩) (c_Keys_look : W.codeIn K cd_Keys_look "Keys.look" = true) (k_Keys_look : W.keepIn K (.ref f_Keys_look) = true)
    {f_Keys_begin : Addr} {od_Keys_begin an_Keys_begin : Option Addr} {sl_Keys_begin : Array (Option Value)} {oc_Keys_begin kV_Keys_begin dc_Keys_begin pm_Keys_begin cd_Keys_begin ct_Keys_begin : Value}
    (a_Keys_begin : W.findIn K (.ref C_Keys) "begin" = some (some (.ref f_Keys_begin))) (i_Keys_begin : W.isFn K (.ref f_Keys_begin) = true) (l_Keys_begin : K.lookup f_Keys_begin = some ⟨oc_Keys_begin, od_Keys_begin, .func (W.fnOf "begin" "Keys.begin" (defArgs s_Keys_begin) (defBody s_Keys_begin) (defScope s_Keys_begin) .none kV_Keys_begin dc_Keys_begin pm_Keys_begin an_Keys_begin cd_Keys_begin ct_Keys_begin), sl_Keys_begin⟩) (c_Keys_begin : W.codeIn K cd_Keys_begin "Keys.begin" = true) (k_Keys_begin : W.keepIn K (.ref f_Keys_begin) = true)
    {f_Keys_drop : Addr} {od_Keys_drop an_Keys_drop : Option Addr} {sl_Keys_drop : Array (Option Value)} {oc_Keys_drop kV_Keys_drop dc_Keys_drop pm_Keys_drop cd_Keys_drop ct_Keys_drop : Value}
    (a_Keys_drop : W.findIn K (.ref C_Keys) "drop" = some (some (.ref f_Keys_drop))) (i_Keys_drop : W.isFn K (.ref f_Keys_drop) = true) (l_Keys_drop : K.lookup f_Keys_drop = some ⟨oc_Keys_drop, od_Keys_drop, .func (W.fnOf "drop" "Keys.drop" (defArgs s_Keys_drop) (defBody s_Keys_drop) (defScope s_Keys_drop) .none kV_Keys_drop dc_Keys_drop pm_Keys_drop an_Keys_drop cd_Keys_drop ct_Keys_drop), sl_Keys_drop⟩) (c_Keys_drop : W.codeIn K cd_Keys_drop "Keys.drop" = true) (k_Keys_drop : W.keepIn K (.ref f_Keys_drop) = true)
    {f_Keys_settle : Addr} {od_Keys_settle an_Keys_settle : Option Addr} {sl_Keys_settle : Array (Option Value)} {oc_Keys_settle kV_Keys_settle dc_Keys_settle pm_Keys_settle cd_Keys_settle ct_Keys_settle : Value}
    (a_Keys_settle : W.findIn K (.ref C_Keys) "settle" = some (some (.ref f_Keys_settle))) (i_Keys_settle : W.isFn K (.ref f_Keys_settle) = true) (l_Keys_settle : K.lookup f_Keys_settle = some ⟨oc_Keys_settle, od_Keys_settle, .func (W.fnOf "settle" "Keys.settle" (defArgs s_Keys_settle) (defBody s_Keys_settle) (defScope s_Keys_settle) .none kV_Keys_settle dc_Keys_settle pm_Keys_settle an_Keys_settle cd_Keys_settle ct_Keys_settle), sl_Keys_settle⟩) (c_Keys_settle : W.codeIn K cd_Keys_settle "Keys.settle" = true) (k_Keys_settle : W.keepIn K (.ref f_Keys_settle) = true)
    {f_Keys_end : Addr} {od_Keys_end an_Keys_end : Option Addr} {sl_Keys_end : Array (Option Value)} {oc_Keys_end kV_Keys_end dc_Keys_end pm_Keys_end cd_Keys_end ct_Keys_end : Value}
    (a_Keys_end : W.findIn K (.ref C_Keys) "end" = some (some (.ref f_Keys_end))) (i_Keys_end : W.isFn K (.ref f_Keys_end) = true) (l_Keys_end : K.lookup f_Keys_end = some ⟨oc_Keys_end, od_Keys_end, .func (W.fnOf "end" "Keys.end" (defArgs s_Keys_end) (defBody s_Keys_end) (defScope s_Keys_end) .none kV_Keys_end dc_Keys_end pm_Keys_end an_Keys_end cd_Keys_end ct_Keys_end), sl_Keys_end⟩) (c_Keys_end : W.codeIn K cd_Keys_end "Keys.end" = true) (k_Keys_end : W.keepIn K (.ref f_Keys_end) = true)
    {f_Keys_kept : Addr} {od_Keys_kept an_Keys_kept : Option Addr} {sl_Keys_kept : Array (Option Value)} {oc_Keys_kept kV_Keys_kept dc_Keys_kept pm_Keys_kept cd_Keys_kept ct_Keys_kept : Value}
    (a_Keys_kept : W.findIn K (.ref C_Keys) "kept" = some (some (.ref f_Keys_kept))) (i_Keys_kept : W.isFn K (.ref f_Keys_kept) = true) (l_Keys_kept : K.lookup f_Keys_kept = some ⟨oc_Keys_kept, od_Keys_kept, .func (W.fnOf "kept" "Keys.kept" (defArgs s_Keys_kept) (defBody s_Keys_kept) (defScope s_Keys_kept) .none kV_Keys_kept dc_Keys_kept pm_Keys_kept an_Keys_kept cd_Keys_kept ct_Keys_kept), sl_Keys_kept⟩) (c_Keys_kept : W.codeIn K cd_Keys_kept "Keys.kept" = true) (k_Keys_kept : W.keepIn K (.ref f_Keys_kept) = true)
    {f_Keys_under : Addr} {od_Keys_under an_Keys_under : Option Addr} {sl_Keys_under : Array (Option Value)} {oc_Keys_under kV_Keys_under dc_Keys_under pm_Keys_under cd_Keys_under ct_Keys_under : Value}
    (a_Keys_under : W.findIn K (.ref C_Keys) "under" = some (some (.ref f_Keys_under))) (i_Keys_under : W.isFn K (.ref f_Keys_under) = true) (l_Keys_under : K.lookup f_Keys_under = some ⟨oc_Keys_under, od_Keys_under, .func (W.fnOf "under" "Keys.under" (defArgs s_Keys_under) (defBody s_Keys_under) (defScope s_Keys_under) .none kV_Keys_under dc_Keys_under pm_Keys_under an_Keys_under cd_Keys_under ct_Keys_under), sl_Keys_under⟩) (c_Keys_under : W.codeIn K cd_Keys_under "Keys.under" = true) (k_Keys_under : W.keepIn K (.ref f_Keys_under) = true)
    {f_Keys_is_kept : Addr} {od_Keys_is_kept an_Keys_is_kept : Option Addr} {sl_Keys_is_kept : Array (Option Value)} {oc_Keys_is_kept kV_Keys_is_kept dc_Keys_is_kept pm_Keys_is_kept cd_Keys_is_kept ct_Keys_is_kept : Value}
    (a_Keys_is_kept : W.findIn K (.ref C_Keys) "is_kept" = some (some (.ref f_Keys_is_kept))) (i_Keys_is_kept : W.isFn K (.ref f_Keys_is_kept) = true) (l_Keys_is_kept : K.lookup f_Keys_is_kept = some ⟨oc_Keys_is_kept, od_Keys_is_kept, .func (W.fnOf "is_kept" "Keys.is_kept" (defArgs s_Keys_is_kept) (defBody s_Keys_is_kept) (defScope s_Keys_is_kept) .none kV_Keys_is_kept dc_Keys_is_kept pm_Keys_is_kept an_Keys_is_kept cd_Keys_is_kept ct_Keys_is_kept), sl_Keys_is_kept⟩) (c_Keys_is_kept : W.codeIn K cd_Keys_is_kept "Keys.is_kept" = true) (k_Keys_is_kept : W.keepIn K (.ref f_Keys_is_kept) = true)
    {C_DoorError : Addr} (aC_DoorError : W.nsIn K mainGlobals "DoorError" = some (some (.ref C_DoorError)))
    {C_Busy : Addr} (aC_Busy : W.nsIn K mainGlobals "Busy" = some (some (.ref C_Busy)))
    {C_NoAsk : Addr} (aC_NoAsk : W.nsIn K mainGlobals "NoAsk" = some (some (.ref C_NoAsk)))
    {f_Busy___init__ : Addr} {od_Busy___init__ an_Busy___init__ : Option Addr} {sl_Busy___init__ : Array (Option Value)} {oc_Busy___init__ kV_Busy___init__ dc_Busy___init__ pm_Busy___init__ cd_Busy___init__ ct_Busy___init__ : Value}
    (a_Busy___init__ : W.findIn K (.ref C_Busy) "__init__" = some (some (.ref f_Busy___init__))) (i_Busy___init__ : W.isFn K (.ref f_Busy___init__) = true) (l_Busy___init__ : K.lookup f_Busy___init__ = some ⟨oc_Busy___init__, od_Busy___init__, .func (W.fnOf "__init__" "Busy.__init__" (defArgs s_Busy___init__) (defBody s_Busy___init__) (defScope s_Busy___init__) .none kV_Busy___init__ dc_Busy___init__ pm_Busy___init__ an_Busy___init__ cd_Busy___init__ ct_Busy___init__), sl_Busy___init__⟩) (c_Busy___init__ : W.codeIn K cd_Busy___init__ "Busy.__init__" = true) (k_Busy___init__ : W.keepIn K (.ref f_Busy___init__) = true)
    (x_bga : W.findIn K (.ref C_Busy) "__getattribute__" = some (some (.builtin "BaseException.__getattribute__")))
    (x_bgx : W.findIn K (.ref C_Busy) "__getattr__" = some none)
    (x_bcl : W.findIn K (.ref C_Busy) "__class__" = some (some (.builtin "object.__class__")))
    (x_bmo : W.mroIn K C_Busy (.type "object") = some true)
    (x_bmb : W.mroIn K C_Busy (.type "BaseException") = some true)
    (x_bci : W.isClsIn K C_Busy = true)
    (x_bxm : W.exmOne K (.ref C_Busy) (.ref C_DoorError) = some true)
    (x_bk_VE : W.kitOne K (.ref C_Busy) (.type "ValueError") = some true)
    (x_nga : W.findIn K (.ref C_NoAsk) "__getattribute__" = some (some (.builtin "BaseException.__getattribute__")))
    (x_ngx : W.findIn K (.ref C_NoAsk) "__getattr__" = some none)
    (x_ncl : W.findIn K (.ref C_NoAsk) "__class__" = some (some (.builtin "object.__class__")))
    (x_nmo : W.mroIn K C_NoAsk (.type "object") = some true)
    (x_nmb : W.mroIn K C_NoAsk (.type "BaseException") = some true)
    (x_nci : W.isClsIn K C_NoAsk = true)
    (x_nxm : W.exmOne K (.ref C_NoAsk) (.ref C_DoorError) = some true)
    (x_nk_VE : W.kitOne K (.ref C_NoAsk) (.type "ValueError") = some true)
    (x_gg : W.specialIn K (.builtin "object.__class__") "__get__" = some (some (.builtin "getset_descriptor.__get__")))
    (x_tk : W.takesIn K (.builtin "object.__class__") = some true)
    (x_nexc : W.excIn K C_NoAsk [.type "ValueError", .type "Exception", .type "BaseException", .type "object"] "ValueError.__new__" = true)
    (x_bexc : excInI K C_Busy f_Busy___init__ [.type "ValueError", .type "Exception", .type "BaseException", .type "object"] "ValueError.__new__" = true)
    (x_bsa : W.findIn K (.ref C_Busy) "__setattr__" = some (some (.builtin "object.__setattr__")))
    (x_bov : excOver K C_Busy = true)
    (x_btk : W.takerIn K C_Busy "number" = some none)
    (x_bnum : W.findIn K (.ref C_Busy) "number" = some none)
    (x_bhd : W.hasDictIn K C_Busy = true)
    (z_isinstance : W.nsIn K mainGlobals "isinstance" = some none)
    (z_int : W.nsIn K mainGlobals "int" = some none)
    (z_bool : W.nsIn K mainGlobals "bool" = some none)
    (z_all : W.nsIn K mainGlobals "all" = some none)
    (z_str : W.nsIn K mainGlobals "str" = some none)
    (z_len : W.nsIn K mainGlobals "len" = some none)
    (z_tuple : W.nsIn K mainGlobals "tuple" = some none)
    (z_zip : W.nsIn K mainGlobals "zip" = some none)
    (z_dict : W.nsIn K mainGlobals "dict" = some none)
    (z_sorted : W.nsIn K mainGlobals "sorted" = some none)
    (z_sum : W.nsIn K mainGlobals "sum" = some none)
    (z_list : W.nsIn K mainGlobals "list" = some none)
    (z_reversed : W.nsIn K mainGlobals "reversed" = some none)
    (z_range : W.nsIn K mainGlobals "range" = some none)
    (z_min : W.nsIn K mainGlobals "min" = some none)
    (z_max : W.nsIn K mainGlobals "max" = some none)
    (z_enumerate : W.nsIn K mainGlobals "enumerate" = some none)
    (z_ValueError : W.nsIn K mainGlobals "ValueError" = some none)
    (z_set : W.nsIn K mainGlobals "set" = some none)
    : ∃ fd : FuncData, (∀ (s : Shared) (v : Value), BindsTo s fd ⟨[v], []⟩ [("_law_script", v)]) ∧ ∀ base : Heap, K.In base → base.Ns mainGlobals mg → FnOk l.prog w K mg base CX0 8 fa fd ["_law_script"] (spLaw K) := by
  have e := hfa.symm.trans (W.mg_of X G a_law)
  cases e
  have T : Txt K mg := ⟨W.mg_none_of X G z_isinstance, W.mg_none_of X G z_int, W.mg_none_of X G z_bool, W.mg_none_of X G z_all, W.mg_none_of X G z_str, W.mg_none_of X G z_len, W.mg_none_of X G z_tuple, W.mg_none_of X G z_zip, W.mg_none_of X G z_dict, W.mg_none_of X G z_sorted, W.mg_none_of X G z_sum, W.mg_none_of X G z_list, W.mg_none_of X G z_reversed, W.mg_none_of X G z_range, W.mg_none_of X G z_min, W.mg_none_of X G z_max, W.mg_none_of X G z_enumerate, W.mg_none_of X G z_ValueError, W.mg_none_of X G z_set⟩
  have D_is_alive : DefAt K mg "is_alive" s_is_alive ["since", "life", "turn"] := def_at X G a_is_alive l_is_alive c_is_alive k_is_alive (fun _ _ _ _ _ _ us hl => match us, hl with | [_, _, _], _ => rfl)
  have D_law_pen : DefAt K mg "_law_pen" s_law_pen ["_law_cell", "_law_k"] := def_at X G a_law_pen l_law_pen c_law_pen k_law_pen (fun _ _ _ _ _ _ us hl => match us, hl with | [_, _], _ => rfl)
  have D_law_take : DefAt K mg "_law_take" s_law_take ["_law_pen_here", "_law_most"] := def_at X G a_law_take l_law_take c_law_take k_law_take (fun _ _ _ _ _ _ us hl => match us, hl with | [_, _], _ => rfl)
  have D_law_cell_at : DefAt K mg "_law_cell_at" s_law_cell_at ["_law_script", "_law_k"] := def_at X G a_law_cell_at l_law_cell_at c_law_cell_at k_law_cell_at (fun _ _ _ _ _ _ us hl => match us, hl with | [_, _], _ => rfl)
  have D_law_names : DefAt K mg "_law_names" s_law_names ["_law_pen_here", "_law_many"] := def_at X G a_law_names l_law_names c_law_names k_law_names (fun _ _ _ _ _ _ us hl => match us, hl with | [_, _], _ => rfl)
  have D_law_keys : DefAt K mg "_law_keys" s_law_keys ["_law_pen_here", "_law_many"] := def_at X G a_law_keys l_law_keys c_law_keys k_law_keys (fun _ _ _ _ _ _ us hl => match us, hl with | [_, _], _ => rfl)
  have D_law_number : DefAt K mg "_law_number" s_law_number ["_law_pen_here", "_law_least", "_law_most"] := def_at X G a_law_number l_law_number c_law_number k_law_number (fun _ _ _ _ _ _ us hl => match us, hl with | [_, _, _], _ => rfl)
  have D_law_deed : DefAt K mg "_law_deed" s_law_deed ["_law_pen_here", "_law_names_here"] := def_at X G a_law_deed l_law_deed c_law_deed k_law_deed (fun _ _ _ _ _ _ us hl => match us, hl with | [_, _], _ => rfl)
  have D_law_answer : DefAt K mg "_law_answer" s_law_answer ["_law_pen_here", "_law_deed_here"] := def_at X G a_law_answer l_law_answer c_law_answer k_law_answer (fun _ _ _ _ _ _ us hl => match us, hl with | [_, _], _ => rfl)
  have D_law_pairs : DefAt K mg "_law_pairs" s_law_pairs ["_law_names_here", "_law_keys_here"] := def_at X G a_law_pairs l_law_pairs c_law_pairs k_law_pairs (fun _ _ _ _ _ _ us hl => match us, hl with | [_, _], _ => rfl)
  have D_law_same : DefAt K mg "_law_same" s_law_same ["_law_found", "_law_due"] := def_at X G a_law_same l_law_same c_law_same k_law_same (fun _ _ _ _ _ _ us hl => match us, hl with | [_, _], _ => rfl)
  have D_law_last : DefAt K mg "_law_last" s_law_last ["_law_log", "_law_pair"] := def_at X G a_law_last l_law_last c_law_last k_law_last (fun _ _ _ _ _ _ us hl => match us, hl with | [_, _], _ => rfl)
  have D_law_looked : DefAt K mg "_law_looked" s_law_looked ["_law_log", "_law_pair", "_law_life", "_law_turn"] := def_at X G a_law_looked l_law_looked c_law_looked k_law_looked (fun _ _ _ _ _ _ us hl => match us, hl with | [_, _, _, _], _ => rfl)
  have D_law_do : DefAt K mg "_law_do" s_law_do ["_law_keys_here", "_law_entry"] := def_at X G a_law_do l_law_do c_law_do k_law_do (fun _ _ _ _ _ _ us hl => match us, hl with | [_, _], _ => rfl)
  have D_law_refused : DefAt K mg "_law_refused" s_law_refused ["_law_keys_here", "_law_entry"] := def_at X G a_law_refused l_law_refused c_law_refused k_law_refused (fun _ _ _ _ _ _ us hl => match us, hl with | [_, _], _ => rfl)
  have D_law_right : DefAt K mg "_law_right" s_law_right ["_law_keys_here", "_law_log", "_law_pairs_here", "_law_life", "_law_turn"] := def_at X G a_law_right l_law_right c_law_right k_law_right (fun _ _ _ _ _ _ us hl => match us, hl with | [_, _, _, _, _], _ => rfl)
  have cl_Keys : Cls K C_Keys := ⟨pg_Keys, hd_Keys, po_Keys, sa_Keys⟩
  have M_Keys_look : MethAt K C_Keys "look" "Keys.look" s_Keys_look ["self", "asker", "key", "turn"] := ⟨cl_Keys, _, _, fun_mk l_Keys_look c_Keys_look k_Keys_look, ⟨a_Keys_look, i_Keys_look, k_Keys_look⟩, (fun_mk (st := s_Keys_look) l_Keys_look c_Keys_look k_Keys_look).binds (fun _ _ _ _ _ _ us hl => match us, hl with | [_, _, _, _], _ => rfl)⟩
  have M_Keys_begin : MethAt K C_Keys "begin" "Keys.begin" s_Keys_begin ["self", "asker", "key", "number", "deed"] := ⟨cl_Keys, _, _, fun_mk l_Keys_begin c_Keys_begin k_Keys_begin, ⟨a_Keys_begin, i_Keys_begin, k_Keys_begin⟩, (fun_mk (st := s_Keys_begin) l_Keys_begin c_Keys_begin k_Keys_begin).binds (fun _ _ _ _ _ _ us hl => match us, hl with | [_, _, _, _, _], _ => rfl)⟩
  have M_Keys_drop : MethAt K C_Keys "drop" "Keys.drop" s_Keys_drop ["self", "asker", "key"] := ⟨cl_Keys, _, _, fun_mk l_Keys_drop c_Keys_drop k_Keys_drop, ⟨a_Keys_drop, i_Keys_drop, k_Keys_drop⟩, (fun_mk (st := s_Keys_drop) l_Keys_drop c_Keys_drop k_Keys_drop).binds (fun _ _ _ _ _ _ us hl => match us, hl with | [_, _, _], _ => rfl)⟩
  have M_Keys_settle : MethAt K C_Keys "settle" "Keys.settle" s_Keys_settle ["self", "asker", "key", "turn", "answer"] := ⟨cl_Keys, _, _, fun_mk l_Keys_settle c_Keys_settle k_Keys_settle, ⟨a_Keys_settle, i_Keys_settle, k_Keys_settle⟩, (fun_mk (st := s_Keys_settle) l_Keys_settle c_Keys_settle k_Keys_settle).binds (fun _ _ _ _ _ _ us hl => match us, hl with | [_, _, _, _, _], _ => rfl)⟩
  have M_Keys_end : MethAt K C_Keys "end" "Keys.end" s_Keys_end ["self", "pair"] := ⟨cl_Keys, _, _, fun_mk l_Keys_end c_Keys_end k_Keys_end, ⟨a_Keys_end, i_Keys_end, k_Keys_end⟩, (fun_mk (st := s_Keys_end) l_Keys_end c_Keys_end k_Keys_end).binds (fun _ _ _ _ _ _ us hl => match us, hl with | [_, _], _ => rfl)⟩
  have M_Keys_kept : MethAt K C_Keys "kept" "Keys.kept" s_Keys_kept ["self", "turn"] := ⟨cl_Keys, _, _, fun_mk l_Keys_kept c_Keys_kept k_Keys_kept, ⟨a_Keys_kept, i_Keys_kept, k_Keys_kept⟩, (fun_mk (st := s_Keys_kept) l_Keys_kept c_Keys_kept k_Keys_kept).binds (fun _ _ _ _ _ _ us hl => match us, hl with | [_, _], _ => rfl)⟩
  have M_Keys_under : MethAt K C_Keys "under" "Keys.under" s_Keys_under ["self"] := ⟨cl_Keys, _, _, fun_mk l_Keys_under c_Keys_under k_Keys_under, ⟨a_Keys_under, i_Keys_under, k_Keys_under⟩, (fun_mk (st := s_Keys_under) l_Keys_under c_Keys_under k_Keys_under).binds (fun _ _ _ _ _ _ us hl => match us, hl with | [_], _ => rfl)⟩
  have M_Keys_is_kept : MethAt K C_Keys "is_kept" "Keys.is_kept" s_Keys_is_kept ["self", "pair", "turn"] := ⟨cl_Keys, _, _, fun_mk l_Keys_is_kept c_Keys_is_kept k_Keys_is_kept, ⟨a_Keys_is_kept, i_Keys_is_kept, k_Keys_is_kept⟩, (fun_mk (st := s_Keys_is_kept) l_Keys_is_kept c_Keys_is_kept k_Keys_is_kept).binds (fun _ _ _ _ _ _ us hl => match us, hl with | [_, _, _], _ => rfl)⟩
  have I_Keys : ClsAt K mg "Keys" C_Keys "Keys.__init__" s_Keys___init__ ["self", "life"] [[]] := ⟨f_Keys___init__, _, _, W.mg_of X G aC_Keys, ⟨_, _, _, _, _, _, _, _, _, rfl, l_Keys___init__, c_Keys___init__⟩, ⟨mk_Keys, a_Keys___init__, i_Keys___init__, kc_Keys⟩, by
    intro d hd
    obtain rfl := List.mem_singleton.mp hd
    exact ⟨[], fun s us KI hl => match us, (show us.length = 2 by simpa using hl) with | [_, _], _ => BindsTo.of_eq rfl, .nil⟩⟩
  have N_Busy : InitAt K f_Busy___init__ "Busy.__init__" s_Busy___init__ ["self", "number"] := ⟨⟨_, fun_mk l_Busy___init__ c_Busy___init__ k_Busy___init__, (fun_mk (st := s_Busy___init__) l_Busy___init__ c_Busy___init__ k_Busy___init__).binds (fun _ _ _ _ _ _ us hl => match us, hl with | [_, _], _ => rfl)⟩, i_Busy___init__⟩
  refine ⟨W.fnOf "law" "law" (defArgs s_law) (defBody s_law) (defScope s_law) .none kV_law dc_law pm_law an_law cd_law ct_law, fun s v => .of_eq rfl, fun base _ _ => ?_⟩
  have F_law := fun_mk (st := s_law) l_law c_law k_law
  have KT : KsT K C_Keys := ⟨cl_Keys, n_Keys_life, n_Keys_begun_ones, n_Keys_settled_ones⟩
  have cp := ok_pen (P := l.prog) (w := w) (base := base) T D_law_pen
  have ct := ok_take (P := l.prog) (w := w) (base := base) T D_law_take
  have ce := ok_cell (P := l.prog) (w := w) (base := base) T D_law_cell_at
  have cn := ok_number20 T ct D_law_number
  have cna := ok_names20 T ct D_law_names
  have cke := ok_keys20 T ct D_law_keys
  have csa := ok_same (P := l.prog) (w := w) (base := base) T D_law_same 4
  have cde := ok_deed40 T ct cn D_law_deed
  have can := ok_answer40 T ct cn D_law_answer
  have cal := ok_alive (P := l.prog) (w := w) (base := base) D_is_alive
  have cik := ok_isKept KT cal M_Keys_is_kept
  have clo := ok_look KT cik M_Keys_look
  have XQb : XKind K C_Busy := ⟨x_bga, x_bgx, x_bcl, x_gg, x_tk, x_bmo, x_bmb, x_bci⟩
  have XQn : XKind K C_NoAsk := ⟨x_nga, x_ngx, x_ncl, x_gg, x_tk, x_nmo, x_nmb, x_nci⟩
  have XNA : XCls K mg "NoAsk" C_NoAsk := ⟨W.mg_of X G aC_NoAsk, x_nexc⟩
  have XBI : XClsI K mg "Busy" C_Busy f_Busy___init__ := ⟨W.mg_of X G aC_Busy, x_bexc⟩
  have iB : XInit l.prog w K mg base 1 C_Busy f_Busy___init__ "number" := ok_binit ⟨x_bsa, x_bov, x_btk⟩ N_Busy
  have cend := ok_endX (P := l.prog) (w := w) (base := base) T KT XNA M_Keys_end
  have cdr := ok_dropX KT cend M_Keys_drop
  have cse := ok_settleX KT cend M_Keys_settle
  have cbe := ok_beginX KT XBI iB M_Keys_begin
  have cki := ok_kinit (P := l.prog) (w := w) (base := base) KT I_Keys
  have ckp := ok_kept T KT cik M_Keys_kept
  have cun := ok_under (P := l.prog) (w := w) (base := base) T KT M_Keys_under
  have R4 : Ref44 K mg C_Busy C_NoAsk C_DoorError := ⟨W.mg_of X G aC_DoorError, fun c hc => by rcases hc with rfl | rfl; exact ⟨x_bxm, XQb, x_bk_VE⟩; exact ⟨x_nxm, XQn, x_nk_VE⟩⟩
  have cpa := ok_pairs (P := l.prog) (w := w) (base := base) T D_law_pairs
  have cla := ok_last (P := l.prog) (w := w) (base := base) T D_law_last
  have clk := ok_looked44 T cla D_law_looked
  have cdo := ok_do T cbe cdr cse D_law_do
  have cre := ok_refused T R4 cdo D_law_refused
  have cri := ok_right44 T clk clo ckp cun csa D_law_right
  exact ok_law T KT cp ct ce cna cke cn cpa cde can (cki [] (by simp)) csa clo cla clk cdo cre cri F_law
theorem walk {l : W.OpenLaw} {q : Program} {loose : List Str} {XP : (Str → Option Value) → Heap → Prop} {YP : World → Heap → Prop} {d : DefRec} {K : Params → W.Frag} (hn : l.most = some 63) (hdf : d.params.defaults = [])
    (hY : ∀ (w : World) (h : Heap), YP w h → (K w.params).In h)
    (F : ∀ (w : World) (mg : Str → Option Value) (fa : Addr) (h : Heap), (K w.params).In h → h.Ns mainGlobals mg → mg d.name = some (.ref fa) →
      ∃ fd : FuncData, (∀ (s : Shared) (u : Value), BindsTo s fd ⟨[u], []⟩ [("_law_script", u)]) ∧ ∀ base : Heap, (K w.params).In base → base.Ns mainGlobals mg → FnOk l.prog w (K w.params) mg base CX0 8 fa fd ["_law_script"] (spLaw (K w.params))) :
    W.WalkO q loose XP YP l.row.toRowW d [] (fun f vs => PySem.call f vs) :=
  L2.walk_of (n := 63) (k := 8) (x := "_law_script") (CX := fun _ => CX0) (sp := fun w => spLaw (K w.params)) hn (by decide) hdf ⟨rfl, by decide, by decide⟩ hY F (fun _ _ a ns hl _ hS => ⟨a, ns, rfl, hS, hl, fun _ => rfl⟩) fun _ _ _ _ _ z => z
end KL
def PySem.W.Fast.tw6335116860831654731 : Nat := 0
def PySem.W.Fast.tw7732903111928849165 : Nat := 0
def PySem.W.Fast.tw13521583065746443213 : Nat := 0
def PySem.W.Fast.tw14530381637266211811 : Nat := 0
def PySem.W.Fast.tw9989344125688064328 : Nat := 0
def PySem.W.Fast.tw5148572149676595881 : Nat := 0
def PySem.W.Fast.tw14067263940667188670 : Nat := 0
def PySem.W.Fast.tw372263371200662020 : Nat := 0
open PySem PySem.W PyProof.Rows
set_option maxRecDepth 100000 in
set_option maxHeartbeats 0 in
theorem PySem.Challenge.cw_oncedoor_k44_whole_keys_by_their_log_holds : PySem.Challenge.rw_oncedoor_k44_whole_keys_by_their_log.Holds := by
  w_on; o_law; k_head; (case hw => w_witness2)
  k_fill
  refine KL.walk (l := PySem.Challenge.rw_oncedoor_k44_whole_keys_by_their_log) rfl rfl (fun w h Y => W.kIn_of Y) ?F
  case F =>
    intro w mg fa h KX G hmg
    refine' KL.all_mk KX G hmg ?a_is_alive ?l_is_alive ?c_is_alive ?k_is_alive ?a_law_pen ?l_law_pen ?c_law_pen ?k_law_pen ?a_law_take ?l_law_take ?c_law_take ?k_law_take ?a_law_cell_at ?l_law_cell_at ?c_law_cell_at ?k_law_cell_at ?a_law_names ?l_law_names ?c_law_names ?k_law_names ?a_law_keys ?l_law_keys ?c_law_keys ?k_law_keys ?a_law_number ?l_law_number ?c_law_number ?k_law_number ?a_law_deed ?l_law_deed ?c_law_deed ?k_law_deed ?a_law_answer ?l_law_answer ?c_law_answer ?k_law_answer ?a_law_pairs ?l_law_pairs ?c_law_pairs ?k_law_pairs ?a_law_same ?l_law_same ?c_law_same ?k_law_same ?a_law_last ?l_law_last ?c_law_last ?k_law_last ?a_law_looked ?l_law_looked ?c_law_looked ?k_law_looked ?a_law_do ?l_law_do ?c_law_do ?k_law_do ?a_law_refused ?l_law_refused ?c_law_refused ?k_law_refused ?a_law_right ?l_law_right ?c_law_right ?k_law_right ?a_law ?l_law ?c_law ?k_law ?aC_Keys ?pg_Keys ?hd_Keys ?po_Keys ?sa_Keys ?mk_Keys ?kc_Keys ?n_Keys_life ?n_Keys_begun_ones ?n_Keys_settled_ones ?a_Keys___init__ ?i_Keys___init__ ?l_Keys___init__ ?c_Keys___init__ ?k_Keys___init__ ?a_Keys_look ?i_Keys_look ?l_Keys_look ?c_Keys_look ?k_Keys_look ?a_Keys_begin ?i_Keys_begin ?l_Keys_begin ?c_Keys_begin ?k_Keys_begin ?a_Keys_drop ?i_Keys_drop ?l_Keys_drop ?c_Keys_drop ?k_Keys_drop ?a_Keys_settle ?i_Keys_settle ?l_Keys_settle ?c_Keys_settle ?k_Keys_settle ?a_Keys_end ?i_Keys_end ?l_Keys_end ?c_Keys_end ?k_Keys_end ?a_Keys_kept ?i_Keys_kept ?l_Keys_kept ?c_Keys_kept ?k_Keys_kept ?a_Keys_under ?i_Keys_under ?l_Keys_under ?c_Keys_under ?k_Keys_under ?a_Keys_is_kept ?i_Keys_is_kept ?l_Keys_is_kept ?c_Keys_is_kept ?k_Keys_is_kept ?aC_DoorError ?aC_Busy ?aC_NoAsk ?a_Busy___init__ ?i_Busy___init__ ?l_Busy___init__ ?c_Busy___init__ ?k_Busy___init__ ?x_bga ?x_bgx ?x_bcl ?x_bmo ?x_bmb ?x_bci ?x_bxm ?x_bk_VE ?x_nga ?x_ngx ?x_ncl ?x_nmo ?x_nmb ?x_nci ?x_nxm ?x_nk_VE ?x_gg ?x_tk ?x_nexc ?x_bexc ?x_bsa ?x_bov ?x_btk ?x_bnum ?x_bhd ?z_isinstance ?z_int ?z_bool ?z_all ?z_str ?z_len ?z_tuple ?z_zip ?z_dict ?z_sorted ?z_sum ?z_list ?z_reversed ?z_range ?z_min ?z_max ?z_enumerate ?z_ValueError ?z_set
    (case a_is_alive => k_is)
    (case l_is_alive => k_is)
    (case c_is_alive => k_is)
    (case k_is_alive => k_is)
    (case a_law_pen => k_is)
    (case l_law_pen => k_is)
    (case c_law_pen => k_is)
    (case k_law_pen => k_is)
    (case a_law_take => k_is)
    (case l_law_take => k_is)
    (case c_law_take => k_is)
    (case k_law_take => k_is)
    (case a_law_cell_at => k_is)
    (case l_law_cell_at => k_is)
    (case c_law_cell_at => k_is)
    (case k_law_cell_at => k_is)
    (case a_law_names => k_is)
    (case l_law_names => k_is)
    (case c_law_names => k_is)
    (case k_law_names => k_is)
    (case a_law_keys => k_is)
    (case l_law_keys => k_is)
    (case c_law_keys => k_is)
    (case k_law_keys => k_is)
    (case a_law_number => k_is)
    (case l_law_number => k_is)
    (case c_law_number => k_is)
    (case k_law_number => k_is)
    (case a_law_deed => k_is)
    (case l_law_deed => k_is)
    (case c_law_deed => k_is)
    (case k_law_deed => k_is)
    (case a_law_answer => k_is)
    (case l_law_answer => k_is)
    (case c_law_answer => k_is)
    (case k_law_answer => k_is)
    (case a_law_pairs => k_is)
    (case l_law_pairs => k_is)
    (case c_law_pairs => k_is)
    (case k_law_pairs => k_is)
    (case a_law_same => k_is)
    (case l_law_same => k_is)
    (case c_law_same => k_is)
    (case k_law_same => k_is)
    (case a_law_last => k_is)
    (case l_law_last => k_is)
    (case c_law_last => k_is)
    (case k_law_last => k_is)
    (case a_law_looked => k_is)
    (case l_law_looked => k_is)
    (case c_law_looked => k_is)
    (case k_law_looked => k_is)
    (case a_law_do => k_is)
    (case l_law_do => k_is)
    (case c_law_do => k_is)
    (case k_law_do => k_is)
    (case a_law_refused => k_is)
    (case l_law_refused => k_is)
    (case c_law_refused => k_is)
    (case k_law_refused => k_is)
    (case a_law_right => k_is)
    (case l_law_right => k_is)
    (case c_law_right => k_is)
    (case k_law_right => k_is)
    (case a_law => k_is)
    (case l_law => k_is)
    (case c_law => k_is)
    (case k_law => k_is)
    (case aC_Keys => k_is)
    (case pg_Keys => k_is)
    (case hd_Keys => k_is)
    (case po_Keys => k_is)
    (case sa_Keys => k_is)
    (case mk_Keys => k_is)
    (case kc_Keys => k_is)
    (case n_Keys_life => k_is)
    (case n_Keys_begun_ones => k_is)
    (case n_Keys_settled_ones => k_is)
    (case a_Keys___init__ => k_is)
    (case i_Keys___init__ => k_is)
    (case l_Keys___init__ => k_is)
    (case c_Keys___init__ => k_is)
    (case k_Keys___init__ => k_is)
    (case a_Keys_look => k_is)
    (case i_Keys_look => k_is)
    (case l_Keys_look => k_is)
    (case c_Keys_look => k_is)
    (case k_Keys_look => k_is)
    (case a_Keys_begin => k_is)
    (case i_Keys_begin => k_is)
    (case l_Keys_begin => k_is)
    (case c_Keys_begin => k_is)
    (case k_Keys_begin => k_is)
    (case a_Keys_drop => k_is)
    (case i_Keys_drop => k_is)
    (case l_Keys_drop => k_is)
    (case c_Keys_drop => k_is)
    (case k_Keys_drop => k_is)
    (case a_Keys_settle => k_is)
    (case i_Keys_settle => k_is)
    (case l_Keys_settle => k_is)
    (case c_Keys_settle => k_is)
    (case k_Keys_settle => k_is)
    (case a_Keys_end => k_is)
    (case i_Keys_end => k_is)
    (case l_Keys_end => k_is)
    (case c_Keys_end => k_is)
    (case k_Keys_end => k_is)
    (case a_Keys_kept => k_is)
    (case i_Keys_kept => k_is)
    (case l_Keys_kept => k_is)
    (case c_Keys_kept => k_is)
    (case k_Keys_kept => k_is)
    (case a_Keys_under => k_is)
    (case i_Keys_under => k_is)
    (case l_Keys_under => k_is)
    (case c_Keys_under => k_is)
    (case k_Keys_under => k_is)
    (case a_Keys_is_kept => k_is)
    (case i_Keys_is_kept => k_is)
    (case l_Keys_is_kept => k_is)
    (case c_Keys_is_kept => k_is)
    (case k_Keys_is_kept => k_is)
    (case aC_DoorError => k_is)
    (case aC_Busy => k_is)
    (case aC_NoAsk => k_is)
    (case a_Busy___init__ => k_is)
    (case i_Busy___init__ => k_is)
    (case l_Busy___init__ => k_is)
    (case c_Busy___init__ => k_is)
    (case k_Busy___init__ => k_is)
    (case x_bga => k_is)
    (case x_bgx => k_is)
    (case x_bcl => k_is)
    (case x_bmo => k_is)
    (case x_bmb => k_is)
    (case x_bci => k_is)
    (case x_bxm => kts_exm)
    (case x_bk_VE => kit_is)
    (case x_nga => k_is)
    (case x_ngx => k_is)
    (case x_ncl => k_is)
    (case x_nmo => k_is)
    (case x_nmb => k_is)
    (case x_nci => k_is)
    (case x_nxm => kts_exm)
    (case x_nk_VE => kit_is)
    (case x_gg => k_is)
    (case x_tk => k_is)
    (case x_nexc => k_exc)
    (case x_bexc => kernel_rfl)
    (case x_bsa => k_is)
    (case x_bov => kernel_rfl)
    (case x_btk => kernel_rfl)
    (case x_bnum => k_is)
    (case x_bhd => k_is)
    (case z_isinstance => k_is)
    (case z_int => k_is)
    (case z_bool => k_is)
    (case z_all => k_is)
    (case z_str => k_is)
    (case z_len => k_is)
    (case z_tuple => k_is)
    (case z_zip => k_is)
    (case z_dict => k_is)
    (case z_sorted => k_is)
    (case z_sum => k_is)
    (case z_list => k_is)
    (case z_reversed => k_is)
    (case z_range => k_is)
    (case z_min => k_is)
    (case z_max => k_is)
    (case z_enumerate => k_is)
    (case z_ValueError => k_is)
    (case z_set => k_is)
