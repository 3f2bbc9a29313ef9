import PyProof.Rows.All
import Wide.All
import OpenK.AllK
import Wide.FinOn
import Lean
import PyProof.EqAt
import PyProof.EqKinds
import PyProof.TupleCall
import KE.KSortTup
import KE.KDictSum
import KE.KDictOf
import PyProof.AttrMissHeap
import OpenK.KRaise
import KE.KIsAll
import KE.KTryMore
import KE.RegKIsAll
import KE.RegKTryMore
import PyProof.NsDelKeeps
import PyProof.ExcArgs
import PyProof.FitsReplace
import PyProof.Rows.StrJoin2
import PySem.Challenge.RW_oncedoor_k69_keys_of_places
set_option Elab.async false
set_option linter.all false
set_option maxRecDepth 100000
set_option maxHeartbeats 4000000
def Zlm := @List.length_map
def Zpu := @PySem.Heap.get?_push_of_some
def Zgs := @List.getElem?_eq_some_iff
def Zge := @List.getElem?_eq_getElem
def Zmc := @List.mem_cons_of_mem
def Zmm := @List.mem_map
def Zap := @List.map_append
def Zla := @List.length_append
def Zgm := @List.getElem?_map
def Znt := @Nat.le_trans
def Zcs := @List.mem_cons_self
def Zst := @List.size_toArray
def Zlk := @List.length_take
def Ztl := @List.take_of_length_le
def Zma := @List.mem_append
def Zms := @List.mem_singleton
def Zlc := @List.length_cons
def Znl := @Nat.lt_of_le_of_lt
def Znr := @Nat.le_refl
def Zmg := @List.mem_of_getElem?
namespace L2
open PySem PySem.Spec PyProof.Rows
abbrev Key := Sum Int Str
def keyIs : Key -> Value -> Bool
  | .inl k, v => Value.isInt k v
  | .inr x, v => Value.isStrOf x v
def keyH (w : World) : Key -> Int
  | .inl k => hashInt k
  | .inr x => hashStr w x
theorem keyIs_shape : ∀ {k : Key} {v : Value}, keyIs k v = true -> (∃ i t, k = Sum.inl i /\ v = Value.int i t) ∨ (∃ x t, k = Sum.inr x /\ v = Value.str x t)
  | .inl i, v, h => by
    obtain ⟨t, e⟩ := Value.isInt_shape (k := i) (v := v) h
    exact .inl ⟨i, t, rfl, e⟩
  | .inr x, v, h => by
    obtain ⟨t, e⟩ := Value.isStrOf_shape (x := x) (v := v) h
    exact .inr ⟨x, t, rfl, e⟩
theorem keyIs_int (i : Int) (t : Tok) : keyIs (.inl i) (.int i t) = true := by simp [keyIs, Value.isInt]
theorem keyIs_str (x : Str) (t : Tok) : keyIs (.inr x) (.str x t) = true := by simp [keyIs, Value.isStrOf]
theorem key_ll (a b : Int) : decide ((Sum.inl a : Key) = Sum.inl b) = (a == b) := by
  by_cases e : a = b
  . subst e; simp
  . have h : ¬ (Sum.inl a : Key) = Sum.inl b := fun q => e (Sum.inl.inj q)
    rw [decide_eq_false h]; exact (beq_eq_false_iff_ne.mpr e).symm
theorem key_rr (a b : Str) : decide ((Sum.inr a : Key) = Sum.inr b) = decide (a = b) := by
  by_cases e : a = b
  . subst e; simp
  . have h : ¬ (Sum.inr a : Key) = Sum.inr b := fun q => e (Sum.inr.inj q)
    rw [decide_eq_false h, decide_eq_false e]
theorem key_lr (a : Int) (b : Str) : decide ((Sum.inl a : Key) = Sum.inr b) = false := decide_eq_false (fun q => nomatch q)
theorem key_rl (a : Str) (b : Int) : decide ((Sum.inr a : Key) = Sum.inl b) = false := decide_eq_false (fun q => nomatch q)
def mixKind (prog : Program) (w : World) : PySem.KeyKind prog w Key where
  is := keyIs
  hash := keyH w
  inj := fun v a b ha hb => by
    rcases keyIs_shape ha with ⟨i, t, rfl, rfl⟩ | ⟨x, t, rfl, rfl⟩
    . rcases keyIs_shape hb with ⟨j, u, rfl, e⟩ | ⟨y, u, rfl, e⟩
      . injection e with e1 _; rw [e1]
      . exact nomatch e
    . rcases keyIs_shape hb with ⟨j, u, rfl, e⟩ | ⟨y, u, rfl, e⟩
      . exact nomatch e
      . injection e with e1 _; rw [e1]
  byValue := fun k v h => by
    rcases keyIs_shape h with ⟨i, t, rfl, rfl⟩ | ⟨x, t, rfl, rfl⟩ <;> rfl
  pyHash := fun hv h => by
    rcases keyIs_shape hv with ⟨i, t, rfl, rfl⟩ | ⟨x, t, rfl, rfl⟩
    . exact wpAny_pyHash_int h
    . exact wpAny_pyHash_str h
  eqBool := fun hu hv h => by
    rcases keyIs_shape hu with ⟨i, t, rfl, rfl⟩ | ⟨x, t, rfl, rfl⟩
    . rcases keyIs_shape hv with ⟨j, u, rfl, rfl⟩ | ⟨y, u, rfl, rfl⟩
      . rw [key_ll] at h; exact wpAny_eqBool_int h
      . rw [key_lr] at h; exact SeqAt.EqAt.int_str i t y u _ _ _ _ h
    . rcases keyIs_shape hv with ⟨j, u, rfl, rfl⟩ | ⟨y, u, rfl, rfl⟩
      . rw [key_rl] at h; exact SeqAt.EqAt.str_int x t j u _ _ _ _ h
      . rw [key_rr] at h; exact wpAny_eqBool_str h
  «strs» := fun k x t v h => by
    rcases keyIs_shape h with ⟨i, u, rfl, e⟩ | ⟨y, u, rfl, e⟩
    . exact nomatch e
    . injection e with e1 _
      subst e1; cases v <;> rfl
theorem mixKind_int (prog : Program) (w : World) (i : Int) (t : Tok) : (mixKind prog w).is (.inl i) (.int i t) = true := keyIs_int i t
theorem mixKind_str (prog : Program) (w : World) (x : Str) (t : Tok) : (mixKind prog w).is (.inr x) (.str x t) = true := keyIs_str x t
end L2
namespace L2
open PySem PySem.Spec PyProof.Rows
inductive V where
  | non | bl (b : Bool) | int (i : Int) | str (x : Str) | byt (b : Array UInt8) | flt (b : UInt64) | ref (a : Addr) | ty (n : String)
  deriving DecidableEq
def RelV : V -> Value -> Prop
  | .non, u => u = Value.none
  | .bl b, u => u = Value.bool b
  | .int i, u => ∃ t, u = Value.int i t
  | .str x, u => ∃ t, u = Value.str x t
  | .byt b, u => ∃ t, u = Value.bytes b t
  | .flt b, u => ∃ t, u = Value.float b t
  | .ref a, u => u = Value.ref a
  | .ty n, u => u = Value.type n
abbrev Vals : List V -> List Value -> Prop := Paired RelV
theorem Vals.length {xs : List V} {us : List Value} (r : Vals xs us) : xs.length = us.length := Paired.length r
theorem Vals.get : ∀ {xs : List V} {us : List Value} {i : Nat} {x : V}, Vals xs us -> xs[i]? = some x -> ∃ u, us[i]? = some u /\ RelV x u
  | _, _, _, _, .nil, e => by simp at e
  | _, _, 0, _, .cons r _, e => by simp at e; subst e; exact ⟨_, rfl, r⟩
  | _, _, i + 1, x, .cons _ t, e => by
    obtain ⟨u, h1, h2⟩ := Vals.get (i := i) (x := x) t (by simpa using e)
    exact ⟨u, by simpa using h1, h2⟩
theorem Vals.set {x : V} {u : Value} (r : RelV x u) : ∀ {xs : List V} {us : List Value} (i : Nat), Vals xs us -> Vals (xs.set i x) (us.set i u)
  | _, _, _, .nil => .nil
  | _, _, 0, .cons _ t => .cons r t
  | _, _, i + 1, .cons q t => .cons q (Vals.set r i t)
theorem Vals.append : ∀ {xs ys : List V} {us ws : List Value}, Vals xs us -> Vals ys ws -> Vals (xs ++ ys) (us ++ ws)
  | _, _, _, _, .nil, s => s
  | _, _, _, _, .cons r t, s => .cons r (Vals.append t s)
theorem Vals.take : ∀ {xs : List V} {us : List Value} (n : Nat), Vals xs us -> Vals (xs.take n) (us.take n)
  | _, _, 0, _ => .nil
  | _, _, _ + 1, .nil => .nil
  | _, _, n + 1, .cons r t => .cons r (Vals.take n t)
theorem Vals.drop : ∀ {xs : List V} {us : List Value} (n : Nat), Vals xs us -> Vals (xs.drop n) (us.drop n)
  | _, _, 0, r => r
  | _, _, _ + 1, .nil => .nil
  | _, _, n + 1, .cons _ t => Vals.drop n t
def RelO : Option V -> Option Value -> Prop
  | some v, some u => RelV v u
  | none, none => True
  | _, _ => False
def KV {κ : Type} : List (κ × V) -> List (κ × Value) -> Prop := Paired fun (p : κ × V) (q : κ × Value) => p.1 = q.1 /\ RelV p.2 q.2
def kV : Key -> V
  | .inl i => .int i
  | .inr x => .str x
inductive HO where
  /-- a list -/
  | lst (xs : List V)
  /-- a tuple (never changes) -/
  | tup (xs : List V)
  /-- a dict whose keys are ints and texts; one whose keys are tuples of ints and texts (the empty one is both) -/
  | dK (kvs : List (Key × V)) | dT (kvs : List (List Key × V))
  /-- a set of ints: its members, its size -/
  | set (S : Int -> Bool) (n : Nat)
  /-- an instance of the class at C, its dict at dx, its attributes -/
  | ins (C dx : Addr) (fs : List (Str × V))
  /-- the dict of the instance at x -/
  | own (x : Addr)
  /-- the dict of an exception -/
  | xd (fs : List (Str × V))
  /-- a bound method, f of x -/
  | met (f x : Addr)
  /-- a range object lo, lo + 1, .. below hi -/
  | rng (lo hi : Int)
  /-- a thing that is known to the object (the script; a dict while a loop walks it): read, never written while it is so -/
  | frz (o : Obj) (u : HO)
  /-- a code object's table -/
  | tbl (ps : Array Value)
  /-- any other thing, by what is true of its one object (a def of one's own: SetO a S n := HO.ext fun h => ..) -/
  | ext (φ : Heap -> Prop)
abbrev Hp := Addr -> Option HO
def upd (H : Hp) (a : Addr) (o : HO) : Hp := fun b => if b = a then some o else H b
theorem upd_same {H : Hp} {a : Addr} {o : HO} : upd H a o a = some o := by unfold upd; rw [if_pos rfl]
theorem upd_ne {H : Hp} {a b : Addr} {o : HO} (h : b ≠ a) : upd H a o b = H b := by unfold upd; rw [if_neg h]
theorem ne_of {H : Hp} {a b : Addr} {o u : HO} (h : H a = some o) (h' : H b = some u) (d : o ≠ u) : a ≠ b := by
  intro e; subst e; rw [h] at h'; exact d (Option.some.inj h')
theorem ne_of_none {H : Hp} {a b : Addr} {o : HO} (h : H a = some o) (h' : H b = none) : a ≠ b := by
  intro e; subst e; rw [h] at h'; cases h'
section
variable (P : Program) (w : World)
def ObjOk (H : Hp) (h : Heap) (a : Addr) : HO -> Prop
  | .lst xs => xs.length <= sizeLine /\ ∃ (its : List Value) (n : Nat), Vals xs its /\ h.get? a = some { cls := .type "list", data := .seq its.toArray n }
  | .tup xs => xs.length <= sizeLine /\ ∃ its : List Value, Vals xs its /\ IsTup h a its.toArray
  | .dK kvs => kvs.length <= sizeLine /\ (a == sysModules) = false /\ ∃ vs, KV kvs vs /\ h.DictOf (mixKind P w) a vs
  | .dT kvs => kvs.length <= sizeLine /\ (a == sysModules) = false /\ ∃ xs : List (List Key × Addr × Value),
      Paired (fun (p : List Key × V) (q : List Key × Addr × Value) => p.1 = q.1 /\ H q.2.1 = some (.tup (p.1.map kV)) /\ RelV p.2 q.2.2) kvs xs ∧
      ∃ o es ep, h.get? a = some o /\ o.ExactDict /\ o.data = .dict es ep /\ es.toList = xs.map (entryOfKey (tupleKind (mixKind P w))) /\ (xs.map (·.1)).Nodup
  | .set S n => h.SetOf (intKind P w) a S n
  | .ins C dx fs => H dx = some (.own a) /\ fs.length <= 1000 /\ dx ≠ a /\ h.get? a = some (W.instObj C dx) ∧
      ∃ mA, h.Ns1 dx mA /\ (∀ f, RelO (fs.lookup f) (mA f)) /\ PySem.Within mA (fs.map (·.1))
  | .own _ => ∃ o, h.get? a = some o
  | .xd fs => ∃ mA, h.Ns1 a mA /\ ∀ f, RelO (fs.lookup f) (mA f)
  | .rng lo hi => ∃ t u v, h.get? a = some { cls := .type "range", data := .fields #[.int lo t, .int hi u, .int 1 v] }
  | .frz o u => h.get? a = some o /\ ObjOk H h a u
  | .tbl ps => h.get? a = some { cls := .none, data := .fields ps }
  | .met f x => h.get? a = some (W.methodObj (.ref f) (.ref x))
  | .ext φ => φ h /\ (∃ o, h.get? a = some o) /\ ∀ h1 h2 : Heap, φ h1 -> (∀ o, h1.get? a = some o -> h2.get? a = some o) -> φ h2
def HOk (H : Hp) (h : Heap) : Prop := ∀ a o, H a = some o -> ObjOk P w H h a o
end
section
variable {P : Program} {w : World} {H H' : Hp} {h h' : Heap} {a : Addr} {o : HO}
theorem ObjOk.lt (x : ObjOk P w H h a o) : a < h.objs.size := by
  cases o with
  | lst xs => obtain ⟨_, _, _, _, e⟩ := x; exact Heap.lt_size e
  | tup xs => obtain ⟨_, _, _, p⟩ := x; exact p.lt
  | dK kvs => obtain ⟨_, _, _, _, o, _, _, e, _⟩ := x; exact Heap.lt_size e
  | dT kvs => obtain ⟨_, _, _, _, o, _, _, e, _⟩ := x; exact Heap.lt_size e
  | set S n => obtain ⟨o, _, _, _, e, _⟩ := x; exact Heap.lt_size e
  | ins C dx fs => obtain ⟨_, _, _, e, _⟩ := x; exact Heap.lt_size e
  | own y => obtain ⟨_, e⟩ := x; exact Heap.lt_size e
  | xd fs => obtain ⟨_, ⟨_, _, _, e, _⟩, _⟩ := x; exact Heap.lt_size e
  | rng lo hi => obtain ⟨_, _, _, e⟩ := x; exact Heap.lt_size e
  | frz ob u => obtain ⟨e, _⟩ := x; exact Heap.lt_size e
  | tbl ps => exact Heap.lt_size (show h.get? a = some _ from x)
  | met f y => exact Heap.lt_size (show h.get? a = some _ from x)
  | ext φ => obtain ⟨_, ⟨_, e⟩, _⟩ := x; exact Heap.lt_size e
theorem Paired.mapP {α β : Type} {F G : α -> β -> Prop} : ∀ {l₁ : List α} {l₂ : List β}, Paired F l₁ l₂ -> (∀ a b, F a b -> G a b) -> Paired G l₁ l₂
  | _, _, .nil, _ => .nil
  | _, _, .cons r t, f => .cons (f _ _ r) (Paired.mapP t f)
theorem ObjOk.stay (x : ObjOk P w H h a o) (k : ∀ b u, (b = a ∨ H b = some (.own a)) -> h.get? b = some u -> h'.get? b = some u)
    (ho : ∀ b, H b = some (.own a) -> H' b = some (.own a)) (ht : ∀ b xs, H b = some (.tup xs) -> H' b = some (.tup xs)) : ObjOk P w H' h' a o := by
  induction o with
  | lst xs => obtain ⟨z, its, n, r, e⟩ := x; exact ⟨z, its, n, r, k _ _ (.inl rfl) e⟩
  | tup xs => obtain ⟨z, its, r, ob, e, c⟩ := x; exact ⟨z, its, r, ob, k _ _ (.inl rfl) e, c⟩
  | dK kvs => obtain ⟨z, y, vs, r, ob, es, ep, e, c⟩ := x; exact ⟨z, y, vs, r, ob, es, ep, k _ _ (.inl rfl) e, c⟩
  | dT kvs =>
    obtain ⟨z, y, xs, r, ob, es, ep, e, c⟩ := x
    exact ⟨z, y, xs, Paired.mapP r fun p q z => ⟨z.1, ht _ _ z.2.1, z.2.2⟩, ob, es, ep, k _ _ (.inl rfl) e, c⟩
  | set S n => obtain ⟨ob, es, ep, t, e, c⟩ := x; exact ⟨ob, es, ep, t, k _ _ (.inl rfl) e, c⟩
  | ins C dx fs =>
    obtain ⟨d, z, ne, e, mA, ⟨od, es, ep, e2, c⟩, r⟩ := x
    exact ⟨ho _ d, z, ne, k _ _ (.inl rfl) e, mA, ⟨od, es, ep, k _ _ (.inr d) e2, c⟩, r⟩
  | own y => obtain ⟨ob, e⟩ := x; exact ⟨ob, k _ _ (.inl rfl) e⟩
  | xd fs => obtain ⟨mA, ⟨od, es, ep, e, c⟩, r⟩ := x; exact ⟨mA, ⟨od, es, ep, k _ _ (.inl rfl) e, c⟩, r⟩
  | rng lo hi => obtain ⟨t, u, v, e⟩ := x; exact ⟨t, u, v, k _ _ (.inl rfl) e⟩
  | frz ob u ih => obtain ⟨e, q⟩ := x; exact ⟨k _ _ (.inl rfl) e, ih q⟩
  | tbl ps =>
    have e : h.get? a = some { cls := .none, data := .fields ps } := x
    show h'.get? a = some { cls := .none, data := .fields ps }
    exact k a _ (.inl rfl) e
  | met f y =>
    have e : h.get? a = some (W.methodObj (.ref f) (.ref y)) := x
    show h'.get? a = some (W.methodObj (.ref f) (.ref y))
    exact k a _ (.inl rfl) e
  | ext φ => obtain ⟨p, ⟨o, e⟩, st⟩ := x; exact ⟨st _ _ p fun o q => k _ _ (.inl rfl) q, ⟨o, k _ _ (.inl rfl) e⟩, st⟩
theorem HOk.lt (x : HOk P w H h) (e : H a = some o) : a < h.objs.size := (x a o e).lt
theorem HOk.fresh (x : HOk P w H h) (e : h.objs.size <= a) : H a = none := by
  cases q : H a with
  | none => rfl
  | some u => exact absurd (Nat.lt_of_lt_of_le (x.lt q) e) (Nat.lt_irrefl _)
theorem HOk.kept (x : HOk P w H h) (k : ∀ b u, h.get? b = some u -> h'.get? b = some u) : HOk P w H h' := fun a o e =>
  (x a o e).stay (fun b u _ q => k b u q) (fun _ q => q) fun _ _ q => q
theorem HOk.laid (x : HOk P w H h) (k : ∀ b u, h.get? b = some u -> h'.get? b = some u) (hp : h.objs.size <= a) (new : ObjOk P w (upd H a o) h' a o) : HOk P w (upd H a o) h' := fun b u e => by
  have hn := x.fresh hp
  by_cases hb : b = a
  . subst hb; rw [upd_same] at e; cases e; exact new
  . rw [upd_ne hb] at e; exact (x b u e).stay (fun c v _ q => k c v q) (fun c q => by rw [upd_ne (ne_of_none q hn)]; exact q) fun c xs q => by rw [upd_ne (ne_of_none q hn)]; exact q
end
def Rd (H : Hp) (a : Addr) (u : HO) : Prop := H a = some u ∨ ∃ o, H a = some (.frz o u)
theorem Rd.ok {P : Program} {w : World} {H : Hp} {h : Heap} {a : Addr} {u : HO} (r : Rd H a u) (x : HOk P w H h) : ObjOk P w H h a u := by
  rcases r with r | ⟨o, r⟩
  . exact x a u r
  . obtain ⟨_, q⟩ := x a _ r
    exact q
def Mut : Option HO -> Prop
  | some (.lst _) => True
  | some (.dK _) => True
  | some (.dT _) => True
  | some (.set _ _) => True
  | some (.ins _ _ _) => True
  | some (.ext _) => True
  | _ => False
section
variable {P : Program} {w : World} {H : Hp} {h h' : Heap} {x e : Addr} {o' : HO}
theorem HOk.write (ok : HOk P w H h) (mu : Mut (H x)) (he : e = x ∨ H e = some (.own x)) (k : ∀ b u, b ≠ e -> h.get? b = some u -> h'.get? b = some u) (heo : ∃ u, h'.get? e = some u)
    (new : ObjOk P w (upd H x o') h' x o') : HOk P w (upd H x o') h' := fun b u q => by
  have nown : ∀ c y, H c = some (.own y) -> c ≠ x := fun c y r z => by subst z; rw [r] at mu; exact mu
  have ntup : ∀ c xs, H c = some (.tup xs) -> c ≠ x := fun c xs r z => by subst z; rw [r] at mu; exact mu
  by_cases hb : b = x
  . subst hb; rw [upd_same] at q; cases q; exact new
  . rw [upd_ne hb] at q; by_cases hbe : b = e
    . have q' : H b = some (.own x) := by
        rcases he with z | z
        . exact absurd (hbe.trans z) hb
        . rw [hbe]; exact z
      rw [q] at q'; cases q'
      obtain ⟨v, hv⟩ := heo
      exact ⟨v, by rw [hbe]; exact hv⟩
    . refine (ok b u q).stay (fun c v hc r => k c v ?_ r) (fun c r => by rw [upd_ne (nown c b r)]; exact r) fun c xs r => by rw [upd_ne (ntup c xs r)]; exact r
      rcases hc with rfl | hc
      . exact hbe
      . rintro rfl
        rcases he with z | z
        . exact nown c b hc z
        . rw [hc] at z; cases z; exact hb rfl
end
structure Un (fs ex : List Addr) (H H' : Hp) (h h' : Heap) : Prop where
  keep : ∀ b o, h.get? b = some o -> H b = none -> b ∉ fs -> b ∉ ex -> h'.get? b = some o
  slot : ∀ b o, h.get? b = some o -> H b = none -> b ∈ fs -> b ∉ ex -> ∃ sl, h'.get? b = some { o with slots := sl }
  free : ∀ b o, h.get? b = some o -> H b = none -> b ∉ ex -> H' b = none
  there : ∀ b o, h.get? b = some o -> b ∉ ex -> ∃ o', h'.get? b = some o'
  tups : ∀ b xs, H b = some (.tup xs) -> H' b = some (.tup xs)
  frzs : ∀ b o u, H b = some (.frz o u) -> H' b = some (.frz o u)
  tbls : ∀ b ps, H b = some (.tbl ps) -> ∃ more, H' b = some (.tbl (ps ++ more))
section
variable {fs fs' ex ex' : List Addr} {H H1 H2 : Hp} {h h1 h2 h' : Heap} {a x e : Addr} {o : HO}
theorem Un.any (u : Un fs ex H H1 h h1) {b : Addr} {ob : Obj} (q : h.get? b = some ob) (n : H b = none) (hx : b ∉ ex) : ∃ sl, h1.get? b = some { ob with slots := sl } := by
  by_cases hb : b ∈ fs
  . exact u.slot b ob q n hb hx
  . exact ⟨ob.slots, u.keep b ob q n hb hx⟩
theorem Un.kept (k : ∀ b u, h.get? b = some u -> h'.get? b = some u) : Un fs ex H H h h' :=
  ⟨fun b ob q _ _ _ => k b ob q, fun b ob q _ _ _ => ⟨ob.slots, k b ob q⟩, fun _ _ _ n _ => n, fun b ob q _ => ⟨ob, k b ob q⟩, fun _ _ q => q, fun _ _ _ q => q, fun _ ps q => ⟨#[], by rw [q]; simp⟩⟩
theorem Un.refl : Un fs ex H H h h := Un.kept fun _ _ q => q
theorem Un.laid (k : ∀ b u, h.get? b = some u -> h'.get? b = some u) (hp : h.objs.size <= a) (hn : H a = none) : Un fs ex H (upd H a o) h h' where
  keep := fun b u q _ _ _ => k b u q
  slot := fun b u q _ _ _ => ⟨u.slots, k b u q⟩
  free := fun b u q n _ => by rw [upd_ne (Nat.ne_of_lt (Nat.lt_of_lt_of_le (Heap.lt_size q) hp))]; exact n
  there := fun b u q _ => ⟨u, k b u q⟩
  tups := fun b xs q => by rw [upd_ne (ne_of_none q hn)]; exact q
  frzs := fun b u xs q => by rw [upd_ne (ne_of_none q hn)]; exact q
  tbls := fun b ps q => ⟨#[], by rw [upd_ne (ne_of_none q hn), q]; simp⟩
theorem Un.write (mu : Mut (H x)) (he : e = x ∨ H e = some (.own x)) (k : ∀ b u, b ≠ e -> h.get? b = some u -> h'.get? b = some u) (heo : ∃ u, h'.get? e = some u) : Un fs ex H (upd H x o) h h' := by
  have hx : ∀ b, H b = none -> b ≠ x := fun b n z => by subst z; rw [n] at mu; exact mu
  have hb : ∀ b, H b = none -> b ≠ e := fun b n z => by
    subst z; rcases he with r | r
    . exact hx b n r
    . rw [n] at r; cases r
  have hm : ∀ b u, H b = some u -> ¬ Mut (some u) -> b ≠ x := fun b u q nm z => by subst z; rw [q] at mu; exact nm mu
  refine ⟨fun b u q n _ _ => k b u (hb b n) q, fun b u q n _ _ => ⟨u.slots, k b u (hb b n) q⟩, fun b u q n _ => by rw [upd_ne (hx b n)]; exact n, fun b u q _ => ?_,
    fun b xs q => by rw [upd_ne (hm b _ q fun z => z)]; exact q, fun b u xs q => by rw [upd_ne (hm b _ q fun z => z)]; exact q, fun b ps q => ⟨#[], by rw [upd_ne (hm b _ q fun z => z), q]; simp⟩⟩
  by_cases hbe : b = e
  . subst hbe; exact heo
  . exact ⟨u, k b u hbe q⟩
end
def trk (h : Heap) (H : Hp) : List Addr := (List.range h.objs.size).filter fun a => (H a).isSome
def hidT (h : Heap) (H : Hp) : Heap := W.hideAll h (trk h H)
theorem hidT_size (h : Heap) (H : Hp) : (hidT h H).objs.size = h.objs.size := W.hideAll_size _ _
theorem hidT_get {h : Heap} {H : Hp} {b : Addr} {o : Obj} (e : h.get? b = some o) (n : H b = none) : (hidT h H).get? b = some o :=
  W.hideAll_get _ e fun hm => by
    have q : (H b).isSome = true := (List.mem_filter.mp hm).2
    rw [n] at q; simp at q
theorem of_hidT {h : Heap} {H : Hp} {b : Addr} {o : Obj} (e : (hidT h H).get? b = some o) : h.get? b = some o /\ H b = none := by
  have e' : h.get? b = some o := W.of_hideAll (trk h H) e
  refine ⟨e', ?_⟩
  cases q : H b with
  | none => rfl
  | some x =>
    have hm : b ∈ trk h H := List.mem_filter.mpr ⟨List.mem_range.mpr (Heap.lt_size e'), by simp [q]⟩
    have z : (hidT h H).get? b = none := W.hideAll_none (trk h H) hm
    rw [z] at e; cases e
end L2
namespace L2
open PySem PySem.Spec PyProof.Rows
structure Mod (K : W.Frag) (mg : Str -> Option Value) (base : Heap) : Prop where
  kin : K.In base
  glob : base.Ns mainGlobals mg
  blt : ∃ mb, base.Ns builtinsNs mb /\ ∀ x : Str, x ≠ "__name__" -> mb x = bootBuiltins x
  nolimit : base.NoLimit
structure Cx where
  prog : Program
  w : World
  K : W.Frag
  mg : Str -> Option Value
  base : Heap
  A : Around
  N : List Str
  s₀ : Shared
  H₀ : Hp
  env : Env
  outer : List Env
  stack : List Env
  ex : List Addr
  fn : Str -> Bool
  calm : Bool
  pn : List (Addr × Obj)
  xe : Value -> Shared -> Prop
def frs (l : List Env) : List Addr := l.filterMap (·.frame)
abbrev Cx.fs (X : Cx) : List Addr := frs X.outer
def Vis (sc : Scope) (x : Str) : Prop := sc.names.lookup x = some .local ∨ sc.names.lookup x = some .cell ∨ sc.names.lookup x = some .free
def Loc (sc : Scope) (x : Str) : Prop := sc.names.lookup x = some .local ∨ sc.names.lookup x = some .cell
def Look (env : Env) (h : Heap) (m : Str -> Option Value) (x : Str) (u : Value) : Prop :=
  (env.kindOf x = some .local /\ m x = some u) ∨ ((env.kindOf x = some .cell ∨ env.kindOf x = some .free) /\ ∃ c, env.cells.lookup x = some c /\ h.IsCell c (some u))
structure Cx.Ok (X : Cx) : Prop where
  mod : Mod X.K X.mg X.base
  kind : X.env.scope.kind = .function
  glob : X.env.globals = mainGlobals
  blt : X.env.builtins = builtinsNs
  above : X.s₀.heap.objs.size <= X.env.locals
  inj : ∀ x y c, X.env.cells.lookup x = some c -> X.env.cells.lookup y = some c -> x = y
  has : ∀ x, (X.env.kindOf x = some .cell ∨ X.env.kindOf x = some .free) -> ∃ c, X.env.cells.lookup x = some c
  cab : ∀ x c, X.fn x = true -> X.env.cells.lookup x = some c -> X.s₀.heap.objs.size <= c
  hd : X.calm = true -> X.A.handled = none
  frames : X.A.frames = some X.stack
  stk : X.stack = X.outer ∨ (X.stack = X.env :: X.outer /\ X.env.frame = some X.env.locals)
  exf : ∀ b ∈ X.ex, b ≠ X.env.locals /\ ∀ x c, X.env.cells.lookup x = some c -> c ≠ b
  bs : ∀ b o, X.base.get? b = some o -> X.s₀.heap.get? b = some o /\ X.H₀ b = none
  bsz : X.base.objs.size <= X.s₀.heap.objs.size
  noex : ∀ b o, X.base.get? b = some o -> b ∉ X.ex
  exfs : ∀ b ∈ X.ex, b ∉ X.fs
  funs : X.s₀.heap.FunFrames X.base X.outer
  frf : ∀ b ∈ X.fs, X.H₀ b = none
structure Inv (X : Cx) (pins : List (Addr × Obj)) (σ : List (Option V)) (H : Hp) (s : Shared) : Prop where
  ok : X.Ok
  os : s.os = X.s₀.os
  bare : AllBare s.gens
  base : Un X.fs X.ex X.H₀ H X.s₀.heap s.heap
  loc : ∃ m, s.heap.Ns X.env.locals m /\ ∀ (i : Nat) (x : Str) (v : V), X.N[i]? = some x -> σ[i]? = some (some v) -> Vis X.env.scope x -> ∃ u, RelV v u /\ Look X.env s.heap m x u
  cell : ∀ x c, X.env.cells.lookup x = some c -> ∃ v, s.heap.IsCell c v
  free : H X.env.locals = none
  freeC : ∀ x c, X.env.cells.lookup x = some c -> H c = none
  pin : ∀ p ∈ X.pn ++ pins, s.heap.get? p.1 = some p.2 /\ H p.1 = none /\ p.1 ≠ X.env.locals /\ p.1 ∉ X.fs /\ ∀ v, p.2.data ≠ .cell v
  hok : HOk X.prog X.w H s.heap
  len : σ.length = X.N.length
section
variable {X : Cx} {pins : List (Addr × Obj)} {σ : List (Option V)} {H H' : Hp} {s : Shared} {h' : Heap}
theorem Cx.Ok.nofr (ok : X.Ok) {b : Addr} {o : Obj} (e : X.base.get? b = some o) : b ∉ X.fs := fun hb => by
  have := (ok.funs.mem hb).1
  rw [e] at this; cases this
theorem Inv.bs (I : Inv X pins σ H s) : ∀ b o, X.base.get? b = some o -> s.heap.get? b = some o /\ H b = none := fun b o e =>
  ⟨I.base.keep b o (I.ok.bs b o e).1 (I.ok.bs b o e).2 (I.ok.nofr e) (I.ok.noex b o e), I.base.free b o (I.ok.bs b o e).1 (I.ok.bs b o e).2 (I.ok.noex b o e)⟩
theorem Inv.bk (I : Inv X pins σ H s) : ∀ b o, X.base.get? b = some o -> s.heap.get? b = some o := fun b o e => (I.bs b o e).1
theorem Inv.mod (I : Inv X pins σ H s) : Mod X.K X.mg X.base := I.ok.mod
theorem Inv.kIn (I : Inv X pins σ H s) : X.K.In s.heap := I.ok.mod.kin.keeps I.bk
theorem Inv.fr (I : Inv X pins σ H s) : ∃ m, Fr X.base X.env.locals s.heap m :=
  let ⟨m, hn, _⟩ := I.loc
  ⟨m, hn, I.bk, Znt I.ok.bsz I.ok.above⟩
theorem Inv.lt (I : Inv X pins σ H s) : X.env.locals < s.heap.objs.size := let ⟨_, hn, _⟩ := I.loc; hn.lt
theorem Inv.sz (I : Inv X pins σ H s) : X.s₀.heap.objs.size <= s.heap.objs.size := Znt I.ok.above (Nat.le_of_lt I.lt)
theorem Inv.nofs (I : Inv X pins σ H s) {a : Addr} (h : s.heap.objs.size <= a) : a ∉ X.fs := fun hb => by
  obtain ⟨_, o, ho, _⟩ := I.ok.funs.mem hb
  exact absurd (Nat.lt_of_lt_of_le (Heap.lt_size ho) (Znt I.sz h)) (Nat.lt_irrefl _)
theorem Inv.cne (I : Inv X pins σ H s) : ∀ x c, X.env.cells.lookup x = some c -> c ≠ X.env.locals := fun x c e z => by
  obtain ⟨v, o, ho, hd⟩ := I.cell x c e
  obtain ⟨m, ⟨o', es, ep, ho', hd', _⟩, _⟩ := I.loc
  rw [z, ho'] at ho; cases ho; rw [hd'] at hd; cases hd
theorem Inv.funs (I : Inv X pins σ H s) : s.heap.FunFrames X.base X.outer := by
  have all : ∀ (l : List Env), (∀ b ∈ frs l, b ∈ X.fs) -> X.s₀.heap.FunFrames X.base l -> s.heap.FunFrames X.base l := by
    intro l; induction l with
    | nil => intro _ _; trivial
    | cons env r ih =>
      intro hs hl; obtain ⟨hk, ⟨L, o, hf, hn, ho, hd⟩, hr⟩ := hl
      have hL : L ∈ X.fs := hs L (by unfold frs; rw [List.filterMap_cons, hf]; exact Zcs)
      obtain ⟨sl, e⟩ := I.base.slot L o ho (I.ok.frf L hL) hL fun z => I.ok.exfs L z hL
      exact ⟨hk, ⟨L, _, hf, hn, e, hd⟩, ih (fun b hb => hs b (by unfold frs; rw [List.filterMap_cons, hf]; exact Zmc _ hb)) hr⟩
  exact all X.outer (fun _ hb => hb) I.ok.funs
theorem Inv.stack (I : Inv X pins σ H s) : s.heap.FunFrames X.base X.stack := by
  rcases I.ok.stk with e | ⟨e, hf⟩
  . rw [e]; exact I.funs
  . rw [e]; obtain ⟨m, hn, _⟩ := I.loc
    refine .cons (by rw [I.ok.kind]; decide) hf hn ?_ I.funs
    exact Heap.get?_none_of_le (Znt I.ok.bsz I.ok.above)
theorem Inv.stkSub (I : Inv X pins σ H s) : ∀ b ∈ frs X.stack, b ∈ X.env.locals :: X.fs := fun b hb => by
  rcases I.ok.stk with e | ⟨e, hf⟩
  . rw [e] at hb; exact Zmc _ hb
  . rw [e] at hb; unfold frs at hb; rw [List.filterMap_cons, hf] at hb; exact hb
theorem Inv.stkFree (I : Inv X pins σ H s) : ∀ b ∈ frs X.stack, H b = none := fun b hb => by
  rcases List.mem_cons.mp (I.stkSub b hb) with e | hb
  . rw [e]; exact I.free
  . obtain ⟨_, o, ho, _⟩ := I.ok.funs.mem hb
    exact I.base.free b o ho (I.ok.frf b hb) fun z => I.ok.exfs b z hb
theorem Inv.step {g' : Array GenState} {t' : Nat} {d' : Drawn} {ch : List Addr} (I : Inv X pins σ H s)
    (hch : ∀ b ∈ ch, (b ∈ X.ex ∨ X.s₀.heap.objs.size <= b) /\ b ≠ X.env.locals /\ (∀ x c, X.env.cells.lookup x = some c -> c ≠ b) /\ ∀ p ∈ X.pn ++ pins, p.1 ≠ b)
    (keep : ∀ b o, b ≠ X.env.locals -> b ∉ X.fs -> b ∉ ch -> s.heap.get? b = some o -> H b = none -> h'.get? b = some o)
    (slot : ∀ b o, b ≠ X.env.locals -> b ∈ X.fs -> b ∉ ch -> s.heap.get? b = some o -> H b = none -> ∃ sl, h'.get? b = some { o with slots := sl }) (free : ∀ b o, b ∉ ch -> s.heap.get? b = some o -> H b = none -> H' b = none)
    (there : ∀ b o, b ∉ ch -> s.heap.get? b = some o -> ∃ o', h'.get? b = some o')
    (tups : ∀ b xs, H b = some (.tup xs) -> H' b = some (.tup xs)) (frzs : ∀ b o u, H b = some (.frz o u) -> H' b = some (.frz o u)) (tbls : ∀ b ps, H b = some (.tbl ps) -> ∃ more, H' b = some (.tbl (ps ++ more)))
    (ns : ∀ m, s.heap.Ns X.env.locals m -> h'.Ns X.env.locals m) (hok : HOk X.prog X.w H' h') (hg : AllBare g') :
    Inv X pins σ H' { s with heap := h', gens := g', drawn := d', toks := t' } := by
  have neL : ∀ b o, X.s₀.heap.get? b = some o -> b ≠ X.env.locals := fun b o e => Nat.ne_of_lt (Nat.lt_of_lt_of_le (Heap.lt_size e) I.ok.above)
  have neC : ∀ b o, X.s₀.heap.get? b = some o -> b ∉ X.ex -> b ∉ ch := fun b o e hx hb => by
    rcases (hch b hb).1 with z | z
    . exact hx z
    . exact absurd (Nat.lt_of_lt_of_le (Heap.lt_size e) z) (Nat.lt_irrefl _)
  have cellK : ∀ x c, X.env.cells.lookup x = some c -> ∀ v, s.heap.IsCell c v -> h'.IsCell c v := fun x c e v ⟨o, ho, hd⟩ => by
    have nch : c ∉ ch := fun z => (hch c z).2.2.1 x c e rfl
    by_cases hc : c ∈ X.fs
    . obtain ⟨sl, q⟩ := slot c o (I.cne x c e) hc nch ho (I.freeC x c e)
      exact ⟨_, q, hd⟩
    . exact ⟨o, keep c o (I.cne x c e) hc nch ho (I.freeC x c e), hd⟩
  refine ⟨I.ok, I.os, hg, ⟨fun b o e n hb hx => ?_, fun b o e n hb hx => ?_, fun b o e n hx => ?_, fun b o e hx => ?_, fun b xs e => tups b xs (I.base.tups b xs e), fun b o xs e => frzs b o xs (I.base.frzs b o xs e), fun b ps e => ?_⟩, ?_, fun x c e => ?_, ?_, fun x c e => ?_, fun p hp => ?_, hok, I.len⟩
  . exact keep b o (neL b o e) hb (neC b o e hx) (I.base.keep b o e n hb hx) (I.base.free b o e n hx)
  . obtain ⟨sl, e1⟩ := I.base.slot b o e n hb hx
    obtain ⟨sl', e2⟩ := slot b _ (neL b o e) hb (neC b o e hx) e1 (I.base.free b o e n hx)
    exact ⟨sl', e2⟩
  . obtain ⟨o', e1⟩ := I.base.there b o e hx
    exact free b o' (neC b o e hx) e1 (I.base.free b o e n hx)
  . obtain ⟨o', e1⟩ := I.base.there b o e hx
    exact there b o' (neC b o e hx) e1
  . obtain ⟨m1, e1⟩ := I.base.tbls b ps e
    obtain ⟨m2, e2⟩ := tbls b _ e1
    exact ⟨m1 ++ m2, by rw [e2, Array.append_assoc]⟩
  . obtain ⟨m, hn, hl⟩ := I.loc
    refine ⟨m, ns m hn, fun i x v e1 e2 e3 => ?_⟩
    obtain ⟨u, r, l⟩ := hl i x v e1 e2 e3
    refine ⟨u, r, ?_⟩
    rcases l with l | ⟨k, c, e, z⟩
    . exact .inl l
    . exact .inr ⟨k, c, e, cellK x c e _ z⟩
  . obtain ⟨v, z⟩ := I.cell x c e
    exact ⟨v, cellK x c e v z⟩
  . obtain ⟨m, ⟨o, _, _, ho, _⟩, _⟩ := I.loc
    exact free _ o (fun z => (hch _ z).2.1 rfl) ho I.free
  . obtain ⟨v, o, ho, hd⟩ := I.cell x c e
    exact free c o (fun z => (hch c z).2.2.1 x c e rfl) ho (I.freeC x c e)
  . obtain ⟨e, n, ne, nf, d⟩ := I.pin p hp
    have nch : p.1 ∉ ch := fun z => (hch p.1 z).2.2.2 p hp rfl
    exact ⟨keep p.1 p.2 ne nf nch e n, free p.1 p.2 nch e n, ne, nf, d⟩
theorem Inv.un {t' : Nat} (I : Inv X pins σ H s) (u : Un X.fs [] H H' s.heap h') (hok : HOk X.prog X.w H' h') : Inv X pins σ H' { s with heap := h', toks := t' } := by
  obtain ⟨m, ⟨o, es, ep, ho, r⟩, _⟩ := id I.loc
  obtain ⟨sl, hL⟩ := u.any ho I.free (by simp)
  exact I.step (g' := s.gens) (d' := s.drawn) (ch := []) (fun _ z => nomatch z) (fun b o _ hb _ e n => u.keep b o e n hb (by simp)) (fun b o _ hb _ e n => u.slot b o e n hb (by simp)) (fun b o _ e n => u.free b o e n (by simp)) (fun b o _ e => u.there b o e (by simp)) u.tups u.frzs u.tbls (fun m' hm => by
    obtain ⟨o', es', ep', ho', r'⟩ := hm
    rw [ho] at ho'; cases ho'
    exact ⟨_, es', ep', hL, r'⟩) hok I.bare
theorem Inv.call {g' : Array GenState} {t' : Nat} {d' : Drawn} {ch : List Addr} (I : Inv X pins σ H s) (u : Un (frs X.stack) ch H H' s.heap h') (hok : HOk X.prog X.w H' h') (hg : AllBare g')
    (hch : ∀ b ∈ ch, (b ∈ X.ex ∨ X.s₀.heap.objs.size <= b) /\ b ≠ X.env.locals /\ (∀ x c, X.env.cells.lookup x = some c -> c ≠ b) /\ ∀ p ∈ X.pn ++ pins, p.1 ≠ b) :
    Inv X pins σ H' { s with heap := h', gens := g', drawn := d', toks := t' } := by
  obtain ⟨m, ⟨o, es, ep, ho, r⟩, _⟩ := id I.loc
  obtain ⟨sl, hL⟩ := u.any ho I.free fun z => (hch _ z).2.1 rfl
  exact I.step (ch := ch) hch (fun b o hL hb hc e n => u.keep b o e n (fun z => (List.mem_cons.mp (I.stkSub b z)).elim hL hb) hc) (fun b o _ _ hc e n => u.any e n hc) (fun b o hc e n => u.free b o e n hc) (fun b o hc e => u.there b o e hc) u.tups u.frzs u.tbls (fun m' hm => by
    obtain ⟨o', es', ep', ho', r'⟩ := hm
    rw [ho] at ho'; cases ho'
    exact ⟨_, es', ep', hL, r'⟩) hok hg
theorem Inv.turned {t' : Nat} {it : Addr} (I : Inv X pins σ H s) (k : ∀ b o, b ≠ it -> s.heap.get? b = some o -> h'.get? b = some o) (hn : H it = none) (hL : it ≠ X.env.locals)
    (h1 : it ∈ X.ex ∨ X.s₀.heap.objs.size <= it) (h2 : ∀ x c, X.env.cells.lookup x = some c -> c ≠ it) (h3 : ∀ p ∈ X.pn ++ pins, p.1 ≠ it) : Inv X pins σ H { s with heap := h', toks := t' } := by
  have nit : ∀ b u, H b = some u -> b ≠ it := fun b u e z => by rw [z, hn] at e; cases e
  refine I.step (g' := s.gens) (d' := s.drawn) (ch := [it]) (fun b hb => ?_) (fun b o _ _ hc e _ => k b o (fun z => hc (by simp [z])) e) (fun b o _ _ hc e _ => ⟨o.slots, k b o (fun z => hc (by simp [z])) e⟩) (fun _ _ _ _ n => n)
    (fun b o hc e => ⟨o, k b o (fun z => hc (by simp [z])) e⟩) (fun _ _ e => e) (fun _ _ _ e => e) (fun b ps e => ⟨#[], by rw [e]; simp⟩) (fun m hm => ?_) (fun b u e => ?_) I.bare
  . have e : b = it := by simpa using hb
    subst e; exact ⟨h1, hL, h2, h3⟩
  . obtain ⟨o, es, ep, ho, r⟩ := hm
    exact ⟨o, es, ep, k _ o (Ne.symm hL) ho, r⟩
  . refine (I.hok b u e).stay (fun c v hc q => k c v ?_ q) (fun _ q => q) fun _ _ q => q
    rcases hc with z | z
    . rw [z]; exact nit b u e
    . exact nit c _ z
theorem Inv.tok (I : Inv X pins σ H s) (t : Nat) : Inv X pins σ H { s with toks := t } := I.un (h' := s.heap) (t' := t) Un.refl I.hok
theorem Inv.kept {t' : Nat} (I : Inv X pins σ H s) (k : ∀ b u, s.heap.get? b = some u -> h'.get? b = some u) : Inv X pins σ H { s with heap := h', toks := t' } := I.un (Un.kept k) (I.hok.kept k)
theorem Inv.laid {a : Addr} {o : HO} {t' : Nat} (I : Inv X pins σ H s) (k : ∀ b u, s.heap.get? b = some u -> h'.get? b = some u) (hp : s.heap.objs.size <= a) (new : ObjOk X.prog X.w (upd H a o) h' a o) :
    Inv X pins σ (upd H a o) { s with heap := h', toks := t' } := I.un (Un.laid k hp (I.hok.fresh hp)) (I.hok.laid k hp new)
theorem Inv.write {x e : Addr} {o : HO} {t' : Nat} (I : Inv X pins σ H s) (mu : Mut (H x)) (he : e = x ∨ H e = some (.own x)) (k : ∀ b u, b ≠ e -> s.heap.get? b = some u -> h'.get? b = some u) (heo : ∃ u, h'.get? e = some u)
    (new : ObjOk X.prog X.w (upd H x o) h' x o) : Inv X pins σ (upd H x o) { s with heap := h', toks := t' } := I.un (Un.write mu he k heo) (I.hok.write mu he k heo new)
theorem Inv.weak {σ' : List (Option V)} (I : Inv X pins σ H s) (hl : σ'.length = σ.length) (w : ∀ (i : Nat) v, σ'[i]? = some (some v) -> σ[i]? = some (some v)) : Inv X pins σ' H s :=
  ⟨I.ok, I.os, I.bare, I.base, let ⟨m, hn, hl'⟩ := I.loc; ⟨m, hn, fun i x v e1 e2 e3 => hl' i x v e1 (w i v e2) e3⟩, I.cell, I.free, I.freeC, I.pin, I.hok, hl.trans I.len⟩
theorem Inv.pins_of {pins' : List (Addr × Obj)} (I : Inv X pins σ H s) (h : ∀ p ∈ pins', s.heap.get? p.1 = some p.2 /\ H p.1 = none /\ p.1 ≠ X.env.locals /\ p.1 ∉ X.fs /\ ∀ v, p.2.data ≠ .cell v) : Inv X pins' σ H s :=
  ⟨I.ok, I.os, I.bare, I.base, I.loc, I.cell, I.free, I.freeC, fun p hp => (Zma.mp hp).elim (fun z => I.pin p (List.mem_append_left _ z)) (h p), I.hok, I.len⟩
theorem nodup_ix {N : List Str} (hN : N.Nodup) {i j : Nat} {x : Str} (a : N[i]? = some x) (b : N[j]? = some x) : i = j := by
  obtain ⟨h1, e1⟩ := Zgs.mp a
  obtain ⟨h2, e2⟩ := Zgs.mp b
  exact (List.getElem_inj hN).mp (e1.trans e2.symm)
theorem store_ok2 {M : Model} {A : Around} {E : Value -> Shared -> Prop} {i : Nat} {x : Str} {v : V} {u : Value} {Q : Unit -> Shared -> Prop} (I : Inv X pins σ H s) (hN : X.N.Nodup) (hi : X.N[i]? = some x) (hx : Loc X.env.scope x) (r : RelV v u)
    (h : ∀ s', Inv X pins (σ.set i (some v)) H s' -> (∃ a, Heap.SameBut a s.heap s'.heap /\ (a = X.env.locals ∨ X.env.cells.lookup x = some a)) -> Q () s') (hf : X.fn x = true ∨ X.env.scope.names.lookup x = some .local := by first | exact .inl rfl | exact .inr rfl | assumption) : wpAny M A (storeName X.env x u) Q E s := by
  obtain ⟨m, hn, hl⟩ := id I.loc
  have hcls : (X.env.scope.kind == .class || (X.env.scope.kind == .module && X.env.locals != X.env.globals)) = false := by rw [I.ok.kind]; rfl
  have hiσ : i < σ.length := by rw [I.len]; exact (Zgs.mp hi).1
  have cne := I.cne
  have tracked : ∀ {a : Addr} {h' : Heap}, (∃ o, s.heap.get? a = some o /\ H a = none) -> Heap.SameBut a s.heap h' -> HOk X.prog X.w H h' := fun {a h'} ha hs b ob e => by
    obtain ⟨_, _, hfree⟩ := ha
    refine (I.hok b ob e).stay (fun c w' hc q => (hs.2 c ?_).trans q) (fun _ q => q) fun _ _ q => q
    rintro rfl
    rcases hc with rfl | hc
    . rw [hfree] at e; cases e
    . rw [hfree] at hc; cases hc
  rcases hx with hk | hk
  . refine wpAny_storeName_local hk hn (fun h' hn' hs => ?_) hcls
    obtain ⟨oL, _, _, hoL, _⟩ := id hn
    refine h _ ⟨I.ok, I.os, I.bare, ⟨fun b o e n hb hx => ?_, fun b o e n hb hx => ?_, I.base.free, fun b o e hx => ?_, I.base.tups, I.base.frzs, I.base.tbls⟩, ⟨_, hn', fun j y v' e1 e2 e3 => ?_⟩, fun y c e => ?_, I.free, I.freeC, fun p hp => ?_, tracked ⟨oL, hoL, I.free⟩ hs, by simpa using I.len⟩ ⟨_, hs, .inl rfl⟩
    . exact (hs.2 b (Nat.ne_of_lt (Nat.lt_of_lt_of_le (Heap.lt_size e) I.ok.above))).trans (I.base.keep b o e n hb hx)
    . obtain ⟨sl, e1⟩ := I.base.slot b o e n hb hx
      exact ⟨sl, (hs.2 b (Nat.ne_of_lt (Nat.lt_of_lt_of_le (Heap.lt_size e) I.ok.above))).trans e1⟩
    . obtain ⟨o', e1⟩ := I.base.there b o e hx
      exact ⟨o', (hs.2 b (Nat.ne_of_lt (Nat.lt_of_lt_of_le (Heap.lt_size e) I.ok.above))).trans e1⟩
    . by_cases hj : j = i
      . subst hj; rw [hi] at e1; cases e1
        rw [List.getElem?_set_self hiσ] at e2; cases e2
        exact ⟨u, r, .inl ⟨hk, by simp⟩⟩
      . rw [List.getElem?_set_ne (Ne.symm hj)] at e2; obtain ⟨u', r', q⟩ := hl j y v' e1 e2 e3
        refine ⟨u', r', ?_⟩
        rcases q with ⟨k, e⟩ | ⟨k, c, e, z⟩
        . refine .inl ⟨k, ?_⟩
          have : y ≠ x := fun e => hj (nodup_ix hN e1 (e ▸ hi))
          simp [this, e]
        . exact .inr ⟨k, c, e, z.sameBut hs (cne y c e)⟩
    . obtain ⟨w', z⟩ := I.cell y c e
      exact ⟨w', z.sameBut hs (cne y c e)⟩
    . obtain ⟨e, n, ne, nf, d⟩ := I.pin p hp
      exact ⟨(hs.2 p.1 ne).trans e, n, ne, nf, d⟩
  . have hfn : X.fn x = true := by
      rcases hf with z | z
      . exact z
      . rw [z] at hk; cases hk
    obtain ⟨c, hc⟩ := I.ok.has x (.inl hk)
    obtain ⟨w', z⟩ := I.cell x c hc
    refine wpAny_storeName_cell I.ok.kind hk hc z (fun h' hc' hs => ?_)
    obtain ⟨oc, hoc, hocd⟩ := id z
    refine h { s with heap := h' } ⟨I.ok, I.os, I.bare, ⟨fun b o e n hb hx => ?_, fun b o e n hb hx => ?_, I.base.free, fun b o e hx => ?_, I.base.tups, I.base.frzs, I.base.tbls⟩, ⟨m, hn.sameBut hs (Ne.symm (cne x c hc)), fun j y v' e1 e2 e3 => ?_⟩, fun y c' e => ?_, I.free, I.freeC, fun p hp => ?_, tracked ⟨oc, hoc, I.freeC x c hc⟩ hs, by simpa using I.len⟩ ⟨c, hs, .inr hc⟩
    . exact (hs.2 b (Nat.ne_of_lt (Nat.lt_of_lt_of_le (Heap.lt_size e) (I.ok.cab x c hfn hc)))).trans (I.base.keep b o e n hb hx)
    . obtain ⟨sl, e1⟩ := I.base.slot b o e n hb hx
      exact ⟨sl, (hs.2 b (Nat.ne_of_lt (Nat.lt_of_lt_of_le (Heap.lt_size e) (I.ok.cab x c hfn hc)))).trans e1⟩
    . obtain ⟨o', e1⟩ := I.base.there b o e hx
      exact ⟨o', (hs.2 b (Nat.ne_of_lt (Nat.lt_of_lt_of_le (Heap.lt_size e) (I.ok.cab x c hfn hc)))).trans e1⟩
    . by_cases hj : j = i
      . subst hj; rw [hi] at e1; cases e1
        rw [List.getElem?_set_self hiσ] at e2; cases e2
        exact ⟨u, r, .inr ⟨.inl hk, c, hc, hc'⟩⟩
      . rw [List.getElem?_set_ne (Ne.symm hj)] at e2; obtain ⟨u', r', q⟩ := hl j y v' e1 e2 e3
        refine ⟨u', r', ?_⟩
        rcases q with q | ⟨k, c', e, z'⟩
        . exact .inl q
        . refine .inr ⟨k, c', e, z'.sameBut hs ?_⟩
          rintro rfl
          exact hj (nodup_ix hN e1 (I.ok.inj _ _ _ e hc ▸ hi))
    . by_cases hcc : c' = c
      . subst hcc; exact ⟨_, hc'⟩
      . obtain ⟨w2, z2⟩ := I.cell y c' e
        exact ⟨w2, z2.sameBut hs hcc⟩
    . obtain ⟨e, n, ne, nf, d⟩ := I.pin p hp
      refine ⟨(hs.2 p.1 ?_).trans e, n, ne, nf, d⟩
      intro q; rw [q, hoc] at e; have q' : oc = p.2 := Option.some.inj e
      exact d w' (by rw [<- q']; exact hocd)
theorem store_ok {M : Model} {A : Around} {E : Value -> Shared -> Prop} {i : Nat} {x : Str} {v : V} {u : Value} {Q : Unit -> Shared -> Prop} (I : Inv X pins σ H s) (hN : X.N.Nodup) (hi : X.N[i]? = some x) (hx : Loc X.env.scope x) (r : RelV v u)
    (h : ∀ s', Inv X pins (σ.set i (some v)) H s' -> Q () s') (hf : X.fn x = true ∨ X.env.scope.names.lookup x = some .local := by first | exact .inl rfl | exact .inr rfl | assumption) : wpAny M A (storeName X.env x u) Q E s :=
  store_ok2 I hN hi hx r (fun s' I' _ => h s' I') hf
theorem Inv.call' {s' : Shared} {ch : List Addr} (I : Inv X pins σ H s) (ho : s'.os = s.os) (u : Un (frs X.stack) ch H H' s.heap s'.heap) (hok : HOk X.prog X.w H' s'.heap) (hg : AllBare s'.gens)
    (hch : ∀ b ∈ ch, (b ∈ X.ex ∨ X.s₀.heap.objs.size <= b) /\ b ≠ X.env.locals /\ (∀ x c, X.env.cells.lookup x = some c -> c ≠ b) /\ ∀ p ∈ X.pn ++ pins, p.1 ≠ b) : Inv X pins σ H' s' := by
  obtain ⟨h', g', d', t', o'⟩ := s'
  have e : o' = s.os := ho
  subst e; exact I.call (g' := g') (t' := t') (d' := d') u hok hg hch
end
abbrev XK := Value -> Option Addr -> Hp -> Prop
abbrev St := List (Option V)
abbrev VK := V -> Hp -> Prop
abbrev TE := St -> Hp -> VK -> Prop
abbrev TT := St -> Hp -> (Bool -> Hp -> Prop) -> Prop
abbrev TA := St -> Hp -> (List V -> Hp -> Prop) -> Prop
structure Ends where
  nx : St -> Hp -> Prop
  rt : VK
  bk : St -> Hp -> Prop := fun _ _ => False
  ct : St -> Hp -> Prop := fun _ _ => False
abbrev TS := Ends -> St -> Hp -> Prop
def EP (X : Cx) (pins : List (Addr × Obj)) (σ : St) (Q : VK) (u : Value) (s' : Shared) : Prop := ∃ v H', Inv X pins σ H' s' /\ RelV v u /\ Q v H'
def TP (X : Cx) (pins : List (Addr × Obj)) (σ : St) (Q : Bool -> Hp -> Prop) (b : Bool) (s' : Shared) : Prop := ∃ H', Inv X pins σ H' s' /\ Q b H'
def AP (X : Cx) (pins : List (Addr × Obj)) (σ : St) (Q : List V -> Hp -> Prop) (us : List Value) (s' : Shared) : Prop := ∃ vs H', Inv X pins σ H' s' /\ Vals vs us /\ Q vs H'
def SP (X : Cx) (pins : List (Addr × Obj)) (D : Ends) (f : Flow) (s' : Shared) : Prop :=
  match f with
  | .next => ∃ σ' H', Inv X pins σ' H' s' /\ D.nx σ' H'
  | .brk => ∃ σ' H', Inv X pins σ' H' s' /\ D.bk σ' H'
  | .cont => ∃ σ' H', Inv X pins σ' H' s' /\ D.ct σ' H'
  | .ret u => ∃ v σ' H', Inv X pins σ' H' s' /\ RelV v u /\ D.rt v H'
def PE (X : Cx) (e : Expr) (t : TE) : Prop :=
  ∀ (pins : List (Addr × Obj)) (s : Shared) (σ : St) (H : Hp) (Q : VK), Inv X pins σ H s -> t σ H Q -> wpAny (model X.prog X.w) X.A (eval e X.env) (EP X pins σ Q) X.xe s
def PT (X : Cx) (e : Expr) (t : TT) : Prop :=
  ∀ (pins : List (Addr × Obj)) (s : Shared) (σ : St) (H : Hp) (Q : Bool -> Hp -> Prop), Inv X pins σ H s -> t σ H Q -> wpAny (model X.prog X.w) X.A (isTrue e X.env (eval e X.env)) (TP X pins σ Q) X.xe s
def PW (X : Cx) (e : Expr) (t : TT) : Prop :=
  ∀ (whole : Sem Value) (pins : List (Addr × Obj)) (s : Shared) (σ : St) (H : Hp) (Q : Bool -> Hp -> Prop), Inv X pins σ H s -> t σ H Q -> wpAny (model X.prog X.w) X.A (isTrue e X.env whole) (TP X pins σ Q) X.xe s
theorem PW.pt {X : Cx} {e : Expr} {t : TT} (h : PW X e t) : PT X e t := h _
def PA (X : Cx) (es : List Expr) (t : TA) : Prop :=
  ∀ (pos : Pos) (pins : List (Addr × Obj)) (s : Shared) (σ : St) (H : Hp) (Q : List V -> Hp -> Prop), Inv X pins σ H s -> t σ H Q -> wpAny (model X.prog X.w) X.A (spliced (backTo pos (starEach es X.env))) (AP X pins σ Q) X.xe s
def PS (X : Cx) (st : Stmt) (t : TS) : Prop :=
  ∀ (pins : List (Addr × Obj)) (s : Shared) (σ : St) (H : Hp) (D : Ends), Inv X pins σ H s -> t D σ H -> wpAny (model X.prog X.w) X.A (exec st X.env) (SP X pins D) X.xe s
def PSs (X : Cx) (st : List Stmt) (t : TS) : Prop :=
  ∀ (pins : List (Addr × Obj)) (s : Shared) (σ : St) (H : Hp) (D : Ends), Inv X pins σ H s -> t D σ H -> wpAny (model X.prog X.w) X.A (execs st X.env) (SP X pins D) X.xe s
theorem thn {α : Type} {t : Sem α} {Q Q' : α -> Shared -> Prop} {M : Model} {A : Around} {E : Value -> Shared -> Prop} {s : Shared} (h : wpAny M A t Q E s) (hQ : ∀ a s, Q a s -> Q' a s) : wpAny M A t Q' E s := wpAny_mono h hQ fun _ _ x => x
end L2
namespace L2
open PySem PySem.Spec PyProof.Rows
section
variable {X : Cx}
theorem bin {a b : Expr} {ta tb : TE} (ha : PE X a ta) (hb : PE X b tb) {pins : List (Addr × Obj)} {s : Shared} {σ : St} {H : Hp} {R : V -> V -> Hp -> Prop} (I : Inv X pins σ H s) (h : ta σ H fun x H1 => tb σ H1 fun y H2 => R x y H2)
    {α : Type} {Q : α -> Shared -> Prop} {f : Value -> Value -> Sem α}
    (hf : ∀ v u s2 x y H2, Inv X pins σ H2 s2 -> RelV x v -> RelV y u -> R x y H2 -> wpAny (model X.prog X.w) X.A (f v u) Q X.xe s2) :
    wpAny (model X.prog X.w) X.A (eval a X.env) (fun v s₁ => wpAny (model X.prog X.w) X.A (eval b X.env) (fun u s₂ => wpAny (model X.prog X.w) X.A (f v u) Q X.xe s₂) X.xe s₁) X.xe s := by
  refine thn (ha pins s σ H _ I h) fun v s1 ⟨x, H1, I1, r1, q1⟩ => ?_
  refine thn (hb pins s1 σ H1 _ I1 q1) fun u s2 ⟨y, H2, I2, r2, q2⟩ => ?_
  exact hf v u s2 x y H2 I2 r1 r2 q2
def tVar (i : Nat) : TE := fun σ H Q => ∃ v, σ[i]? = some (some v) /\ Q v H
def tC (v : V) : TE := fun _ H Q => Q v H
theorem pe_var {i : Nat} {x : Str} {pos : Pos} (hN : X.N[i]? = some x) (hv : Vis X.env.scope x) (hd : (x == ("__debug__" : Str)) = false := by decide) (hcd : (x == ("__classdict__" : Str)) = false := by decide) : PE X (.Name x pos) (tVar i) := by
  intro pins s σ H Q I h; obtain ⟨v, e, h⟩ := h
  obtain ⟨m, hn, hl⟩ := I.loc
  obtain ⟨u, r, l⟩ := hl i x v hN e hv
  have fin : EP X pins σ Q u s := ⟨v, H, I, r, h⟩
  rcases l with ⟨hk, hm⟩ | ⟨hk, c, hc, hcell⟩
  . exact wpAny_Name (wpAny_loadName_local I.ok.kind hk hn hm fin) hd
  . rcases hk with hk | hk
    . exact wpAny_Name (wpAny_loadName_cell I.ok.kind hk hc hcell fin) hd
    . exact wpAny_Name (wpAny_loadName_free I.ok.kind hk hc hcell fin hcd) hd
theorem pe_int {i j pos} : PE X (.Constant (.int i) j pos) (tC (.int i)) := fun _ _ _ H _ I h => wpAny_Constant_int ⟨.int i, H, I.tok _, ⟨_, rfl⟩, h⟩
theorem pe_bl {b j pos} : PE X (.Constant (.bool b) j pos) (tC (.bl b)) := fun _ _ _ H _ I h => Constant_bool ⟨.bl b, H, I, rfl, h⟩
theorem pe_str {x j pos} : PE X (.Constant (.str x) j pos) (tC (.str x)) := fun _ _ _ H _ I h => Calls.Constant_str ⟨.str x, H, I.tok _, ⟨_, rfl⟩, h⟩
def Gl (X : Cx) (x : Str) : Prop := X.env.kindOf x = some .globalImplicit
theorem ld_glob {E : Value -> Shared -> Prop} {pins : List (Addr × Obj)} {s : Shared} {σ : St} {H : Hp} {x : Str} {u : Value} {pos : Pos} {Q : Value -> Shared -> Prop} (I : Inv X pins σ H s) (hg : Gl X x) (hm : X.mg x = some u) (h : Q u s)
    (hd : (x == ("__debug__" : Str)) = false := by decide) : wpAny (model X.prog X.w) X.A (eval (.Name x pos) X.env) Q E s :=
  Calls.Name_function_global I.ok.kind hg (Calls.loadGlobal_global (by rw [I.ok.glob]; exact I.mod.glob.keeps I.bk) hm h) hd
theorem ld_blt {E : Value -> Shared -> Prop} {pins : List (Addr × Obj)} {s : Shared} {σ : St} {H : Hp} {x : Str} {u : Value} {pos : Pos} {Q : Value -> Shared -> Prop} (I : Inv X pins σ H s) (hg : Gl X x) (hm : X.mg x = none) (hv : bootBuiltins x = some u) (h : Q u s)
    (hn : x ≠ "__name__" := by decide) (hd : (x == ("__debug__" : Str)) = false := by decide) : wpAny (model X.prog X.w) X.A (eval (.Name x pos) X.env) Q E s := by
  obtain ⟨mb, h1, h2⟩ := I.mod.blt
  exact Calls.Name_function_global I.ok.kind hg (Calls.loadGlobal_builtin (by rw [I.ok.glob]; exact I.mod.glob.keeps I.bk) hm (by rw [I.ok.blt]; exact h1.keeps I.bk) ((h2 x hn).trans hv) h) hd
theorem pe_glob {x : Str} {v : V} {u : Value} {pos : Pos} (hg : Gl X x) (hm : X.mg x = some u) (r : RelV v u) (hd : (x == ("__debug__" : Str)) = false := by decide) : PE X (.Name x pos) (tC v) :=
  fun _ _ _ H _ I h => ld_glob I hg hm ⟨v, H, I, r, h⟩ hd
theorem pe_bltn {x : Str} {v : V} {u : Value} {pos : Pos} (hg : Gl X x) (hm : X.mg x = none) (hv : bootBuiltins x = some u) (r : RelV v u) (hn : x ≠ "__name__" := by decide) (hd : (x == ("__debug__" : Str)) = false := by decide) : PE X (.Name x pos) (tC v) :=
  fun _ _ _ H _ I h => ld_blt I hg hm hv ⟨v, H, I, r, h⟩ hn hd
variable {a b : Expr} {ta tb : TE} {pos : Pos}
def PC (X : Cx) (op : CmpOp) (a b : Expr) (t : TE) : Prop :=
  ∀ (pins : List (Addr × Obj)) (s : Shared) (σ : St) (H : Hp) (Q : VK), Inv X pins σ H s -> t σ H Q →
    wpAny (model X.prog X.w) X.A (eval a X.env) (fun v s₁ => wpAny (model X.prog X.w) X.A (eval b X.env) (fun u s₂ => wpAny (model X.prog X.w) X.A (compareOp op v u) (EP X pins σ Q) X.xe s₂) X.xe s₁) X.xe s
def tB (t : TE) : TT := fun σ H Q => t σ H fun x H1 => ∃ c, x = .bl c /\ Q c H1
theorem pt_cmp {op : CmpOp} {t : TE} (h : PC X op a b t) (h1 : behindInMarks op b = false := by first | exact nobehind _ (by decide) (by decide) | rfl) : PT X (.Compare a [op] [b] pos) (tB t) := by
  intro pins s σ H Q I hw; refine wpAny_isTrue_Compare1 (thn (h pins s σ H _ I hw) fun v s1 h1 => thn h1 fun u s2 h2 => thn h2 fun c s3 ⟨x, H1, I1, r1, q1⟩ => ?_) h1
  obtain ⟨d, rfl, q⟩ := q1
  cases r1
  exact wpAny_truthy_bool ⟨H1, I1, q⟩
theorem pt_val {e : Expr} {t : TE} (h : PE X e t) (he : ∀ whole, isTrue e X.env whole = (do let v ← whole; standAt e.pos; holding [v] (truthy v)) := by intro _; rfl) : PT X e (tB t) := by
  intro pins s σ H Q I hw; refine isTrue_plain (thn (h pins s σ H _ I hw) fun v s1 ⟨x, H1, I1, r1, q1⟩ => ?_) (he _)
  obtain ⟨d, rfl, q⟩ := q1
  cases r1
  exact wpAny_truthy_bool ⟨H1, I1, q⟩
variable {tA tB' : TT} {rest : List Expr}
def tOr (t u : TT) : TT := fun σ H Q => t σ H fun c H1 => if c = true then Q true H1 else u σ H1 Q
def tNot (t : TT) : TT := fun σ H Q => t σ H fun c H1 => Q (!c) H1
theorem pw_or1 (ha : PT X a tA) : PW X (.BoolOp .Or [a] pos) tA := by
  intro wh pins s σ H Q I h; refine isTrue_or (thn (ha pins s σ H Q I h) fun c s1 e => ?_)
  cases c with
  | false => exact isTrue_or_nil e
  | true => exact e
theorem pw_or (ha : PT X a tA) (hb : PW X (.BoolOp .Or (b :: rest) pos) tB') : PW X (.BoolOp .Or (a :: b :: rest) pos) (tOr tA tB') := by
  intro wh pins s σ H Q I h; refine isTrue_or (thn (ha pins s σ H _ I h) fun c s1 ⟨H1, I1, q1⟩ => ?_)
  cases c with
  | true => exact ⟨H1, I1, q1⟩
  | false => exact hb wh pins s1 σ H1 Q I1 q1
theorem pt_not (ha : PT X a tA) : PT X (.UnaryOp .Not a pos) (tNot tA) := by
  intro pins s σ H Q I h; exact isTrue_not (ha pins s σ H (fun c H1 => Q (!c) H1) I h)
end
end L2
namespace L2
open PySem PySem.Spec PyProof.Rows
def SqL (K : W.Frag) (H : Hp) (a : Addr) (xs : List V) : Prop :=
  Rd H a (.lst xs) ∨
    ∃ (o : Obj) (its : Array Value) (n : Nat), K.lookup a = some o /\ o.cls = .type "list" /\ o.dict = none /\ o.data = .seq its n /\ its.size <= sizeLine /\ Vals xs its.toList
def SqT (K : W.Frag) (H : Hp) (a : Addr) (xs : List V) : Prop :=
  Rd H a (.tup xs) ∨
    ∃ (o : Obj) (its : Array Value) (n : Nat), K.lookup a = some o /\ o.cls = .type "tuple" /\ o.data = .seq its n /\ its.size <= sizeLine /\ Vals xs its.toList
def absV : Value -> Option V
  | .none => some .non
  | .bool b => some (.bl b)
  | .int i _ => some (.int i)
  | .str x _ => some (.str x)
  | .bytes b _ => some (.byt b)
  | .float b _ => some (.flt b)
  | .ref a => some (.ref a)
  | .type n => some (.ty n)
  | _ => none
theorem RelV.abs {x : V} {u : Value} (r : RelV x u) : absV u = some x := by
  cases x with
  | non => cases r; rfl
  | bl _ => cases r; rfl
  | int _ => obtain ⟨t, rfl⟩ := r; rfl
  | str _ => obtain ⟨t, rfl⟩ := r; rfl
  | byt _ => obtain ⟨t, rfl⟩ := r; rfl
  | flt _ => obtain ⟨t, rfl⟩ := r; rfl
  | ref _ => cases r; rfl
  | ty _ => cases r; rfl
theorem RelV.inj {x y : V} {u : Value} (r : RelV x u) (q : RelV y u) : x = y := Option.some.inj (r.abs.symm.trans q.abs)
theorem Vals.inj : ∀ {xs ys : List V} {us : List Value}, Vals xs us -> Vals ys us -> xs = ys
  | _, _, _, .nil, .nil => rfl
  | _, _, _, .cons r t, .cons r' t' => by rw [r.inj r', Vals.inj t t']
section
variable {X : Cx} {pins : List (Addr × Obj)} {σ : St} {H : Hp} {s : Shared} {a : Addr} {xs ys : List V}
theorem SqL.of {K : W.Frag} (h : H a = some (.lst xs)) : SqL K H a xs := .inl (.inl h)
theorem SqT.of {K : W.Frag} (h : H a = some (.tup xs)) : SqT K H a xs := .inl (.inl h)
theorem Inv.list (I : Inv X pins σ H s) (h : SqL X.K H a xs) : ∃ its : List Value, Vals xs its /\ PlainL s.heap a its.toArray /\ xs.length <= sizeLine := by
  rcases h with h | ⟨o, its, n, hk, hc, hd, hs, hz, r⟩
  . obtain ⟨z, its, n, r, e⟩ := h.ok I.hok
    exact ⟨its, r, ⟨_, n, e, rfl, rfl, rfl⟩, z⟩
  . refine ⟨its.toList, r, ⟨o, n, I.kIn a o hk, hc, hd, by simpa using hs⟩, ?_⟩
    have e := r.length
    simp only [Array.length_toList] at e
    omega
theorem Inv.tuple (I : Inv X pins σ H s) (h : SqT X.K H a xs) : ∃ its : List Value, Vals xs its /\ IsTup s.heap a its.toArray /\ xs.length <= sizeLine := by
  rcases h with h | ⟨o, its, n, hk, hc, hs, hz, r⟩
  . obtain ⟨z, its, r, p⟩ := h.ok I.hok
    exact ⟨its, r, p, z⟩
  . refine ⟨its.toList, r, ⟨o, I.kIn a o hk, hc, n, by simpa using hs⟩, ?_⟩
    have e := r.length
    simp only [Array.length_toList] at e
    omega
theorem Inv.list_inj (I : Inv X pins σ H s) (h : SqL X.K H a xs) (h' : SqL X.K H a ys) : xs = ys := by
  obtain ⟨its, r, ⟨o, n, e, _, _, d⟩, _⟩ := I.list h
  obtain ⟨its', r', ⟨o', n', e', _, _, d'⟩, _⟩ := I.list h'
  rw [e] at e'; cases e'
  rw [d] at d'; injection d' with d1 _
  have : its = its' := by simpa using congrArg Array.toList d1
  subst this; exact r.inj r'
end
abbrev Cx.wish (X : Cx) (E : Value -> Shared -> Prop) : Cx := { X with xe := E }
abbrev Cx.nox (X : Cx) : Cx := X.wish fun _ _ => False
theorem Cx.Ok.wish {X : Cx} (ok : X.Ok) (E : Value -> Shared -> Prop) : (X.wish E).Ok :=
  ⟨ok.mod, ok.kind, ok.glob, ok.blt, ok.above, ok.inj, ok.has, ok.cab, ok.hd, ok.frames, ok.stk, ok.exf, ok.bs, ok.bsz, ok.noex, ok.exfs, ok.funs, ok.frf⟩
theorem Cx.Ok.unwish {X : Cx} {E : Value -> Shared -> Prop} (ok : (X.wish E).Ok) : X.Ok :=
  ⟨ok.mod, ok.kind, ok.glob, ok.blt, ok.above, ok.inj, ok.has, ok.cab, ok.hd, ok.frames, ok.stk, ok.exf, ok.bs, ok.bsz, ok.noex, ok.exfs, ok.funs, ok.frf⟩
section
variable {X : Cx} {pins : List (Addr × Obj)} {σ : St} {H : Hp} {s : Shared} {E : Value -> Shared -> Prop}
theorem Inv.wish (I : Inv X pins σ H s) (E : Value -> Shared -> Prop) : Inv (X.wish E) pins σ H s := ⟨I.ok.wish E, I.os, I.bare, I.base, I.loc, I.cell, I.free, I.freeC, I.pin, I.hok, I.len⟩
theorem Inv.unwish (I : Inv (X.wish E) pins σ H s) : Inv X pins σ H s := ⟨I.ok.unwish, I.os, I.bare, I.base, I.loc, I.cell, I.free, I.freeC, I.pin, I.hok, I.len⟩
theorem SP.unwish {D : Ends} {f : Flow} {s' : Shared} (h : SP (X.wish E) pins D f s') : SP X pins D f s' := by
  cases f with
  | next => obtain ⟨σ', H', I, q⟩ := h; exact ⟨σ', H', I.unwish, q⟩
  | brk => obtain ⟨σ', H', I, q⟩ := h; exact ⟨σ', H', I.unwish, q⟩
  | cont => obtain ⟨σ', H', I, q⟩ := h; exact ⟨σ', H', I.unwish, q⟩
  | ret u => obtain ⟨v, σ', H', I, r, q⟩ := h; exact ⟨v, σ', H', I.unwish, r, q⟩
theorem PSs.nox {st : List Stmt} {t : TS} (h : PSs X.nox st t) : PSs X st t := fun pins s σ H D I hw =>
  wpAny_mono (h pins s σ H D (I.wish _) hw) (fun _ _ q => q.unwish) fun _ _ z => False.elim z
end
section
variable {X : Cx} {st : Stmt} {rest : List Stmt} {t u : TS} {e : Expr} {te : TE} {pos : Pos}
def tNext : TS := fun D σ H => D.nx σ H
def tSeq (t u : TS) : TS := fun D σ H => t { D with nx := u D } σ H
theorem pss_nil : PSs X [] tNext := fun _ _ σ H _ I h => wpAny_execs_nil ⟨σ, H, I, h⟩
theorem pss_cons (h1 : PS X st t) (h2 : PSs X rest u) : PSs X (st :: rest) (tSeq t u) := by
  intro pins s σ H D I h; refine wpAny_execs_cons (thn (h1 pins s σ H { D with nx := u D } I h) fun f s1 q => ?_)
  cases f with
  | next =>
    obtain ⟨σ', H', I', q⟩ := q
    exact h2 pins s1 σ' H' D I' q
  | ret v => exact q
  | brk => exact q
  | cont => exact q
theorem pss_one (h1 : PS X st t) : PSs X [st] t := by
  intro pins s σ H D I h; refine wpAny_execs_cons (thn (h1 pins s σ H D I h) fun f s1 q => ?_)
  cases f with
  | next => exact wpAny_execs_nil q
  | ret v => exact q
  | brk => exact q
  | cont => exact q
theorem Inv.quiet {pins : List (Addr × Obj)} {σ : St} {H : Hp} {s : Shared} (I : Inv X pins σ H s) : interactive X.env = false := by simp [interactive, I.ok.kind]
def tDrop (te : TE) : TS := fun D σ H => te σ H fun _ H1 => D.nx σ H1
theorem ps_expr (he : PE X e te) (hs : swapsWith e none pos.line X.env = pure false := by rfl) : PS X (.Expr e pos) (tDrop te) := by
  intro pins s σ H D I h; exact wpAny_Expr_any (thn (he pins s σ H _ I h) fun v s1 ⟨x, H1, I1, r1, q1⟩ => ⟨σ, H1, I1, q1⟩) I.quiet hs
def tRet (te : TE) : TS := fun D σ H => te σ H D.rt
theorem ps_ret (he : PE X e te) : PS X (.Return (some e) pos) (tRet te) := by
  intro pins s σ H D I h; exact wpAny_Return_some (thn (he pins s σ H _ I h) fun v s1 ⟨x, H1, I1, r1, q1⟩ => ⟨x, σ, H1, I1, r1, q1⟩)
def tIfS (c : TT) (t u : TS) : TS := fun D σ H => c σ H fun b H1 => if b = true then t D σ H1 else u D σ H1
theorem ps_if {c : Expr} {a b : List Stmt} {tc : TT} (hc : PT X c tc) (ha : PSs X a t) (hb : PSs X b u) : PS X (.If c a b pos) (tIfS tc t u) := by
  intro pins s σ H D I h; refine wpAny_If (thn (hc pins s σ H _ I h) fun d s1 ⟨H1, I1, q1⟩ => ?_)
  cases d with
  | true => exact ha pins s1 σ H1 D I1 q1
  | false => exact hb pins s1 σ H1 D I1 q1
end
abbrev TG := V -> St -> Hp -> (St -> Hp -> Prop) -> Prop
def PG (X : Cx) (target : Expr) (t : TG) : Prop :=
  ∀ (pins : List (Addr × Obj)) (s : Shared) (σ : St) (H : Hp) (v : V) (u : Value) (Q : St -> Hp -> Prop), Inv X pins σ H s -> RelV v u -> t v σ H Q →
    wpAny (model X.prog X.w) X.A (assign target X.env u) (fun _ s' => ∃ σ' H', Inv X pins σ' H' s' /\ Q σ' H') X.xe s
abbrev TSet := V -> V -> V -> Hp -> (Hp -> Prop) -> Prop
def PSet (X : Cx) (t : TSet) : Prop :=
  ∀ (pins : List (Addr × Obj)) (s : Shared) (σ : St) (H : Hp) (o i v : V) (ov iv u : Value) (Q : Hp -> Prop), Inv X pins σ H s -> RelV o ov -> RelV i iv -> RelV v u -> t o i v H Q →
    wpAny (model X.prog X.w) X.A (setItem ov iv u) (fun _ s' => ∃ H', Inv X pins σ H' s' /\ Q H') X.xe s
section
variable {X : Cx} {pos : Pos}
def gName (i : Nat) : TG := fun v σ H Q => Q (σ.set i (some v)) H
theorem pg_name {i : Nat} {x : Str} (hN : X.N.Nodup) (hi : X.N[i]? = some x) (hx : Loc X.env.scope x) (hf : X.fn x = true ∨ X.env.scope.names.lookup x = some .local := by first | exact .inl rfl | exact .inr rfl | assumption) : PG X (.Name x pos) (gName i) := by
  intro pins s σ H v u Q I r h; exact wpAny_assign_Name (store_ok I hN hi hx r (fun s' I' => ⟨_, H, I', h⟩) hf)
def gSub (to ti : TE) (t : TSet) : TG := fun v σ H Q => to σ H fun o H1 => ti σ H1 fun i H2 => t o i v H2 fun H3 => Q σ H3
theorem pg_sub {o i : Expr} {to ti : TE} {t : TSet} (ho : PE X o to) (hi : PE X i ti) (hs : PSet X t)
    (ha : ∀ v, assign (.Subscript o i pos) X.env v = (do
      let ov ← holding [v] (eval o X.env)
      let iv ← holding [v, ov] (eval i X.env)
      standAt pos
      holding [v, ov, iv] (setItem ov iv v)
      release [v, ov, iv] []) := by intro _; rfl) : PG X (.Subscript o i pos) (gSub to ti t) := by
  intro pins s σ H v u Q I r h; rw [ha]; refine wpAny_bind (wpAny_holding (thn (ho pins s σ H _ I h) fun ov s1 ⟨x, H1, I1, r1, q1⟩ => ?_))
  refine wpAny_bind (wpAny_holding (thn (hi pins s1 σ H1 _ I1 q1) fun iv s2 ⟨y, H2, I2, r2, q2⟩ => ?_))
  refine wpAny_bind (wpAny_standAt (wpAny_bind (wpAny_holding (thn (hs pins s2 σ H2 x y v ov iv u _ I2 r1 r2 r q2) fun _ s3 ⟨H3, I3, q3⟩ => ?_))))
  exact wpAny_release ⟨σ, H3, I3, q3⟩
def tAsg (te : TE) (g : TG) : TS := fun D σ H => te σ H fun x H1 => g x σ H1 D.nx
theorem ps_asg {tg e : Expr} {te : TE} {g : TG} (he : PE X e te) (hg : PG X tg g) (hs : swapsWithSole [tg] e pos.line X.env = pure false := by rfl) (hw : swappedStores [tg] e X.env = pure none := by rfl)
    (h1 : (assignEach [tg] X.env).map (·.2) = [assign tg X.env] := by rfl) : PS X (.Assign [tg] e pos) (tAsg te g) := by
  intro pins s σ H D I h; refine wpAny_Assign_stores (thn (he pins s σ H _ I h) fun v s1 ⟨x, H1, I1, r1, q1⟩ => ?_) hs hw
  rw [h1]; exact thn (hg pins s1 σ H1 x v _ I1 r1 q1) fun _ s2 q => q
theorem ps_set {i : Nat} {x : Str} {e : Expr} {te : TE} {pos' : Pos} (hN : X.N.Nodup) (hi : X.N[i]? = some x) (hx : Loc X.env.scope x) (he : PE X e te) (hs : swapsWith e (some (.Name x pos')) pos.line X.env = pure false := by rfl) (hf : X.fn x = true ∨ X.env.scope.names.lookup x = some .local := by first | exact .inl rfl | exact .inr rfl | assumption) :
    PS X (.Assign [.Name x pos'] e pos) (tAsg te (gName i)) := by
  intro pins s σ H D I h; refine wpAny_Assign_Name (thn (he pins s σ H _ I h) fun v s1 ⟨y, H1, I1, r1, q1⟩ => ?_) hs
  exact store_ok I1 hN hi hx r1 (fun s2 I2 => ⟨_, H1, I2, q1⟩) hf
end
section
variable {X : Cx} {pos : Pos}
def tWhile (c : TT) (tb : TS) : TS := fun D σ H => ∃ W : Nat -> St -> Hp -> Prop, (∃ m, W m σ H) /\ ∀ m σ H, W m σ H →
  c σ H fun b H1 => if b = true then ∃ N : St -> Hp -> Prop, (∀ σ' H', N σ' H' -> ∃ m', m' < m /\ W m' σ' H') /\ tb { D with nx := N, ct := N, bk := D.nx } σ H1 else D.nx σ H1
theorem ps_while {c : Expr} {body : List Stmt} {tc : TT} {tb : TS} (hp : PassesOwn (model X.prog X.w) X.A X.env X.xe) (hc : PT X c tc) (hb : PSs X body tb) : PS X (.While c body [] pos) (tWhile tc tb) := by
  intro pins s σ H D I h; obtain ⟨W, ⟨m0, w0⟩, turn⟩ := h
  refine wpAny_While (codeAny_whileLoop (fun n s' => ∃ σ' H', Inv X pins σ' H' s' /\ W n σ' H') ?_ m0 ⟨σ, H, I, w0⟩)
  rintro n s1 ⟨σ1, H1, I1, w1⟩
  refine wpAny_passesOwn hp (thn (hc pins s1 σ1 H1 _ I1 (turn n σ1 H1 w1)) fun b s2 ⟨H2, I2, q2⟩ => ?_)
  cases b with
  | true =>
    obtain ⟨N, hN, q2⟩ := q2
    rw [if_pos rfl]; refine wpAny_passesOwn hp (thn (hb pins s2 σ1 H2 _ I2 q2) fun f s3 q3 => ?_)
    cases f with
    | next =>
      obtain ⟨σ3, H3, I3, n3⟩ := q3
      obtain ⟨m', hm, w3⟩ := hN σ3 H3 n3
      exact ⟨m', hm, σ3, H3, I3, w3⟩
    | cont =>
      obtain ⟨σ3, H3, I3, n3⟩ := q3
      obtain ⟨m', hm, w3⟩ := hN σ3 H3 n3
      exact ⟨m', hm, σ3, H3, I3, w3⟩
    | brk => exact q3
    | ret v => exact q3
  | false =>
    rw [if_neg Bool.false_ne_true]; exact wpAny_execs_nil ⟨σ1, H2, I2, q2⟩
end
structure It where
  go : Nat -> Hp -> Prop
  yld : Nat -> Hp -> V -> Hp -> Prop
  stop : Nat -> Hp -> Prop
def FpOk (X : Cx) (pins : List (Addr × Obj)) (H : Hp) (b : Addr) : Prop :=
  H b = none /\ b ≠ X.env.locals /\ b ∉ X.fs /\ (b ∈ X.ex ∨ X.s₀.heap.objs.size <= b) /\ (∀ x c, X.env.cells.lookup x = some c -> c ≠ b) /\ ∀ p ∈ X.pn ++ pins, p.1 ≠ b
theorem Inv.fpOk {X : Cx} {pins : List (Addr × Obj)} {σ : St} {H H' : Hp} {s : Shared} {b : Addr} (I : Inv X pins σ H s) (hb : s.heap.objs.size <= b) (hn : H' b = none) : FpOk X pins H' b := by
  refine ⟨hn, Nat.ne_of_gt (Nat.lt_of_lt_of_le I.lt hb), I.nofs hb, .inr (Znt I.sz hb), fun x c e z => ?_, fun p hp z => ?_⟩
  . obtain ⟨v, q⟩ := I.cell x c e
    exact absurd (Nat.lt_of_lt_of_le q.lt (by rw [z]; exact hb)) (Nat.lt_irrefl _)
  . exact absurd (Nat.lt_of_lt_of_le (Heap.lt_size (I.pin p hp).1) (by rw [z]; exact hb)) (Nat.lt_irrefl _)
structure Turn (P : Program) (w : World) (K : W.Frag) (tg : Expr) (J : It) (fp : List Addr) (it : Addr) (tn : Nat -> Heap -> Prop) : Prop where
  mem : it ∈ fp
  obj : ∀ i h, tn i h -> ∀ b ∈ fp, ∃ o, h.get? b = some o /\ ∀ v, o.data ≠ .cell v
  keep : ∀ i h h', tn i h -> (∀ b ∈ fp, ∀ o, h.get? b = some o -> h'.get? b = some o) -> tn i h'
  item : ∀ (X : Cx), X.prog = P -> X.w = w -> X.K = K -> X.calm = true -> ∀ (i : Nat) (pins : List (Addr × Obj)) (s : Shared) (σ : St) (H : Hp) (E : Value -> Shared -> Prop), Inv X pins σ H s -> (∀ b ∈ fp, FpOk X pins H b) -> tn i s.heap -> J.go i H →
    wpAny (model P w) X.A (pyNext (.ref it)) (fun r s1 => ∃ u, r = some u ∧
      wpAny (model P w) X.A (letOwnedTupleGo tg (.ref it) u) (fun _ s2 => ∃ x H', Inv X pins σ H' s2 /\ RelV x u /\ J.yld i H x H' /\ tn (i + 1) s2.heap /\ ∀ b ∈ fp, H' b = none) E s1) E s
  done : ∀ (X : Cx), X.prog = P -> X.w = w -> X.K = K -> X.calm = true -> ∀ (i : Nat) (pins : List (Addr × Obj)) (s : Shared) (σ : St) (H : Hp) (E : Value -> Shared -> Prop), Inv X pins σ H s -> (∀ b ∈ fp, FpOk X pins H b) -> tn i s.heap -> J.stop i H →
    wpAny (model P w) X.A (pyNext (.ref it)) (fun r s1 => r = none /\ Inv X pins σ H s1) E s
  self : ∀ (A : Around) (i : Nat) (s : Shared) (Q : Value -> Shared -> Prop) (E : Value -> Shared -> Prop), tn i s.heap -> Q (.ref it) s -> wpAny (model P w) A (pyIter (.ref it)) Q E s
abbrev TI := St -> Hp -> (It -> Hp -> Prop) -> Prop
def PIE (X : Cx) (pins : List (Addr × Obj)) (σ : St) (tg : Expr) (R : It -> Hp -> Prop) (itv : Value) (s2 : Shared) : Prop :=
  ∃ (it : Addr) (fp : List Addr) (tn : Nat -> Heap -> Prop) (J : It) (H' : Hp), itv = .ref it /\ Inv X pins σ H' s2 /\ Turn X.prog X.w X.K tg J fp it tn /\ tn 0 s2.heap /\ (∀ b ∈ fp, FpOk X pins H' b) /\ R J H'
def PI (X : Cx) (tg iter : Expr) (wi : TI) : Prop :=
  ∀ (pins : List (Addr × Obj)) (s : Shared) (σ : St) (H : Hp) (R : It -> Hp -> Prop), Inv X pins σ H s -> wi σ H R →
    wpAny (model X.prog X.w) X.A (eval iter X.env) (fun v s1 => wpAny (model X.prog X.w) X.A (pyIter v) (PIE X pins σ tg R) X.xe s1) X.xe s
theorem go_of {M : Model} {A : Around} {E : Value -> Shared -> Prop} {s : Shared} {tg : Expr} {it : Addr} {u : Value} {o : Obj} {n : String} {vs : Array Value} {Q : Unit -> Shared -> Prop} (ho : s.heap.get? it = some o) (hc : o.cls = .type n) (hd : o.data = .fields vs)
    (hn : ["enumerate", "zip", "dict_itemiterator", "dict_reverseitemiterator", "odict_iterator", "itertools.zip_longest", "itertools.pairwise"].contains n = false) (hQ : Q () s) : wpAny M A (letOwnedTupleGo tg (.ref it) u) Q E s := by
  unfold letOwnedTupleGo; cases tg <;> first
    | exact wpAny_pure hQ
    | (cases u <;> first
        | exact wpAny_pure hQ
        | (refine wpAny_bind (wpAny_load ho ?_)
           rw [hc, hd]; show wpAny M A (if (["enumerate", "zip", "dict_itemiterator", "dict_reverseitemiterator", "odict_iterator", "itertools.zip_longest", "itertools.pairwise"].contains n && vs[0]? == some (rawInt _)) = true then _ else _) Q E s
           rw [if_neg (by intro h; rw [hn, Bool.false_and] at h; cases h)]
           exact wpAny_pure hQ))
def Itl (K : W.Frag) (a : Addr) : It :=
  ⟨fun i H => ∃ xs x, SqL K H a xs /\ xs[i]? = some x, fun i H x H' => H' = H /\ ∀ xs, SqL K H a xs -> xs[i]? = some x, fun i H => ∃ xs, SqL K H a xs /\ xs.length <= i⟩
def Itr (lo : Int) (n : Nat) : It := ⟨fun i _ => i < n, fun i H x H' => H' = H /\ x = .int (lo + i), fun i _ => n <= i⟩
theorem turn_list {P : Program} {w : World} {K : W.Frag} {tg : Expr} (a it : Addr) : Turn P w K tg (Itl K a) [it] it (fun i h => h.IsListIter it a i) where
  mem := by simp
  obj := fun i h st b hb => by
    have e : b = it := by simpa using hb
    subst e; obtain ⟨o, e, c, d⟩ := st
    exact ⟨o, e, fun v z => by rw [d] at z; cases z⟩
  keep := fun i h h' st k => st.at fun o e => k it (by simp) o e
  item := by
    intro X hP hw hK hc i pins s σ H E I hf st hg; subst hP hw hK; obtain ⟨xs, x, hq, hx⟩ := hg
    obtain ⟨its, rv, p, hz⟩ := I.list hq
    obtain ⟨u, hu, ru⟩ := rv.get hx
    obtain ⟨f0, f1, f2, f3, f4, f5⟩ := hf it (by simp)
    refine wpAny_pyNext_list_item st p.isList (x := u) (by simpa using hu) fun h' st' sb => ?_
    have I1 : Inv X pins σ H { s with heap := h' } := I.turned (t' := s.toks) (fun b o hb e => (sb.2 b hb).trans e) f0 f1 f3 f4 f5
    obtain ⟨o, e, c, d⟩ := id st'
    exact ⟨u, rfl, go_of (s := { s with heap := h' }) e c d (by decide) ⟨x, H, I1, ru, ⟨rfl, fun ys hy => by rw [I.list_inj hy hq]; exact hx⟩, st', fun b hb => (hf b hb).1⟩⟩
  done := by
    intro X hP hw hK hc i pins s σ H E I hf st hg; subst hP hw hK; obtain ⟨xs, hq, hx⟩ := hg
    obtain ⟨its, rv, p, hz⟩ := I.list hq
    obtain ⟨f0, f1, f2, f3, f4, f5⟩ := hf it (by simp)
    have hl := rv.length
    exact wpAny_pyNext_list_end (I.ok.hd hc) st p.isList (by simp; omega) fun h' eb => ⟨rfl, I.turned (t' := s.toks) (fun b o hb e => eb b o hb e) f0 f1 f3 f4 f5⟩
  self := fun _ _ _ _ _ st h => wpAny_pyIter_listiter st h
theorem turn_range {P : Program} {w : World} {K : W.Frag} {tg : Expr} (it : Addr) (lo : Int) (n : Nat) : Turn P w K tg (Itr lo n) [it] it (fun i h => IsRangeIter h it (lo + (i : Nat) * 1) ((n : Int) - (i : Nat)) 1) where
  mem := by simp
  obj := fun i h st b hb => by
    have e : b = it := by simpa using hb
    subst e; exact ⟨_, st, fun v z => by
      have z' : Data.fields _ = Data.cell v := z
      cases z'⟩
  keep := fun i h h' st k => k it (by simp) _ st
  item := by
    intro X hP hw hK hc i pins s σ H E I hf st hg; subst hP hw hK; obtain ⟨f0, f1, f2, f3, f4, f5⟩ := hf it (by simp)
    have W := Walks.range (prog := X.prog) (w := X.w) (I.ok.hd hc) it lo 1 n
    refine W.item i s _ _ hg st fun v h' tk hv st' kk => ?_
    obtain ⟨t, rfl⟩ := hv
    have I1 : Inv X pins σ H { s with heap := h', toks := tk } := I.turned (fun b o hb e => kk b o (by simpa using hb) e) f0 f1 f3 f4 f5
    refine ⟨_, rfl, go_of (s := { s with heap := h', toks := tk }) (n := "range_iterator") st' rfl rfl (by decide) ⟨.int (lo + i), H, I1, ⟨t, ?_⟩, ⟨rfl, rfl⟩, st', fun b hb => (hf b hb).1⟩⟩
    rw [Int.mul_one]
  done := by
    intro X hP hw hK hc i pins s σ H E I hf st hg; subst hP hw hK; obtain ⟨f0, f1, f2, f3, f4, f5⟩ := hf it (by simp)
    exact wpAny_pyNext_range_end (I.ok.hd hc) st (by have : n <= i := hg; omega) fun h' eb => ⟨rfl, I.turned (t' := s.toks) (fun b o hb e => eb b o hb e) f0 f1 f3 f4 f5⟩
  self := fun _ _ _ _ _ st h => wpAny_pyIter_rangeiter st h
end L2
namespace L2
open PySem PySem.Spec PyProof.Rows
section
variable {X : Cx} {tg : Expr}
def iList (K : W.Frag) (tl : TE) : TI := fun σ H R => tl σ H fun x H1 => ∃ a, x = .ref a /\ (∃ xs, SqL K H1 a xs) /\ R (Itl K a) H1
theorem pi_list {l : Expr} {tl : TE} (hl : PE X l tl) : PI X tg l (iList X.K tl) := by
  intro pins s σ H R I h; refine thn (hl pins s σ H _ I h) fun v s1 ⟨x, H1, I1, r1, q1⟩ => ?_
  obtain ⟨a, e, ⟨xs, hq⟩, q⟩ := q1
  subst e; cases r1
  obtain ⟨its, rv, p, hz⟩ := I1.list hq
  refine wpAny_pyIter_list p.isList ?_
  refine ⟨s1.heap.objs.size, [s1.heap.objs.size], _, _, H1, rfl, I1.kept (t' := s1.toks) fun b o e => Zpu _ e, turn_list a _, ⟨_, Heap.get?_push_size _ rfl, rfl, rfl⟩, fun b hb => ?_, q⟩
  have e : b = s1.heap.objs.size := by simpa using hb
  subst e; exact I1.fpOk (Znr _) (I1.hok.fresh (Znr _))
theorem range_it {pins : List (Addr × Obj)} {σ : St} {H : Hp} {s : Shared} {R : It -> Hp -> Prop} {E : Value -> Shared -> Prop} {lo hi : Int} {t u v : Tok} {tk : Nat} (I : Inv X pins σ H s) (h1 : -(2 ^ 62) <= lo) (h2 : lo < 2 ^ 62) (h3 : -(2 ^ 62) <= hi) (h4 : hi < 2 ^ 62)
    (q : R (Itr lo (hi - lo).toNat) H) : wpAny (model X.prog X.w) X.A (pyIter (.ref s.heap.objs.size)) (PIE X pins σ tg R) E { s with heap := s.heap.push { cls := .type "range", data := .fields #[.int lo t, .int hi u, .int 1 v] }, toks := tk } := by
  refine wpAny_pyIter_range (IsRange.new ..) (small_one h1 h2 h3 h4) ?_
  have I1 : Inv X pins σ H { s with heap := s.heap.push { cls := .type "range", data := .fields #[.int lo t, .int hi u, .int 1 v] }, toks := tk } := I.kept fun b o e => Zpu _ e
  refine ⟨(s.heap.push { cls := .type "range", data := .fields #[.int lo t, .int hi u, .int 1 v] }).objs.size, [(s.heap.push { cls := .type "range", data := .fields #[.int lo t, .int hi u, .int 1 v] }).objs.size], _, _, H, rfl,
    I1.kept (t' := tk) fun b o e => Zpu _ e, turn_range _ lo (hi - lo).toNat, ?_, fun b hb => ?_, q⟩
  . have e1 : lo + ((0 : Nat) : Int) * 1 = lo := by simp
    have e2 : (((hi - lo).toNat : Nat) : Int) - ((0 : Nat) : Int) = Builtin.Range.rangeSize lo hi 1 := by rw [rangeSize_one]; split <;> omega
    show IsRangeIter _ _ (lo + ((0 : Nat) : Int) * 1) ((((hi - lo).toNat : Nat) : Int) - ((0 : Nat) : Int)) 1
    rw [e1, e2]; exact Heap.get?_push_size _ rfl
  . have e : b = (s.heap.push { cls := .type "range", data := .fields #[.int lo t, .int hi u, .int 1 v] }).objs.size := by simpa using hb
    subst e; exact I1.fpOk (Znr _) (I1.hok.fresh (Znr _))
def iRng1 (ta : TA) : TI := fun σ H R => ta σ H fun vs H1 => ∃ j : Int, vs = [.int j] /\ -(2 ^ 62) <= j /\ j < 2 ^ 62 /\ R (Itr 0 j.toNat) H1
theorem pi_range1 {a : Expr} {ta : TA} {p pos : Pos} (hg : Gl X "range") (hm : X.mg "range" = none) (ha : PA X [a] ta) (hs : starEach [a] X.env = [(false, eval a X.env)] := by rfl) : PI X tg (.Call (.Name "range" p) [a] [] pos) (iRng1 ta) := by
  intro pins s σ H R I h; refine Call_ (ld_blt I hg hm boot_range (PyProof.Rows.callWith_type1 (thn (ha pos pins s σ H _ I h) fun us s1 ⟨vs, H1, I1, r1, q1⟩ => ?_) hs rfl))
  obtain ⟨j, e, q1, q2, q⟩ := q1
  subst e; cases r1 with
  | cons r rr =>
    cases rr
    obtain ⟨t, rfl⟩ := r
    exact call_range_1 (range_it I1 (by omega) (by omega) q1 q2 (by simpa using q))
def tFor (wi : TI) (g : TG) (tb : TS) : TS := fun D σ H => wi σ H fun J H1 => ∃ W : Nat -> Nat -> St -> Hp -> Prop, (∃ m, W 0 m σ H1) /\ ∀ i m σ H, W i m σ H →
  (J.stop i H /\ D.nx σ H) ∨ (J.go i H /\ ∃ N : St -> Hp -> Prop, (∀ σ' H', N σ' H' -> ∃ m', m' < m /\ W (i + 1) m' σ' H') /\ ∀ x H', J.yld i H x H' -> g x σ H' fun σ2 H2 => tb { D with nx := N, ct := N, bk := D.nx } σ2 H2)
def pinsAt (fp : List Addr) (h : Heap) : List (Addr × Obj) := fp.filterMap fun b => (h.get? b).map fun o => (b, o)
theorem mem_pinsAt {fp : List Addr} {h : Heap} {b : Addr} {o : Obj} (hb : b ∈ fp) (e : h.get? b = some o) : (b, o) ∈ pinsAt fp h := List.mem_filterMap.mpr ⟨b, hb, by rw [e]; rfl⟩
theorem of_pinsAt {fp : List Addr} {h : Heap} {p : Addr × Obj} (hp : p ∈ pinsAt fp h) : p.1 ∈ fp /\ h.get? p.1 = some p.2 := by
  obtain ⟨b, hb, e⟩ := List.mem_filterMap.mp hp
  cases q : h.get? b with
  | none => rw [q] at e; cases e
  | some o =>
    rw [q] at e; have e' : (b, o) = p := Option.some.inj e
    subst e'; exact ⟨hb, q⟩
theorem Inv.pinned {pins : List (Addr × Obj)} {σ : St} {H : Hp} {s : Shared} {fp : List Addr} (I : Inv X pins σ H s) (hf : ∀ b ∈ fp, FpOk X pins H b) (ho : ∀ b ∈ fp, ∃ o, s.heap.get? b = some o /\ ∀ v, o.data ≠ .cell v) : Inv X (pins ++ pinsAt fp s.heap) σ H s :=
  I.pins_of fun p hp => (Zma.mp hp).elim (fun z => I.pin p (List.mem_append_right _ z)) fun z => by
    obtain ⟨hb, e⟩ := of_pinsAt z
    obtain ⟨f0, f1, f2, _⟩ := hf p.1 hb
    obtain ⟨o, e', d⟩ := ho p.1 hb
    rw [e] at e'; cases e'
    exact ⟨e, f0, f1, f2, d⟩
theorem Inv.unpinned {pins pl : List (Addr × Obj)} {σ : St} {H : Hp} {s : Shared} (I : Inv X (pins ++ pl) σ H s) : Inv X pins σ H s := I.pins_of fun p hp => I.pin p (List.mem_append_right _ (List.mem_append_left _ hp))
theorem ps_for {iter : Expr} {body : List Stmt} {wi : TI} {g : TG} {tb : TS} {pos : Pos} (hp : PassesOwn (model X.prog X.w) X.A X.env X.xe) (hc : X.calm = true) (hi : PI X tg iter wi) (hg : PG X tg g) (hb : PSs X body tb)
    (hs : ∀ x, foldedSetIterable iter X.env x = pure x := by intro _; rfl) : PS X (.For tg iter body [] pos) (tFor wi g tb) := by
  intro pins s σ H D I h; refine wpAny_For (thn (hi pins s σ H _ I h) fun v s1 h1 => thn h1 fun itv s2 h2 => ?_) hs
  obtain ⟨it, fp, tn, J, H2, e, I2, T, st2, f2, W, ⟨m0, w0⟩, turn⟩ := h2
  subst e; have stat : ∀ {H' : Hp}, (∀ b ∈ fp, H' b = none) -> ∀ b ∈ fp, FpOk X pins H' b := fun hn b hb => ⟨hn b hb, (f2 b hb).2⟩
  refine codeAny_forLoop_any (fun n s' => ∃ i σ' H', Inv X pins σ' H' s' /\ tn i s'.heap /\ (∀ b ∈ fp, H' b = none) /\ W i n σ' H') ?_ m0 ⟨0, σ, H2, I2, st2, fun b hb => (f2 b hb).1, w0⟩
  rintro n s3 ⟨i, σ3, H3, I3, st3, fr3, w3⟩
  rcases turn i n σ3 H3 w3 with ⟨stop, qn⟩ | ⟨go, N, hN, step⟩
  . refine wpAny_passesOwn hp (thn (T.done X rfl rfl rfl hc i pins s3 σ3 H3 X.xe I3 (stat fr3) st3 stop) fun r s4 ⟨hr, I4⟩ => ?_)
    subst hr; exact wpAny_execs_nil ⟨σ3, H3, I4, qn⟩
  . refine wpAny_passesOwn hp (thn (T.item X rfl rfl rfl hc i pins s3 σ3 H3 X.xe I3 (stat fr3) st3 go) fun r s4 ⟨u, hr, h4⟩ => ?_)
    subst hr; refine wpAny_passesOwn hp (thn h4 fun _ s5 ⟨x, H5, I5, r5, y5, st5, fr5⟩ => ?_)
    have I5' := I5.pinned (stat fr5) (T.obj _ _ st5)
    refine wpAny_passesOwn hp (thn (hg _ s5 σ3 H5 x u _ I5' r5 (step x H5 y5)) fun _ s6 ⟨σ6, H6, I6, q6⟩ => ?_)
    refine wpAny_passesOwn hp (thn (hb _ s6 σ6 H6 _ I6 q6) fun f s7 q7 => ?_)
    have again : ∀ {σ7 : St} {H7 : Hp}, Inv X (pins ++ pinsAt fp s5.heap) σ7 H7 s7 -> N σ7 H7 -> ∃ m, m < n /\ ∃ i σ' H', Inv X pins σ' H' s7 /\ tn i s7.heap /\ (∀ b ∈ fp, H' b = none) /\ W i m σ' H' := fun {σ7 H7} I7 n7 => by
      obtain ⟨m', hm, w7⟩ := hN σ7 H7 n7
      refine ⟨m', hm, i + 1, σ7, H7, I7.unpinned, T.keep _ _ _ st5 fun b hb o e => (I7.pin (b, o) (List.mem_append_right _ (List.mem_append_right _ (mem_pinsAt hb e)))).1, fun b hb => ?_, w7⟩
      obtain ⟨o, e, d⟩ := T.obj _ _ st5 b hb
      exact (I7.pin (b, o) (List.mem_append_right _ (List.mem_append_right _ (mem_pinsAt hb e)))).2.1
    cases f with
    | next => obtain ⟨σ7, H7, I7, n7⟩ := q7; exact again I7 n7
    | cont => obtain ⟨σ7, H7, I7, n7⟩ := q7; exact again I7 n7
    | brk => obtain ⟨σ7, H7, I7, q7⟩ := q7; exact ⟨σ7, H7, I7.unpinned, q7⟩
    | ret v => obtain ⟨x7, σ7, H7, I7, r7, q7⟩ := q7; exact ⟨x7, σ7, H7, I7.unpinned, r7, q7⟩
end
end L2
namespace L2
open PySem PySem.Spec PyProof.Rows
abbrev R2 := V -> V -> Hp -> VK -> Prop
def OpR (X : Cx) (f : Value -> Value -> Sem Value) (r : R2) : Prop :=
  ∀ (pins : List (Addr × Obj)) (s : Shared) (σ : St) (H : Hp) (x y : V) (v u : Value) (Q : VK), Inv X pins σ H s -> RelV x v -> RelV y u -> r x y H Q →
    wpAny (model X.prog X.w) X.A (f v u) (EP X pins σ Q) X.xe s
def CallR (X : Cx) (f : Value) (r : List V -> Hp -> VK -> Prop) : Prop :=
  ∀ (pins : List (Addr × Obj)) (s : Shared) (σ : St) (H : Hp) (xs : List V) (us : List Value) (Q : VK), Inv X pins σ H s -> Vals xs us -> r xs H Q →
    wpAny (model X.prog X.w) X.A (call f us) (EP X pins σ Q) X.xe s
def tOp (r : R2) (ta tb : TE) : TE := fun σ H Q => ta σ H fun x H1 => tb σ H1 fun y H2 => r x y H2 Q
def rI (C : Int -> Int -> Prop) (g : Int -> Int -> V) : R2 := fun x y H Q => ∃ i j, x = .int i /\ y = .int j /\ C i j /\ Q (g i j) H
def rI0 (g : Int -> Int -> V) : R2 := fun x y H Q => ∃ i j, x = .int i /\ y = .int j /\ Q (g i j) H
section
variable {X : Cx} {a b c : Expr} {ta tb tc : TE} {pos : Pos}
theorem binT (ha : PE X a ta) (hb : PE X b tb) {pins : List (Addr × Obj)} {s : Shared} {σ : St} {H : Hp} {R : V -> V -> Hp -> Prop} (I : Inv X pins σ H s)
    (h : ta σ H fun x H1 => tb σ H1 fun y H2 => R x y H2) {Q : Value -> Shared -> Prop} {f : Value -> Value -> Sem Value}
    (hf : ∀ v u s2 x y H2, Inv X pins σ H2 s2 -> RelV x v -> RelV y u -> R x y H2 -> wpAny (model X.prog X.w) X.A (f v u) Q X.xe s2) :
    wpAny (model X.prog X.w) X.A (eval a X.env) (fun v s₁ => wpAny (model X.prog X.w) X.A (eval b X.env) (fun u s₂ => wpAny (model X.prog X.w) X.A (f v u) Q X.xe s₂) X.xe s₁) X.xe s := by
  refine thn (ha pins s σ H _ I h) fun v s1 ⟨x, H1, I1, r1, q1⟩ => ?_
  refine thn (hb pins s1 σ H1 _ I1 q1) fun u s2 ⟨y, H2, I2, r2, q2⟩ => ?_
  exact hf v u s2 x y H2 I2 r1 r2 q2
theorem pe_op {op : Operator} {r : R2} (ho : OpR X (binaryOp op) r) (ha : PE X a ta) (hb : PE X b tb) : PE X (.BinOp a op b pos) (tOp r ta tb) := by
  intro pins s σ H Q I h; exact wpAny_BinOp (binT ha hb I h fun v u s2 x y H2 I2 rx ry q => ho pins s2 σ H2 x y v u Q I2 rx ry q)
theorem opI {f : Value -> Value -> Sem Value} {C : Int -> Int -> Prop} {g : Int -> Int -> Int}
    (rule : ∀ (i j : Int) (t u : Tok) (s : Shared) (Q : Value -> Shared -> Prop) (E : Value -> Shared -> Prop), C i j -> Q (.int (g i j) s.toks) { s with toks := s.toks + 1 } -> wpAny (model X.prog X.w) X.A (f (.int i t) (.int j u)) Q E s) :
    OpR X f (rI C fun i j => .int (g i j)) := by
  intro pins s σ H x y v u Q I rx ry h; obtain ⟨i, j, rfl, rfl, hc, q⟩ := h
  obtain ⟨t, rfl⟩ := rx
  obtain ⟨t', rfl⟩ := ry
  exact rule i j t t' s _ _ hc ⟨.int (g i j), H, I.tok _, ⟨_, rfl⟩, q⟩
theorem opI0 {f : Value -> Value -> Sem Value} {g : Int -> Int -> Int}
    (rule : ∀ (i j : Int) (t u : Tok) (s : Shared) (Q : Value -> Shared -> Prop) (E : Value -> Shared -> Prop), Q (.int (g i j) s.toks) { s with toks := s.toks + 1 } -> wpAny (model X.prog X.w) X.A (f (.int i t) (.int j u)) Q E s) :
    OpR X f (rI0 fun i j => .int (g i j)) := by
  intro pins s σ H x y v u Q I rx ry h; obtain ⟨i, j, rfl, rfl, q⟩ := h
  obtain ⟨t, rfl⟩ := rx
  obtain ⟨t', rfl⟩ := ry
  exact rule i j t t' s _ _ ⟨.int (g i j), H, I.tok _, ⟨_, rfl⟩, q⟩
theorem opB0 {f : Value -> Value -> Sem Value} {g : Int -> Int -> Bool}
    (rule : ∀ (i j : Int) (t u : Tok) (s : Shared) (Q : Value -> Shared -> Prop) (E : Value -> Shared -> Prop), Q (.bool (g i j)) s -> wpAny (model X.prog X.w) X.A (f (.int i t) (.int j u)) Q E s) :
    OpR X f (rI0 fun i j => .bl (g i j)) := by
  intro pins s σ H x y v u Q I rx ry h; obtain ⟨i, j, rfl, rfl, q⟩ := h
  obtain ⟨t, rfl⟩ := rx
  obtain ⟨t', rfl⟩ := ry
  exact rule i j t t' s _ _ ⟨.bl (g i j), H, I, rfl, q⟩
def CDiv (i j : Int) : Prop := 0 < j /\ j < 1073741824
def CPow (i j : Int) : Prop := 0 <= j /\ j <= 1000000 /\ i.natAbs < 2 ^ 64
def CMul (i j : Int) : Prop := (-(2 ^ 64) < i /\ i < 2 ^ 64) ∨ (-(2 ^ 64) < j /\ j < 2 ^ 64)
theorem CMul.ok {i j : Int} (h : CMul i j) : IntMulOk i j := by
  rcases h with ⟨h1, h2⟩ | ⟨h1, h2⟩
  . exact .of_left (intBits_le_64 h1 h2)
  . exact .of_right (intBits_le_64 h1 h2)
theorem op_add : OpR X (binaryOp .Add) (rI0 fun i j => .int (i + j)) := opI0 fun _ _ _ _ _ _ _ q => add_int q
theorem op_mul : OpR X (binaryOp .Mult) (rI CMul fun i j => .int (i * j)) := opI fun _ _ _ _ _ _ _ hc q => mul_int q hc.ok
theorem op_fdiv : OpR X (binaryOp .FloorDiv) (rI CDiv fun i j => .int (i / j)) := opI fun i j _ _ _ _ _ hc q => by
  have h1 : (0 : Int) < j := hc.1
  have h2 : j < 1073741824 := hc.2
  exact floordiv_int (by omega) (by rw [Int.fdiv_eq_ediv_of_nonneg i (by omega)]; exact q) (.inl (PyProof.noPylong_small (by omega)))
theorem op_mod : OpR X (binaryOp .Mod) (rI (fun _ j => 0 < j) fun i j => .int (i % j)) := opI fun i j _ _ _ _ _ hc q => by
  have h1 : (0 : Int) < j := hc
  exact mod_int' (by omega) (by rw [Int.fmod_eq_emod_of_nonneg i (by omega)]; exact q)
theorem op_pow : OpR X (binaryOp .Pow) (rI CPow fun i j => .int (i ^ j.toNat)) := opI fun _ _ _ _ _ _ _ hc q => pow_int_small hc.1 hc.2.1 hc.2.2 q
end
def scal : V -> V -> Bool
  | .non, .non => true | .non, .int _ => true | .int _, .non => true | .non, .bl _ => true | .bl _, .non => true | .non, .str _ => true | .str _, .non => true
  | .int _, .int _ => true | .bl _, .bl _ => true | .str _, .str _ => true | .byt _, .byt _ => true
  | .int _, .str _ => true | .str _, .int _ => true | .bl _, .str _ => true | .str _, .bl _ => true
  | _, _ => false
def rEq : R2 := fun x y H Q => scal x y = true /\ Q (.bl (decide (x = y))) H
def rNe : R2 := fun x y H Q => scal x y = true /\ Q (.bl (!decide (x = y))) H
theorem dec_int {i j : Int} : decide (V.int i = V.int j) = (i == j) := by
  rw [Bool.eq_iff_iff]; simp
theorem dec_bl {i j : Bool} : decide (V.bl i = V.bl j) = (i == j) := by
  rw [Bool.eq_iff_iff]; simp
theorem dec_str {i j : Str} : decide (V.str i = V.str j) = (i == j) := by
  rw [Bool.eq_iff_iff]; simp
theorem dec_byt {i j : Array UInt8} : decide (V.byt i = V.byt j) = (i.toList == j.toList) := by
  rw [Bool.eq_iff_iff]; cases i
  cases j
  simp
section
variable {X : Cx} {a b c : Expr} {ta tb tc : TE} {pos : Pos}
theorem fin_bl {pins : List (Addr × Obj)} {σ : St} {H : Hp} {s : Shared} {Q : VK} {k k' : Bool} (I : Inv X pins σ H s) (q : Q (.bl k) H) (e : k = k') : EP X pins σ Q (.bool k') s := by
  subst e; exact ⟨.bl k, H, I, rfl, q⟩
theorem op_eq : OpR X (compareOp .Eq) rEq := by
  intro pins s σ H x y v u Q I rx ry h; obtain ⟨hs, q⟩ := h
  cases x with
  | non =>
    cases rx
    cases y with
    | non => cases ry; exact PySem.EqNone.eq_none_none (fin_bl I q (by simp))
    | bl j => cases ry; exact PySem.EqNone.eq_none_bool (fin_bl I q (by simp))
    | int j => obtain ⟨t', rfl⟩ := ry; exact PySem.EqNone.eq_none_int (fin_bl I q (by simp))
    | str j => obtain ⟨t', rfl⟩ := ry; exact PySem.EqNone.eq_none_str (fin_bl I q (by simp))
    | _ => exact absurd (show false = true from hs) Bool.false_ne_true
  | bl i =>
    cases rx
    cases y with
    | non => cases ry; exact PySem.EqNone.eq_bool_none (fin_bl I q (by simp))
    | bl j => cases ry; exact eq_bool (fin_bl I q dec_bl)
    | str j => obtain ⟨t', rfl⟩ := ry; exact PySem.EqMixed.eq_bool_str (fin_bl I q (by simp))
    | _ => exact absurd (show false = true from hs) Bool.false_ne_true
  | int i =>
    obtain ⟨t, rfl⟩ := rx
    cases y with
    | non => cases ry; exact PySem.EqNone.eq_int_none (fin_bl I q (by simp))
    | int j => obtain ⟨t', rfl⟩ := ry; exact eq_int (fin_bl I q dec_int)
    | str j => obtain ⟨t', rfl⟩ := ry; exact PySem.EqMixed.eq_int_str (fin_bl I q (by simp))
    | _ => exact absurd (show false = true from hs) Bool.false_ne_true
  | str i =>
    obtain ⟨t, rfl⟩ := rx
    cases y with
    | non => cases ry; exact PySem.EqNone.eq_str_none (fin_bl I q (by simp))
    | bl j => cases ry; exact PySem.EqMixed.eq_str_bool (fin_bl I q (by simp))
    | int j => obtain ⟨t', rfl⟩ := ry; exact PySem.EqMixed.eq_str_int (fin_bl I q (by simp))
    | str j => obtain ⟨t', rfl⟩ := ry; exact eq_str (fin_bl I q dec_str)
    | _ => exact absurd (show false = true from hs) Bool.false_ne_true
  | byt i =>
    obtain ⟨t, rfl⟩ := rx
    cases y with
    | byt j => obtain ⟨t', rfl⟩ := ry; exact W.eq_bytes (fin_bl I q dec_byt)
    | _ => exact absurd (show false = true from hs) Bool.false_ne_true
  | _ => cases y <;> exact absurd (show false = true from hs) Bool.false_ne_true
theorem op_ne : OpR X (compareOp .NotEq) rNe := by
  intro pins s σ H x y v u Q I rx ry h; obtain ⟨hs, q⟩ := h
  cases x with
  | non =>
    cases rx
    cases y with
    | non => cases ry; exact PySem.EqNone.ne_none_none (fin_bl I q (by simp))
    | bl j => cases ry; exact PySem.EqNone.ne_none_bool (fin_bl I q (by simp))
    | int j => obtain ⟨t', rfl⟩ := ry; exact PySem.EqNone.ne_none_int (fin_bl I q (by simp))
    | str j => obtain ⟨t', rfl⟩ := ry; exact PySem.EqNone.ne_none_str (fin_bl I q (by simp))
    | _ => exact absurd (show false = true from hs) Bool.false_ne_true
  | bl i =>
    cases rx
    cases y with
    | non => cases ry; exact PySem.EqNone.ne_bool_none (fin_bl I q (by simp))
    | bl j => cases ry; exact ne_bool (fin_bl I q (congrArg not dec_bl))
    | str j => obtain ⟨t', rfl⟩ := ry; exact PySem.EqMixed.ne_bool_str (fin_bl I q (by simp))
    | _ => exact absurd (show false = true from hs) Bool.false_ne_true
  | int i =>
    obtain ⟨t, rfl⟩ := rx
    cases y with
    | non => cases ry; exact PySem.EqNone.ne_int_none (fin_bl I q (by simp))
    | int j => obtain ⟨t', rfl⟩ := ry; exact ne_int (fin_bl I q (congrArg not dec_int))
    | str j => obtain ⟨t', rfl⟩ := ry; exact PySem.EqMixed.ne_int_str (fin_bl I q (by simp))
    | _ => exact absurd (show false = true from hs) Bool.false_ne_true
  | str i =>
    obtain ⟨t, rfl⟩ := rx
    cases y with
    | non => cases ry; exact PySem.EqNone.ne_str_none (fin_bl I q (by simp))
    | bl j => cases ry; exact PySem.EqMixed.ne_str_bool (fin_bl I q (by simp))
    | int j => obtain ⟨t', rfl⟩ := ry; exact PySem.EqMixed.ne_str_int (fin_bl I q (by simp))
    | str j => obtain ⟨t', rfl⟩ := ry; exact ne_str (fin_bl I q (congrArg not dec_str))
    | _ => exact absurd (show false = true from hs) Bool.false_ne_true
  | byt i =>
    obtain ⟨t, rfl⟩ := rx
    cases y with
    | byt j => obtain ⟨t', rfl⟩ := ry; exact W.ne_bytes (fin_bl I q (congrArg not dec_byt))
    | _ => exact absurd (show false = true from hs) Bool.false_ne_true
  | _ => cases y <;> exact absurd (show false = true from hs) Bool.false_ne_true
theorem op_lt : OpR X (compareOp .Lt) (rI0 fun i j => .bl (decide (i < j))) := opB0 fun _ _ _ _ _ _ _ q => lt_int q
theorem op_gt : OpR X (compareOp .Gt) (rI0 fun i j => .bl (decide (j < i))) := opB0 fun _ _ _ _ _ _ _ q => gt_int q
theorem op_ge : OpR X (compareOp .GtE) (rI0 fun i j => .bl (decide (j <= i))) := opB0 fun _ _ _ _ _ _ _ q => ge_int q
theorem nomark (b : Expr) {op : CmpOp} (h : op ≠ .In := by decide) (h2 : op ≠ .NotIn := by decide) : behindInMarks op b = false := by
  have e1 : (op == CmpOp.In) = false := by cases op <;> first | rfl | exact absurd rfl h
  have e2 : (op == CmpOp.NotIn) = false := by cases op <;> first | rfl | exact absurd rfl h2
  cases b <;> simp [behindInMarks, e1, e2]
theorem pe_cmpR {op : CmpOp} {r : R2} (ho : OpR X (compareOp op) r) (ha : PE X a ta) (hb : PE X b tb) (hm : behindInMarks op b = false) : PE X (.Compare a [op] [b] pos) (tOp r ta tb) := by
  intro pins s σ H Q I h; exact wpAny_Compare1 (binT ha hb I h fun v u s2 x y H2 I2 rx ry q => ho pins s2 σ H2 x y v u Q I2 rx ry q) hm
def tTest (t : TE) : TT := fun σ H Q => t σ H fun x H' => ∃ k, x = .bl k /\ Q k H'
theorem pt_cmpR {op : CmpOp} {r : R2} (ho : OpR X (compareOp op) r) (ha : PE X a ta) (hb : PE X b tb) (hm : behindInMarks op b = false) : PT X (.Compare a [op] [b] pos) (tTest (tOp r ta tb)) := by
  intro pins s σ H Q I h; refine wpAny_isTrue_Compare1 (thn (ha pins s σ H _ I h) fun v s1 ⟨x, H1, I1, r1, q1⟩ => thn (hb pins s1 σ H1 _ I1 q1) fun u s2 ⟨y, H2, I2, r2, q2⟩ =>
    thn (ho pins s2 σ H2 x y v u _ I2 r1 r2 q2) fun c s3 ⟨z, H3, I3, r3, k, e, q3⟩ => ?_) hm
  subst e; cases r3
  exact wpAny_truthy_bool ⟨H3, I3, q3⟩
theorem line63 : (sizeLine : Nat) < 2 ^ 63 := by rw [sizeLine_eq]; decide
theorem op_add_str : OpR X (binaryOp .Add) (fun x y H Q => ∃ i j, x = .str i /\ y = .str j /\ i.length + j.length <= sizeLine /\ Q (.str (i ++ j)) H) := by
  intro pins s σ H x y v u Q I rx ry h; obtain ⟨i, j, rfl, rfl, hz, q⟩ := h
  obtain ⟨t, rfl⟩ := rx
  obtain ⟨t', rfl⟩ := ry
  exact add_str (fun t' tk => ⟨.str (i ++ j), H, I.tok _, ⟨_, rfl⟩, q⟩) hz
theorem vals1 {x : V} {us : List Value} (r : Vals [x] us) : ∃ u, us = [u] /\ RelV x u := by
  cases r with
  | cons r1 r2 => cases r2; exact ⟨_, rfl, r1⟩
theorem vals2 {x y : V} {us : List Value} (r : Vals [x, y] us) : ∃ u w', us = [u, w'] /\ RelV x u /\ RelV y w' := by
  cases r with
  | cons r1 r2 =>
    cases r2 with
    | cons r3 r4 => cases r4; exact ⟨_, _, rfl, r1, r3⟩
theorem call_max2 (hc : X.calm = true) : CallR X (.builtin "max") (fun xs H Q => ∃ i j, xs = [.int i, .int j] /\ Q (.int (if j > i then j else i)) H) := by
  intro pins s σ H xs us Q I r h; obtain ⟨i, j, rfl, q⟩ := h
  obtain ⟨u, w', rfl, ⟨t, rfl⟩, ⟨t', rfl⟩⟩ := vals2 r
  refine max_two_ints (I.ok.hd hc) fun h' tk k => ⟨_, H, I.kept k, ?_, q⟩
  by_cases hj : j > i
  . rw [if_pos hj, if_pos hj]; exact ⟨_, rfl⟩
  . rw [if_neg hj, if_neg hj]; exact ⟨_, rfl⟩
theorem call_min2 (hc : X.calm = true) : CallR X (.builtin "min") (fun xs H Q => ∃ i j, xs = [.int i, .int j] /\ Q (.int (if j < i then j else i)) H) := by
  intro pins s σ H xs us Q I r h; obtain ⟨i, j, rfl, q⟩ := h
  obtain ⟨u, w', rfl, ⟨t, rfl⟩, ⟨t', rfl⟩⟩ := vals2 r
  refine min_two_ints (I.ok.hd hc) fun h' tk k => ⟨_, H, I.kept k, ?_, q⟩
  by_cases hj : j < i
  . rw [if_pos hj, if_pos hj]; exact ⟨_, rfl⟩
  . rw [if_neg hj, if_neg hj]; exact ⟨_, rfl⟩
theorem call_str_int : CallR X (.type "str") (fun xs H Q => ∃ i, xs = [.int i] /\ i.natAbs.log2 < 1920 /\ Q (.str (toString i)) H) := by
  intro pins s σ H xs us Q I r h; obtain ⟨i, rfl, hz, q⟩ := h
  obtain ⟨u, rfl, t, rfl⟩ := vals1 r
  exact PySem.P.str_of_int hz ⟨.str _, H, I.tok _, ⟨_, rfl⟩, q⟩
end
end L2
namespace L2
open PySem PySem.Spec PyProof.Rows
structure ObjM (h : Heap) (x dx C : Addr) (mA : Str -> Option Value) : Prop where
  obj : h.get? x = some (W.instObj C dx)
  ns : h.Ns1 dx mA
  ne : dx ≠ x
theorem lookIn_ns {h : Heap} {dx : Addr} {mA : Str -> Option Value} (n : h.Ns1 dx mA) : ∃ od, h.get? dx = some od /\ ∀ name, W.lookIn name od = some (mA name) := by
  obtain ⟨o, es, ep, ho, hd, hk, _, hm⟩ := n
  refine ⟨o, ho, fun name => ?_⟩
  have e := hm name
  unfold nsFind findBy at e; rw [<- Array.find?_toList] at e; unfold W.lookIn; rw [hd]; dsimp only; split
  . rename_i y q
    rw [q] at e; exact congrArg some e
  . rename_i q
    rw [q] at e; have a : es.toList.any (·.refKey) = false := by
      rw [List.any_eq_false]; intro y hy; obtain ⟨z, t, hkey⟩ := hk y (Array.mem_toList_iff.mp hy)
      simp [DictEntry.refKey, hkey]
    have a' : ¬ es.toList.any (·.refKey) = true := by rw [a]; exact Bool.false_ne_true
    rw [if_neg a']; exact congrArg some e
theorem ObjM.look {h : Heap} {x dx C : Addr} {mA : Str -> Option Value} (I : ObjM h x dx C mA) : ∃ od, W.InstAt h x (W.instObj C dx) C (some od) /\ ∀ name, W.lookIn name od = some (mA name) :=
  let ⟨od, ho, hl⟩ := lookIn_ns I.ns
  ⟨od, ⟨I.obj, rfl, rfl, ho⟩, hl⟩
section
variable {P : Program} {w : World} {H H' : Hp} {h h' : Heap} {a C dx : Addr} {fs fs' : List (Str × V)}
theorem ins_get (hok : HOk P w H h) (e : H a = some (.ins C dx fs)) : ∃ mA, ObjM h a dx C mA /\ (∀ f, RelO (fs.lookup f) (mA f)) /\ PySem.Within mA (fs.map (·.1)) /\ fs.length <= 1000 /\ H dx = some (.own a) := by
  obtain ⟨d, z, ne, ob, mA, n, r, q⟩ := (show ObjOk P w H h a (.ins C dx fs) from hok a _ e)
  exact ⟨mA, ⟨ob, n, ne⟩, r, q, z, d⟩
end
structure Cls (K : W.Frag) (C : Addr) : Prop where
  pg : W.plainGet K C Str.empty = true
  hd : W.hasDictIn K C = true
  po : W.plainOver K C = true
  sa : W.findIn K (.ref C) "__setattr__" = some (some (.builtin "object.__setattr__"))
theorem Cls.get {K : W.Frag} {C : Addr} (c : Cls K C) (f : Str) : W.plainGet K C f = true := c.pg
section
variable {X : Cx} {pins : List (Addr × Obj)} {σ : St} {H : Hp} {s : Shared} {A : Around} {E : Value -> Shared -> Prop} {Q : Value -> Shared -> Prop} {c : Value} {b : Bool}
inductive TyOf (K : W.Frag) (H : Hp) : V -> Value -> Prop where
  | non : TyOf K H .non (.type "NoneType")
  | bl (x : Bool) : TyOf K H (.bl x) (.type "bool")
  | int (i : Int) : TyOf K H (.int i) (.type "int")
  | str (x : Str) : TyOf K H (.str x) (.type "str")
  | flt (x : UInt64) : TyOf K H (.flt x) (.type "float")
  | lst {a : Addr} {xs : List V} (e : H a = some (.lst xs)) : TyOf K H (.ref a) (.type "list")
  | frz {a : Addr} {o : Obj} {xs : List V} (e : H a = some (.frz o (.lst xs))) : TyOf K H (.ref a) (.type "list")
  | tup {a : Addr} {xs : List V} (e : H a = some (.tup xs)) : TyOf K H (.ref a) (.type "tuple")
  | dK {a : Addr} {kvs : List (Key × V)} (e : H a = some (.dK kvs)) : TyOf K H (.ref a) (.type "dict")
  | dT {a : Addr} {kvs : List (List Key × V)} (e : H a = some (.dT kvs)) : TyOf K H (.ref a) (.type "dict")
  | ins {a C dx : Addr} {fs : List (Str × V)} (e : H a = some (.ins C dx fs)) (cl : Cls K C) (ha : W.findIn K (.ref C) "__class__" = some (some (.builtin "object.__class__")))
      (hn : W.specialIn K (.builtin "object.__class__") "__get__" = some (some (.builtin "getset_descriptor.__get__"))) (htk : W.takesIn K (.builtin "object.__class__") = some true)
      (hm : W.mroIn K C (.type "object") = some true) : TyOf K H (.ref a) (.ref C)
theorem isinst_ok {x : V} {u t : Value} (I : Inv X pins σ H s) (rx : RelV x u) (ty : TyOf X.K H x t) (e : W.kitOne X.K t c = some b) (h : ∀ tk, Q (.bool b) { s with toks := tk }) :
    wpAny (model X.prog X.w) A (call (.builtin "isinstance") [u, c]) Q E s := by
  cases ty with
  | non => cases (show u = Value.none from rx); exact W.kia_one W.kitx_none I.kIn True.intro e (fun z => nomatch z) h
  | bl y => cases (show u = Value.bool y from rx); exact W.kia_one W.kitx_bool I.kIn True.intro e (fun z => nomatch z) h
  | int i => obtain ⟨t, q⟩ := (show ∃ t, u = Value.int i t from rx); cases q; exact W.kia_one W.kitx_int I.kIn True.intro e (fun z => nomatch z) h
  | str y => obtain ⟨t, q⟩ := (show ∃ t, u = Value.str y t from rx); cases q; exact W.kia_one W.kitx_str I.kIn True.intro e (fun z => nomatch z) h
  | flt y => obtain ⟨t, q⟩ := (show ∃ t, u = Value.float y t from rx); cases q; exact W.kia_one W.kitx_float I.kIn True.intro e (fun z => nomatch z) h
  | @lst a xs ea =>
    cases (show u = Value.ref a from rx)
    obtain ⟨_, _, n, _, h1⟩ := (show ObjOk X.prog X.w H s.heap a (.lst xs) from I.hok a _ ea)
    exact W.kia_one W.kitx_list I.kIn ⟨_, h1, rfl⟩ e (fun z => nomatch z) h
  | @frz a ob xs ea =>
    cases (show u = Value.ref a from rx)
    obtain ⟨_, _, _, n, _, h1⟩ := (show ObjOk X.prog X.w H s.heap a (.frz ob (.lst xs)) from I.hok a _ ea)
    exact W.kia_one W.kitx_list I.kIn ⟨_, h1, rfl⟩ e (fun z => nomatch z) h
  | @tup a xs ea =>
    cases (show u = Value.ref a from rx)
    obtain ⟨_, _, _, p⟩ := (show ObjOk X.prog X.w H s.heap a (.tup xs) from I.hok a _ ea)
    obtain ⟨o, h1, h2, _⟩ := p
    exact W.kia_one W.kitx_tuple I.kIn ⟨o, h1, h2⟩ e (fun z => nomatch z) h
  | @dK a kvs ea =>
    cases (show u = Value.ref a from rx)
    obtain ⟨_, _, vs, _, p⟩ := (show ObjOk X.prog X.w H s.heap a (.dK kvs) from I.hok a _ ea)
    obtain ⟨o, es, ep, h1, h2, _⟩ := p
    exact W.kia_one W.kitx_dict I.kIn ⟨o, h1, h2.1⟩ e (fun z => nomatch z) h
  | @dT a kvs ea =>
    cases (show u = Value.ref a from rx)
    obtain ⟨_, _, xs, _, o, es, ep, h1, h2, _⟩ := (show ObjOk X.prog X.w H s.heap a (.dT kvs) from I.hok a _ ea)
    exact W.kia_one W.kitx_dict I.kIn ⟨o, h1, h2.1⟩ e (fun z => nomatch z) h
  | @ins a C dx fs ea cl ha hn htk hm =>
    cases (show u = Value.ref a from rx)
    obtain ⟨mA, O, _⟩ := ins_get I.hok ea
    obtain ⟨od, J, _⟩ := O.look
    exact W.kia_one (W.kitx_own (cl.get _) cl.hd ha hn htk hm) I.kIn J e (fun z => nomatch z) h
end
end L2
namespace L2
open PySem PySem.Spec PyProof.Rows
structure Room (k : Nat) (A : Around) : Prop where
  hd : A.handled = none
  dp : A.depth + 3 * k + 5 < recursionLimit
  un : A.units + 16 * k + 200 < cLine
theorem Room.mono {j k : Nat} {A : Around} (r : Room k A) (h : j <= k) : Room j A := ⟨r.hd, by have := r.dp; omega, by have := r.un; omega⟩
theorem Room.deeper {k : Nat} {A : Around} (r : Room (k + 1) A) (env : Env) : Room k (A.deeper env) :=
  ⟨r.hd, by have := r.dp; show A.depth + 1 + 3 * k + 5 < _; omega, by have := r.un; show A.units + 3 + 16 * k + 200 < _; omega⟩
theorem Room.depth {k : Nat} {A : Around} (r : Room k A) : A.depth < recursionLimit := by have := r.dp; omega
theorem Room.units {k : Nat} {A : Around} (r : Room k A) : A.units + 64 < cLine := by have := r.un; omega
theorem Room.units0 {k : Nat} {A : Around} (r : Room k A) : A.units < cLine := by have := r.un; omega
def tNil : TA := fun _ H Q => Q [] H
def tCons (ta : TE) (tr : TA) : TA := fun σ H Q => ta σ H fun x H1 => tr σ H1 fun xs H2 => Q (x :: xs) H2
section
variable {X : Cx} {e : Expr} {es : List Expr} {te : TE} {t : TA} {pos : Pos}
theorem pa_nil : PA X [] tNil := fun _ _ _ _ H Q I h => Calls.spliced_nil ⟨[], H, I, .nil, h⟩
theorem pa_cons (ha : PE X e te) (hr : PA X es t) (hs : starEach (e :: es) X.env = (false, eval e X.env) :: starEach es X.env := by rfl) : PA X (e :: es) (tCons te t) := by
  intro pos pins s σ H Q I h; rw [hs]; show wpAny _ _ (spliced ((false, eval e X.env) :: backTo pos (starEach es X.env))) _ _ s
  refine Calls.spliced_cons (thn (ha pins s σ H _ I h) fun u s1 ⟨x, H1, I1, r1, q1⟩ => ?_)
  exact thn (hr pos pins s1 σ H1 _ I1 q1) fun us s2 ⟨xs, H2, I2, r2, q2⟩ => ⟨x :: xs, H2, I2, .cons r1 r2, q2⟩
def tTup (t : TA) : TE := fun σ H Q => t σ H fun xs H1 => xs.length <= sizeLine /\ ∀ p, H1 p = none -> Q (.ref p) (upd H1 p (.tup xs))
def tLst (t : TA) : TE := fun σ H Q => t σ H fun xs H1 => xs.length <= sizeLine /\ ∀ p, H1 p = none -> Q (.ref p) (upd H1 p (.lst xs))
theorem pe_tup {x1} (h : PA X es t) : PE X (.Tuple es x1 pos) (tTup t) := by
  intro pins s σ H Q I hq; refine wpAny_Tuple_spliced (thn (h pos pins s σ H _ I hq) fun us s1 ⟨xs, H1, I1, r, z, q⟩ => ⟨by rw [<- r.length]; exact z, ?_⟩)
  have hf : H1 s1.heap.objs.size = none := I1.hok.fresh (Znr _)
  refine ⟨.ref s1.heap.objs.size, upd H1 s1.heap.objs.size (.tup xs), I1.laid (t' := s1.toks) (fun b u e => Zpu _ e) (Znr _) ?_, rfl, q _ hf⟩
  exact ⟨z, us, r, ⟨_, Heap.get?_push_size _ rfl, rfl, _, rfl⟩⟩
theorem pe_lst (h : PA X es t) : PE X (.List es pos) (tLst t) := by
  intro pins s σ H Q I hq; refine wpAny_List_spliced (thn (h pos pins s σ H _ I hq) fun us s1 ⟨xs, H1, I1, r, z, q⟩ => ⟨by rw [<- r.length]; exact z, ?_⟩)
  have hf : H1 s1.heap.objs.size = none := I1.hok.fresh (Znr _)
  refine ⟨.ref s1.heap.objs.size, upd H1 s1.heap.objs.size (.lst xs), I1.laid (t' := s1.toks) (fun b u e => Zpu _ e) (Znr _) ?_, rfl, q _ hf⟩
  exact ⟨z, us, 0, r, Heap.get?_push_size _ rfl⟩
end
abbrev Sp := List V -> Hp -> VK -> XK -> Prop
abbrev CXT := List Env -> Hp -> Shared -> XK -> Value -> Shared -> Prop
structure Env0 (P : Program) (w : World) (K : W.Frag) (mg : Str -> Option Value) (base : Heap) (A : Around) (outer : List Env) (s : Shared) (H : Hp) : Prop where
  frames : A.frames = some outer
  mod : Mod K mg base
  bs : ∀ b o, base.get? b = some o -> s.heap.get? b = some o /\ H b = none
  bsz : base.objs.size <= s.heap.objs.size
  funs : s.heap.FunFrames base outer
  frf : ∀ b ∈ frs outer, H b = none
  hok : HOk P w H s.heap
  bare : AllBare s.gens
def CE (outer : List Env) (P : Program) (w : World) (H : Hp) (s : Shared) (Q : VK) (u : Value) (s' : Shared) : Prop :=
  ∃ v H', s'.os = s.os /\ AllBare s'.gens /\ Un (frs outer) [] H H' s.heap s'.heap /\ HOk P w H' s'.heap /\ RelV v u /\ Q v H'
def CR (CX : CXT) (outer : List Env) (P : Program) (w : World) (H : Hp) (s : Shared) (Q : VK) (E : XK) (r : Result) (s' : Shared) : Prop :=
  match r with
  | .ok (.ret u) => CE outer P w H s Q u s'
  | .ok _ => False
  | .error e => CX outer H s E e s'
structure FnOk (P : Program) (w : World) (K : W.Frag) (mg : Str -> Option Value) (base : Heap) (CX : CXT) (k : Nat) (f : Addr) (fd : FuncData) (ps : List Str) (sp : Sp) : Prop where
  len : ∀ vs H Q E, sp vs H Q E -> vs.length = ps.length
  run : ∀ (A : Around) (outer : List Env) (s : Shared) (H : Hp) (args : Args) (us : List Value) (vs : List V) (Q : VK) (E : XK), Room k A -> Env0 P w K mg base A outer s H -> BindsTo s fd args (ps.zip us) -> Vals vs us -> sp vs H Q E →
    codeAny (model P w) A (.call (.ref f) args) (CR CX outer P w H s Q E) s
section
variable {X : Cx} {pins : List (Addr × Obj)} {σ : St} {H : Hp} {s s' : Shared}
theorem Inv.env0 (I : Inv X pins σ H s) : Env0 X.prog X.w X.K X.mg X.base X.A X.stack s H :=
  ⟨I.ok.frames, I.ok.mod, I.bs, Znt I.ok.bsz I.sz, I.stack, I.stkFree, I.hok, I.bare⟩
theorem Inv.after {Q : VK} {u : Value} (I : Inv X pins σ H s) (h : CE X.stack X.prog X.w H s Q u s') : EP X pins σ Q u s' := by
  obtain ⟨v, H', os, bare, un, hok, r, q⟩ := h
  obtain ⟨hh, g, d, t, os'⟩ := s'
  obtain rfl : os' = s.os := os
  exact ⟨v, H', I.call (h' := hh) (g' := g) (d' := d) (t' := t) (ch := []) un hok bare (fun b z => absurd z (by simp)), r, q⟩
end
def tCall (sp : Sp) (dvs : List V) (E : XK) (t : TA) : TE := fun σ H Q => t σ H fun vs H1 => sp (vs ++ dvs) H1 Q E
def Binds (K : W.Frag) (fd : FuncData) (ps : List Str) (ds : List Value) : Prop :=
  ∀ (s : Shared) (us : List Value), K.In s.heap -> (us ++ ds).length = ps.length -> BindsTo s fd ⟨us, []⟩ (ps.zip (us ++ ds))
theorem Binds.all {K : W.Frag} {fd : FuncData} {ps : List Str} (h : ∀ us : List Value, us.length = ps.length -> bindArgs fd ⟨us, []⟩ = pure (ps.zip us)) : Binds K fd ps [] := fun s us _ hl => by
  rw [List.append_nil] at hl ⊢; exact .of_eq (h us hl)
def Passes (CX : CXT) (X : Cx) (E : XK) : Prop := ∀ (pins : List (Addr × Obj)) (σ : St) (H : Hp) (s : Shared) (e : Value) (s' : Shared), Inv X pins σ H s -> CX X.stack H s E e s' -> X.xe e s'
section
variable {X : Cx} {CX : CXT} {k : Nat} {f C : Addr} {fd : FuncData} {ps : List Str} {sp : Sp} {dvs : List V} {ds : List Value} {E : XK} {x m : Str} {p pos apos : Pos} {e o : Expr} {es : List Expr} {ta : TE} {t : TA}
theorem run_fn {pins : List (Addr × Obj)} {σ : St} {H : Hp} {s : Shared} {Q : VK} {us : List Value} {vs : List V} (F : FnOk X.prog X.w X.K X.mg X.base CX k f fd ps sp) (hr : Room k X.A) (hb : Binds X.K fd ps ds) (hd : Vals dvs ds) (hx : Passes CX X E)
    (I : Inv X pins σ H s) (r : Vals vs us) (h : sp (vs ++ dvs) H Q E) : wpAny (model X.prog X.w) X.A (call (.ref f) us) (EP X pins σ Q) X.xe s := by
  have r2 : Vals (vs ++ dvs) (us ++ ds) := r.append hd
  have hl : (us ++ ds).length = ps.length := by rw [<- r2.length]; exact F.len _ _ _ _ h
  refine wpAny_call (codeAny_mono (F.run X.A X.stack s H ⟨us, []⟩ (us ++ ds) (vs ++ dvs) Q E hr I.env0 (hb s us I.kIn hl) r2 h) fun r s' hq => ?_)
  cases r with
  | error e => exact hx pins σ H s e s' I hq
  | ok fl =>
    cases fl with
    | ret u => exact I.after hq
    | next => exact False.elim hq
    | brk => exact False.elim hq
    | cont => exact False.elim hq
theorem pe_call (F : FnOk X.prog X.w X.K X.mg X.base CX k f fd ps sp) (hr : Room k X.A) (hg : Gl X x) (hm : X.mg x = some (.ref f)) (hk : W.keepIn X.K (.ref f) = true) (hb : Binds X.K fd ps ds) (hd : Vals dvs ds) (hx : Passes CX X E)
    (ha : PA X (e :: es) t) (hdb : (x == ("__debug__" : Str)) = false := by decide) (he : starEach (e :: es) X.env = (false, eval e X.env) :: starEach es X.env := by rfl) (hpl : (backTo pos (starEach es X.env)).any (·.1) = false := by rfl) :
    PE X (.Call (.Name x p) (e :: es) [] pos) (tCall sp dvs E t) := by
  intro pins s σ H Q I h; refine wpAny_Call_Name_kw (ld_glob I hg hm ?_ hdb)
  refine W.callWith_K (h₀ := X.base) I.ok.mod.kin hk (thn (ha pos pins s σ H _ I h) fun us s1 ⟨vs, H1, I1, r, q⟩ => ⟨I1.kIn, ?_⟩) he hpl
  exact run_fn F hr hb hd hx I1 r q
end
structure FnScope (N P : List Str) (sc : Scope) : Prop where
  kind : sc.kind = .function
  co : sc.isCoroutine = false
  gen : sc.isGenerator = false
  nd : N.Nodup
  pre : N.take P.length = P
  par : ∀ x ∈ P, sc.names.lookup x = some .local ∨ sc.names.lookup x = some .cell
  nofree : ∀ y ∈ sc.names, y.2 ≠ .free
theorem bindL_out {kindOf : Str -> Option NameKind} {x : Str} : ∀ {binds : List (Str × Value)} {m : Str -> Option Value}, (∀ v, (x, v) ∉ binds) -> bindL kindOf binds m x = m x
  | [], _, _ => rfl
  | (n, v) :: r, m, h => by
    unfold bindL; rw [bindL_out fun w hw => h w (Zmc _ hw)]
    split
    . have : x ≠ n := by rintro rfl; exact h v Zcs
      simp [this]
    . rfl
theorem bindC_out {kindOf : Str -> Option NameKind} {x : Str} : ∀ {binds : List (Str × Value)} {m : Str -> Option Value}, (∀ v, (x, v) ∉ binds) -> bindC kindOf binds m x = m x
  | [], _, _ => rfl
  | (n, v) :: r, m, h => by
    unfold bindC; rw [bindC_out fun w hw => h w (Zmc _ hw)]
    split
    . rfl
    . have : x ≠ n := by rintro rfl; exact h v Zcs
      simp [this]
theorem bindL_get {kindOf : Str -> Option NameKind} {x : Str} {v : Value} : ∀ {P : List Str} {vs : List Value} {i : Nat} {m : Str -> Option Value}, P.Nodup -> P[i]? = some x -> vs[i]? = some v -> kindOf x = some .local →
    bindL kindOf (P.zip vs) m x = some v
  | [], _, _, _, _, h, _, _ => by simp at h
  | _ :: _, [], _, _, _, _, h, _ => by simp at h
  | p :: P, w :: vs, 0, m, nd, h1, h2, hk => by
    simp at h1 h2; subst h1; subst h2
    show bindL kindOf ((p, w) :: P.zip vs) m p = _
    unfold bindL; rw [bindL_out fun v hv => (List.nodup_cons.mp nd).1 (List.of_mem_zip hv).1, if_pos hk]
    simp
  | p :: P, w :: vs, i + 1, m, nd, h1, h2, hk => by
    show bindL kindOf ((p, w) :: P.zip vs) m x = _
    unfold bindL; exact bindL_get (i := i) (List.nodup_cons.mp nd).2 (by simpa using h1) (by simpa using h2) hk
theorem bindC_get {kindOf : Str -> Option NameKind} {x : Str} {v : Value} : ∀ {P : List Str} {vs : List Value} {i : Nat} {m : Str -> Option Value}, P.Nodup -> P[i]? = some x -> vs[i]? = some v -> kindOf x ≠ some .local →
    bindC kindOf (P.zip vs) m x = some v
  | [], _, _, _, _, h, _, _ => by simp at h
  | _ :: _, [], _, _, _, _, h, _ => by simp at h
  | p :: P, w :: vs, 0, m, nd, h1, h2, hk => by
    simp at h1 h2; subst h1; subst h2
    show bindC kindOf ((p, w) :: P.zip vs) m p = _
    unfold bindC; rw [bindC_out fun v hv => (List.nodup_cons.mp nd).1 (List.of_mem_zip hv).1, if_neg hk]
    simp
  | p :: P, w :: vs, i + 1, m, nd, h1, h2, hk => by
    show bindC kindOf ((p, w) :: P.zip vs) m x = _
    unfold bindC; exact bindC_get (i := i) (List.nodup_cons.mp nd).2 (by simpa using h1) (by simpa using h2) hk
def start (N : List Str) (vs : List V) : St := vs.map some ++ List.replicate (N.length - vs.length) none
def cxOf (CX : CXT) (P : Program) (w : World) (K : W.Frag) (mg : Str -> Option Value) (base : Heap) (N : List Str) (qual : Str) (scope : Scope) (f : Addr) (cd : Value) (A : Around) (outer : List Env) (s : Shared) (H : Hp) (E : XK) : Cx where
  prog := P
  w := w
  K := K
  mg := mg
  base := base
  A := A.deeper (envOfC qual scope s.heap.objs.size f cd)
  N := N
  s₀ := s
  H₀ := H
  env := envOfC qual scope s.heap.objs.size f cd
  outer := outer
  stack := envOfC qual scope s.heap.objs.size f cd :: outer
  ex := []
  calm := true
  fn := fun _ => true
  pn := []
  xe := fun e s' => wpAny (model P w) (A.deeper (envOfC qual scope s.heap.objs.size f cd)) (leaving (envOfC qual scope s.heap.objs.size f cd) e) (fun _ s'' => CX outer H s E e s'') (fun e' s'' => CX outer H s E e' s'') s'
theorem cell_has {sc : Scope} {n : Nat} {x : Str} (h : sc.names.lookup x = some .cell) : ∃ c, (cellsFrom n sc.names []).lookup x = some c := by
  have q := W.cellsFrom_some sc.names n [] (.inl h)
  exact Option.isSome_iff_exists.mp q
theorem inv_start {CX : CXT} {P : Program} {w : World} {K : W.Frag} {mg : Str -> Option Value} {base : Heap} {N ps : List Str} {qual : Str} {scope : Scope} {f : Addr} {cd : Value} {A : Around} {outer : List Env} {s s1 : Shared} {H : Hp} {E : XK} {us : List Value} {vs : List V}
    (S : FnScope N ps scope) (hd : A.handled = none) (e0 : Env0 P w K mg base A outer s H) (hl : vs.length = ps.length) (r : Vals vs us)
    (x : InCallC s s.heap.objs.size (bindL (envOfC qual scope s.heap.objs.size f cd).kindOf (ps.zip us) fun _ => none) (cellsFrom (s.heap.objs.size + 1) scope.names []) (bindC (envOfC qual scope s.heap.objs.size f cd).kindOf (ps.zip us) fun _ => none) s1) :
    Inv (cxOf CX P w K mg base N qual scope f cd A outer s H E) [] (start N vs) H s1 := by
  have hpl : ps.length <= N.length := by have := congrArg List.length S.pre; rw [Zlk] at this; omega
  obtain ⟨h1, tk, rfl, hk⟩ := x.done
  have noA : ∀ b : Addr, b ∉ (cxOf CX P w K mg base N qual scope f cd A outer s H E).ex := fun b z => absurd (show b ∈ ([] : List Addr) from z) (by simp)
  refine ⟨⟨e0.mod, S.kind, rfl, rfl, Znr _, fun y z c h1 h2 => ?_, fun y hy => ?_, fun y c _ h => ?_, fun _ => hd, Around.frames_deeper e0.frames, .inr ⟨rfl, rfl⟩, fun b z => absurd z (noA b), e0.bs, e0.bsz, fun b _ _ => noA b, fun b z => absurd z (noA b), e0.funs, e0.frf⟩,
    rfl, e0.bare, Un.kept hk, ⟨_, x.toInCall.ns, fun i y v h1 h2 h3 => ?_⟩, fun y c h => ⟨_, x.cell y c h⟩, e0.hok.fresh (Znr _), fun y c h => ?_, fun p hp => absurd (show p ∈ ([] : List (Addr × Obj)) from hp) (by simp), e0.hok.kept hk, ?_⟩
  . exact name_of_addr x.apart (PySem.mem_of_lookup h1) (PySem.mem_of_lookup h2)
  . have hy : scope.names.lookup y = some .cell ∨ scope.names.lookup y = some .free := hy
    rcases hy with hy | hy
    . exact cell_has hy
    . exact absurd rfl (S.nofree _ (PySem.mem_of_lookup hy))
  . exact Nat.le_of_lt (x.above y c (PySem.mem_of_lookup h))
  . have hi : i < vs.length := by
      unfold start at h2; by_cases hi : i < vs.length
      . exact hi
      . rw [List.getElem?_append_right (by simpa using hi)] at h2
        rw [List.getElem?_replicate] at h2; split at h2 <;> cases h2
    have ha : vs[i]? = some v := by
      unfold start at h2; rw [List.getElem?_append_left (by simpa using hi), Zgm] at h2
      cases e : vs[i]? with
      | none => rw [e] at h2; cases h2
      | some a => rw [e] at h2; cases h2; rfl
    obtain ⟨u, hu, rv⟩ := r.get ha
    have hp : ps[i]? = some y := by
      rw [<- S.pre, List.getElem?_take_of_lt (by omega)]; exact h1
    have ndP : ps.Nodup := by rw [<- S.pre]; exact S.nd.sublist (List.take_sublist _ _)
    refine ⟨u, rv, ?_⟩
    rcases S.par y (Zmg hp) with k | k
    . exact .inl ⟨k, bindL_get ndP hp hu k⟩
    . obtain ⟨c, e⟩ := cell_has (n := s.heap.objs.size + 1) k
      refine .inr ⟨.inl k, c, e, ?_⟩
      have q := x.cell y c e
      rw [bindC_get ndP hp hu (by show scope.names.lookup y ≠ _; rw [k]; decide)] at q
      exact q
  . exact e0.hok.fresh (Nat.le_of_lt (x.above y c (PySem.mem_of_lookup h)))
  . unfold start; show _ = N.length
    rw [Zla, Zlm, List.length_replicate]; omega
theorem fn_of {CX : CXT} {P : Program} {w : World} {K : W.Frag} {mg : Str -> Option Value} {base : Heap} {k : Nat} {f : Addr} {name qual : Str} {params : Arguments} {body : List Stmt} {scope : Scope} {dV kV doc pm cdv ct oc : Value} {an od : Option Addr}
    {osl : Array (Option Value)} {N ps : List Str} {sp : Sp} (lk : K.lookup f = some ⟨oc, od, .func (W.fnOf name qual params body scope dV kV doc pm an cdv ct), osl⟩) (hcd : W.codeIn K cdv qual = true) (S : FnScope N ps scope)
    (len : ∀ vs H Q E, sp vs H Q E -> vs.length = ps.length)
    (hbody : ∀ (A : Around) (outer : List Env) (s : Shared) (H : Hp) (vs : List V) (Q : VK) (E : XK), Room k (A.deeper (envOfC qual scope s.heap.objs.size f cdv)) -> sp vs H Q E →
      ∃ t, PSs (cxOf CX P w K mg base N qual scope f cdv A outer s H E) body t /\ t { nx := fun _ H' => Q .non H', rt := Q } (start N vs) H) :
    FnOk P w K mg base CX (k + 1) f (W.fnOf name qual params body scope dV kV doc pm an cdv ct) ps sp := by
  refine ⟨len, fun A outer s H args us vs Q E hr e0 hb r hsp => ?_⟩
  have hl := len _ _ _ _ hsp
  have KX : K.In s.heap := e0.mod.kin.keeps fun b o e => (e0.bs b o e).1
  have lim : s.heap.NoLimit := e0.mod.nolimit.keeps fun b o e => (e0.bs b o e).1
  have hkind : ∀ y ∈ ps.zip us, scope.names.lookup y.1 = some .local ∨ (scope.names.lookup y.1 = some .cell /\ ((cellsFrom (s.heap.objs.size + 1) scope.names []).lookup y.1).isSome = true) := fun ⟨n, v⟩ hy => by
    rcases S.par n (List.of_mem_zip hy).1 with q | q
    . exact .inl q
    . exact .inr ⟨q, W.cellsFrom_some _ _ _ (.inl q)⟩
  refine codeAny_call_function hr.depth (KX _ _ lk) rfl S.co S.gen rfl (W.codeRec_of KX hcd) (hb _ _ _ _ ?_)
  refine wpAny_newFunctionEnv_cells S.kind hkind fun env he s1 x => ?_
  subst he; refine ⟨lim.keeps x.toInCall.keep, codeAny_func ?_⟩
  obtain ⟨t, ht, hq⟩ := hbody A outer s H vs Q E (hr.deeper _) hsp
  have I : Inv (cxOf CX P w K mg base N qual scope f cdv A outer s H E) [] (start N vs) H s1 := inv_start S hr.hd e0 hl r x
  refine wpAny_mono (ht [] s1 (start N vs) H _ I hq) (fun fl s' hs => ?_) fun e s' hs => hs
  have fin : ∀ {σ' : St} {H' : Hp} {v : V} {u : Value}, Inv (cxOf CX P w K mg base N qual scope f cdv A outer s H E) [] σ' H' s' -> RelV v u -> Q v H' -> CE outer P w H s Q u s' :=
    fun {σ' H' v u} J rv q => ⟨v, H', J.os, J.bare, J.base, J.hok, rv, q⟩
  cases fl with
  | ret u =>
    obtain ⟨v, σ', H', J, rv, q⟩ := hs
    exact fin J rv q
  | next =>
    obtain ⟨σ', H', J, q⟩ := hs
    exact fin (v := V.non) (u := Value.none) J rfl q
  | brk =>
    obtain ⟨_, _, _, q⟩ := hs
    exact False.elim q
  | cont =>
    obtain ⟨_, _, _, q⟩ := hs
    exact False.elim q
end L2
namespace L2
open PySem PySem.Spec PyProof.Rows
section
variable {X : Cx} {x : Str} {p pos : Pos} {e : Expr} {es : List Expr} {t : TA} {id T : String} {r : List V -> Hp -> VK -> Prop}
def tCB (r : List V -> Hp -> VK -> Prop) (t : TA) : TE := fun σ H Q => t σ H fun vs H1 => r vs H1 Q
theorem pe_callB (hc : CallR X (.builtin id) r) (hg : Gl X x) (hm : X.mg x = none) (hv : bootBuiltins x = some (.builtin id)) (ha : PA X (e :: es) t) (hn : x ≠ "__name__" := by decide) (hdb : (x == ("__debug__" : Str)) = false := by decide)
    (he : starEach (e :: es) X.env = (false, eval e X.env) :: starEach es X.env := by rfl) (hpl : (backTo pos (starEach es X.env)).any (·.1) = false := by rfl) : PE X (.Call (.Name x p) (e :: es) [] pos) (tCB r t) := by
  intro pins s σ H Q I h; refine wpAny_Call_Name_kw (ld_blt I hg hm hv ?_ hn hdb)
  exact PyProof.Rows.callWith_builtin1 (thn (ha pos pins s σ H _ I h) fun us s1 ⟨vs, H1, I1, r1, q1⟩ => hc pins s1 σ H1 vs us Q I1 r1 q1) he hpl
theorem pe_callTy (hc : CallR X (.type T) r) (hg : Gl X x) (hm : X.mg x = none) (hv : bootBuiltins x = some (.type T)) (ha : PA X (e :: es) t) (hn : x ≠ "__name__" := by decide) (hdb : (x == ("__debug__" : Str)) = false := by decide)
    (he : starEach (e :: es) X.env = (false, eval e X.env) :: starEach es X.env := by rfl) (hpl : (backTo pos (starEach es X.env)).any (·.1) = false := by rfl) : PE X (.Call (.Name x p) (e :: es) [] pos) (tCB r t) := by
  intro pins s σ H Q I h; refine wpAny_Call_Name_kw (ld_blt I hg hm hv ?_ hn hdb)
  exact PyProof.Rows.callWith_type1 (thn (ha pos pins s σ H _ I h) fun us s1 ⟨vs, H1, I1, r1, q1⟩ => hc pins s1 σ H1 vs us Q I1 r1 q1) he hpl
end
end L2
namespace HT
open PySem PyProof.Rows
section
variable {prog : Program} {w : World} {A : Around} {E : Value -> Shared -> Prop} {s : Shared}
def sIx (n d : Nat) : Option Int -> Nat
  | none => d
  | some v => if v < 0 then (v + (n : Int)).toNat else min v.toNat n
theorem sIx_none (n d : Nat) : sIx n d none = d := rfl
theorem sIx_nat (n d k : Nat) : sIx n d (some (k : Int)) = min k n := by
  show (if (k : Int) < 0 then ((k : Int) + (n : Int)).toNat else min (k : Int).toNat n) = min k n
  rw [if_neg (by omega), Int.toNat_natCast]
end
end HT
namespace L2
open PySem PySem.Spec PyProof.Rows
abbrev TO := St -> Hp -> (Option Int -> Hp -> Prop) -> Prop
def PO (X : Cx) (e : Option Expr) (t : TO) : Prop :=
  ∀ (pins : List (Addr × Obj)) (s : Shared) (σ : St) (H : Hp) (Q : Option Int -> Hp -> Prop), Inv X pins σ H s -> t σ H Q →
    wpAny (model X.prog X.w) X.A (evalPart e X.env) (fun u s' => ∃ o H', Inv X pins σ H' s' /\ IsPart u o /\ Q o H') X.xe s
def tNoPart : TO := fun _ H Q => Q none H
def tPart (t : TE) : TO := fun σ H Q => t σ H fun x H1 => ∃ i, x = .int i /\ Q (some i) H1
theorem intsAre_of {ns : List Int} : ∀ {us : List Value}, Vals (ns.map V.int) us -> IntsAre us ns := by
  induction ns with
  | nil => intro us r; rw [List.map_nil] at r; cases r; exact .nil
  | cons n ns ih =>
    intro us r; rw [List.map_cons] at r; cases r with
    | cons r1 r2 =>
      obtain ⟨t, e⟩ := r1
      subst e; exact .cons n t (ih r2)
section
variable {X : Cx} {e : Expr} {te : TE} {lo hi : Option Expr} {tl th : TO} {pos p2 : Pos}
theorem po_none : PO X none tNoPart := by
  intro pins s σ H Q I h; rw [evalPart_none]; exact wpAny_pure ⟨none, H, I, .none, h⟩
theorem po_some (h : PE X e te) : PO X (some e) (tPart te) := by
  intro pins s σ H Q I hw; rw [evalPart_some]; refine thn (h pins s σ H _ I hw) fun u s1 ⟨x, H1, I1, r1, q1⟩ => ?_
  obtain ⟨i, rfl, q⟩ := q1
  obtain ⟨t, rfl⟩ := r1
  exact ⟨some i, H1, I1, .int i t, q⟩
def SlR (X : Cx) (r : V -> Option Int -> Option Int -> Hp -> VK -> Prop) : Prop :=
  ∀ (pins : List (Addr × Obj)) (s : Shared) (σ : St) (H : Hp) (x : V) (v vl vu : Value) (lo hi : Option Int) (sl : Addr) (Q : VK), Inv X pins σ H s -> RelV x v -> s.heap.IsSliceOf sl vl vu .none -> IsPart vl lo -> IsPart vu hi -> r x lo hi H Q →
    ∃ T id, typeLookup (.type T) "__getitem__" = pure (some (.builtin id)) /\ s.TypeIs v T /\ wpAny (model X.prog X.w) X.A (getItem v (.ref sl)) (EP X pins σ Q) X.xe s
def tSl (r : V -> Option Int -> Option Int -> Hp -> VK -> Prop) (te : TE) (tl th : TO) : TE := fun σ H Q => te σ H fun x H1 => tl σ H1 fun l H2 => th σ H2 fun u H3 => r x l u H3 Q
theorem pe_slice {r : V -> Option Int -> Option Int -> Hp -> VK -> Prop} (hr : SlR X r) (he : PE X e te) (hl : PO X lo tl) (hu : PO X hi th) : PE X (.Subscript e (.Slice lo hi none p2) pos) (tSl r te tl th) := by
  intro pins s σ H Q I h; refine Subscript_ (thn (he pins s σ H _ I h) fun v s1 ⟨x, H1, I1, r1, q1⟩ => ?_)
  refine wpAny_Slice (thn (hl pins s1 σ H1 _ I1 q1) fun vl s2 ⟨l, H2, I2, pl, q2⟩ => thn (hu pins s2 σ H2 _ I2 q2) fun vu s3 ⟨u, H3, I3, pu, q3⟩ => ?_)
  rw [evalPart_none]; refine wpAny_pure ?_
  have I4 : Inv X pins σ H3 { s3 with heap := s3.heap.push { cls := .type "slice", data := .fields #[vl, vu, .none] } } := I3.kept (t' := s3.toks) fun b ob q => Zpu _ q
  obtain ⟨T, id, hT, ht, hg⟩ := hr pins { s3 with heap := s3.heap.push { cls := .type "slice", data := .fields #[vl, vu, .none] } } σ H3 x v vl vu l u s3.heap.objs.size Q I4 r1 (Heap.IsSliceOf.new ..) pl pu q3
  show wpAny (model X.prog X.w) X.A (subscriptTail e (.Slice lo hi none p2) v (.ref s3.heap.objs.size)) (EP X pins σ Q) X.xe { s3 with heap := s3.heap.push { cls := .type "slice", data := .fields #[vl, vu, .none] } }
  exact tail_any (ops := [.ref s3.heap.objs.size, v]) ht hT hg (by with_unfolding_all rfl)
def cutV (xs : List V) (lo hi : Option Int) : List V := (xs.drop (HT.sIx xs.length 0 lo)).take (HT.sIx xs.length xs.length hi - HT.sIx xs.length 0 lo)
theorem cutV_length (xs : List V) (lo hi : Option Int) : (cutV xs lo hi).length <= xs.length := by
  unfold cutV; rw [Zlk, List.length_drop]; omega
end
end L2
namespace L2
open PySem PySem.Spec PyProof.Rows
def ixN (n : Nat) (i : Int) : Option Nat := if 0 <= i then (if i < n then some i.toNat else none) else if -(n : Int) <= i then some (i + n).toNat else none
def atI {α : Type} (xs : List α) (i : Int) : Option α := (ixN xs.length i).bind fun j => xs[j]?
theorem ixN_seq {n : Nat} {i : Int} {j : Nat} (h : ixN n i = some j) : seqIndex? i n = some j /\ j < n /\ -(n : Int) <= i /\ i < n := by
  unfold ixN at h; by_cases h0 : 0 <= i
  . rw [if_pos h0] at h; by_cases h1 : i < n
    . rw [if_pos h1] at h; have e : i.toNat = j := Option.some.inj h
      exact ⟨by rw [seqIndex_of h0 h1, e], by omega, by omega, h1⟩
    . rw [if_neg h1] at h; cases h
  . rw [if_neg h0] at h; by_cases h1 : -(n : Int) <= i
    . rw [if_pos h1] at h; have e : (i + n).toNat = j := Option.some.inj h
      exact ⟨by rw [seqIndex_neg (by omega) h1, e], by omega, h1, by omega⟩
    . rw [if_neg h1] at h; cases h
theorem atI_get {α : Type} {xs : List α} {i : Int} {v : α} (h : atI xs i = some v) : ∃ j, seqIndex? i xs.length = some j /\ xs[j]? = some v /\ j < xs.length /\ -(xs.length : Int) <= i /\ i < xs.length := by
  unfold atI at h; cases e : ixN xs.length i with
  | none => rw [e] at h; cases h
  | some j =>
    rw [e] at h; obtain ⟨h1, h2, h3, h4⟩ := ixN_seq e
    exact ⟨j, h1, h, h2, h3, h4⟩
theorem atI_nat {α : Type} {xs : List α} {j : Nat} {v : α} (h : xs[j]? = some v) : atI xs (j : Int) = some v := by
  have hj : j < xs.length := (Zgs.mp h).1
  have e : ixN xs.length (j : Int) = some j := by
    unfold ixN; rw [if_pos (by omega), if_pos (by omega)]; simp
  unfold atI; rw [e]; exact h
def PlainIx (b : Expr) : Prop := ∀ o i, subscripted b false o i = operate [o, i] (getItem o i)
def IxR (X : Cx) (r : R2) : Prop :=
  ∀ (value slice : Expr) (pins : List (Addr × Obj)) (s : Shared) (σ : St) (H : Hp) (x y : V) (v u : Value) (Q : VK), Inv X pins σ H s -> RelV x v -> RelV y u -> r x y H Q →
    subscripted slice false v u = operate [v, u] (getItem v u) -> wpAny (model X.prog X.w) X.A (subscriptTail value slice v u) (EP X pins σ Q) X.xe s
def MtR (X : Cx) (id : String) (r : V -> List V -> Hp -> VK -> Prop) : Prop :=
  ∀ (pins : List (Addr × Obj)) (s : Shared) (σ : St) (H : Hp) (x : V) (xs : List V) (v : Value) (us : List Value) (Q : VK), Inv X pins σ H s -> RelV x v -> Vals xs us -> r x xs H Q →
    wpAny (model X.prog X.w) X.A (call (.builtin id) (v :: us)) (EP X pins σ Q) X.xe s
section
variable {X : Cx} {a b : Expr} {ta tb : TE} {pos : Pos}
theorem pe_ix {r : R2} (hr : IxR X r) (ha : PE X a ta) (hb : PE X b tb) (hs : PlainIx b) : PE X (.Subscript a b pos) (tOp r ta tb) := by
  intro pins s σ H Q I h; exact Subscript_ (binT ha hb I h fun v u s2 x y H2 I2 rx ry q => hr a b pins s2 σ H2 x y v u Q I2 rx ry q (hs _ _))
def rIxL (K : W.Frag) : R2 := fun x y H Q => ∃ p xs i v, x = .ref p /\ y = .int i /\ SqL K H p xs /\ atI xs i = some v /\ Q v H
def rIxT (K : W.Frag) : R2 := fun x y H Q => ∃ p xs i v, x = .ref p /\ y = .int i /\ SqT K H p xs /\ atI xs i = some v /\ Q v H
def rIxS : R2 := fun x y H Q => ∃ z i c, x = .str z /\ y = .int i /\ z.length <= sizeLine /\ atI z.cps.toList i = some c /\ Q (.str ⟨#[c]⟩) H
theorem ix_list : IxR X (rIxL X.K) := by
  intro value slice pins s σ H x y v u Q I rx ry h hs; obtain ⟨p, xs, i, z, rfl, rfl, hq, he, q⟩ := h
  cases rx
  obtain ⟨t, rfl⟩ := ry
  obtain ⟨its, r, pl, hz⟩ := I.list hq
  obtain ⟨j, h1, h2, h3, h4, h5⟩ := atI_get he
  obtain ⟨w, ew, rw'⟩ := r.get h2
  have hl := r.length
  have hn := line63
  have fin : EP X pins σ Q w s := ⟨z, H, I, rw', q⟩
  by_cases h0 : 0 <= i
  . have hj : i.toNat = j := by
      rw [seqIndex_of h0 h5] at h1; exact Option.some.inj h1
    exact item_listR pl.isList h0 (by omega) (by rw [hj]; simpa using ew) fin hs
  . have hj : (i + (its.toArray.size : Int)).toNat = j := by
      rw [seqIndex_neg (by omega) h4] at h1
      rw [Zst, <- hl]; exact Option.some.inj h1
    exact subscriptTail_builtinR (x := w) pl.isList.typeIs slot_list_getitem.lookup
      (wpAny_getItem_list_neg (Q := fun r s' => r = w /\ EP X pins σ Q r s') pl.isList (by omega) (by rw [Zst] <;> omega) (by omega) (by rw [hj]; simpa using ew) ⟨rfl, fin⟩) hs
theorem ix_tup : IxR X (rIxT X.K) := by
  intro value slice pins s σ H x y v u Q I rx ry h hs; obtain ⟨p, xs, i, z, rfl, rfl, hq, he, q⟩ := h
  cases rx
  obtain ⟨t, rfl⟩ := ry
  obtain ⟨its, r, pl, hz⟩ := I.tuple hq
  obtain ⟨j, h1, h2, h3, h4, h5⟩ := atI_get he
  obtain ⟨w, ew, rw'⟩ := r.get h2
  have hl := r.length
  have hn := line63
  have fin : EP X pins σ Q w s := ⟨z, H, I, rw', q⟩
  exact subscriptTail_builtinR (x := w) pl.typeIs slot_tuple_getitem.lookup
    (getItem_tuple (j := j) (Q := fun r s' => r = w /\ EP X pins σ Q r s') pl (by omega) (by omega) (by rw [Zst, <- hl]; exact h1) (by simpa using ew) ⟨rfl, fin⟩) hs
theorem ix_str : IxR X rIxS := by
  intro value slice pins s σ H x y v u Q I rx ry h hs; obtain ⟨z, i, c, rfl, rfl, hz, he, q⟩ := h
  obtain ⟨t, rfl⟩ := rx
  obtain ⟨t', rfl⟩ := ry
  obtain ⟨j, h1, h2, h3, h4, h5⟩ := atI_get he
  have hl : z.cps.toList.length = z.length := by simp [Str.length]
  rw [hl] at h1 h4 h5; have hn := line63
  exact tail_any (typeIs_str s z t) slot_str_getitem.lookup (getItem_str (c := c) (by
    have e1 : decide (i < -(2 ^ 63 : Int)) = false := decide_eq_false (by omega)
    have e2 : decide (i ≥ 2 ^ 63) = false := decide_eq_false (by omega)
    rw [e1, e2, Bool.or_false]) (by rw [h1]; simpa using h2) ⟨.str ⟨#[c]⟩, H, I.tok _, ⟨_, rfl⟩, q⟩) hs
theorem mapSeq_set (its : List Value) (n j : Nat) (u : Value) : Obj.mapSeq (·.setIfInBounds j u) { cls := .type "list", data := .seq its.toArray n } = { cls := .type "list", data := .seq (its.set j u).toArray n } := by
  simp [Obj.mapSeq]
theorem Inv.lst {pins : List (Addr × Obj)} {σ : St} {H : Hp} {s : Shared} {p : Addr} {xs : List V} (I : Inv X pins σ H s) (h : H p = some (.lst xs)) :
    ∃ (its : List Value) (n : Nat), Vals xs its /\ s.heap.get? p = some { cls := .type "list", data := .seq its.toArray n } /\ xs.length <= sizeLine := by
  obtain ⟨z, its, n, r, e⟩ := I.hok p _ h
  exact ⟨its, n, r, e, z⟩
theorem Inv.lstUpd {pins : List (Addr × Obj)} {σ : St} {H : Hp} {s : Shared} {p : Addr} {xs ys : List V} {its its' : List Value} {n n' : Nat} {f : Obj -> Obj} (I : Inv X pins σ H s) (h : H p = some (.lst xs))
    (ho : s.heap.get? p = some { cls := .type "list", data := .seq its.toArray n }) (hf : f { cls := .type "list", data := .seq its.toArray n } = { cls := .type "list", data := .seq its'.toArray n' }) (r : Vals ys its') (hz : ys.length <= sizeLine) (t : Nat) :
    Inv X pins σ (upd H p (.lst ys)) { s with heap := s.heap.update p f, toks := t } := by
  have e : (s.heap.update p f).get? p = some { cls := .type "list", data := .seq its'.toArray n' } := by
    rw [Heap.get?_update_self f ho (by rw [hf] <;> rfl), hf]
  refine I.write (x := p) (e := p) (by rw [h]; trivial) (.inl rfl) (fun b u hb q => (Heap.get?_update_other _ _ (Ne.symm hb)).trans q) ⟨_, e⟩ ?_
  exact ⟨hz, its', n', r, e⟩
def rSetL : V -> V -> V -> Hp -> (Hp -> Prop) -> Prop := fun o i v H Q => ∃ p xs k j, o = .ref p /\ i = .int k /\ H p = some (.lst xs) /\ ixN xs.length k = some j /\ Q (upd H p (.lst (xs.set j v)))
theorem set_list : PSet X rSetL := by
  intro pins s σ H o i v ov iv u Q I ro ri rv h; obtain ⟨p, xs, k, j, rfl, rfl, hp, hj, q⟩ := h
  cases ro
  obtain ⟨t, rfl⟩ := ri
  obtain ⟨its, n, r, ho, hz⟩ := I.lst hp
  obtain ⟨h1, h2, h3, h4⟩ := ixN_seq hj
  have hl := r.length
  have hn := line63
  have I' : Inv X pins σ (upd H p (.lst (xs.set j v))) { s with heap := s.heap.update p (Obj.mapSeq (·.setIfInBounds j u)) } :=
    I.lstUpd hp ho (mapSeq_set its n j u) (r.set rv j) (by rw [List.length_set]; exact hz) s.toks
  by_cases h0 : 0 <= k
  . have hk : k.toNat = j := by
      rw [seqIndex_of h0 h4] at h1; exact Option.some.inj h1
    exact W.ki_setAt ho h0 (by omega) (by rw [Zst, <- hl]; exact h4) (by rw [hk]; exact ⟨_, I', q⟩)
  . have hk : (k + (its.toArray.size : Int)).toNat = j := by
      rw [seqIndex_neg (by omega) h3] at h1
      rw [Zst, <- hl]; exact Option.some.inj h1
    exact W.ki_setBack ho (by omega) (by rw [Zst, <- hl]; exact h3) (by omega) (by rw [hk]; exact ⟨_, I', q⟩)
theorem slice_bounds (lo hi : Option Int) (n : Nat) : (sliceBounds lo hi none n).1 = ((HT.sIx n 0 lo : Nat) : Int) /\ (sliceBounds lo hi none n).2.1 = ((HT.sIx n n hi : Nat) : Int) /\ (sliceBounds lo hi none n).2.2 = 1 := by
  refine ⟨?_, ?_, rfl⟩
  . cases lo with
    | none => simp [sliceBounds, HT.sIx]
    | some i =>
      simp only [sliceBounds, HT.sIx, Option.getD_none, show (1 : Int) > 0 by decide, if_true]
      by_cases h : i < 0
      . simp only [h, if_true] <;> omega
      . simp only [h, if_false] <;> omega
  . cases hi with
    | none => simp [sliceBounds, HT.sIx]
    | some i =>
      simp only [sliceBounds, HT.sIx, Option.getD_none, show (1 : Int) > 0 by decide, if_true]
      by_cases h : i < 0
      . simp only [h, if_true] <;> omega
      . simp only [h, if_false] <;> omega
theorem slicePick_cut (its : List Value) (lo hi : Option Int) : slicePick its.toArray lo hi none = ((its.drop (HT.sIx its.length 0 lo)).take (HT.sIx its.length its.length hi - HT.sIx its.length 0 lo)).toArray := by
  obtain ⟨h1, h2, h3⟩ := slice_bounds lo hi its.toArray.size
  unfold slicePick; rw [h1, h2, h3]; simp only [sliceRange_one, pick_run, Zst] <;> rfl
def rSlL (K : W.Frag) : V -> Option Int -> Option Int -> Hp -> VK -> Prop := fun x lo hi H Q => ∃ a xs, x = .ref a /\ SqL K H a xs /\ ∀ p, H p = none -> Q (.ref p) (upd H p (.lst (cutV xs lo hi)))
theorem sl_list : SlR X (rSlL X.K) := by
  intro pins s σ H x v vl vu lo hi sl Q I rx hs pl pu h; obtain ⟨a, xs, rfl, hx, q⟩ := h
  cases rx
  obtain ⟨its, r, ht, hz⟩ := I.list hx
  have hlen := r.length
  refine ⟨"list", _, slot_list_getitem.lookup, ht.isList.typeIs, ?_⟩
  refine wpAny_getItem_list_slice ht.isList hs pl pu .none (by simp) ?_ (by rw [Zst] <;> omega)
  rw [slicePick_cut, <- hlen]; refine ⟨.ref s.heap.objs.size, _, I.laid (t' := s.toks) (o := .lst (cutV xs lo hi)) (fun b ob q => Zpu _ q) (Znr _) ?_, rfl, q _ (I.hok.fresh (Znr _))⟩
  exact ⟨Znt (cutV_length xs lo hi) hz, _, 0, (r.drop (HT.sIx xs.length 0 lo)).take (HT.sIx xs.length xs.length hi - HT.sIx xs.length 0 lo), Heap.get?_push_size _ rfl⟩
theorem op_notIn_str : OpR X (compareOp .NotIn) (fun x y H Q => ∃ i j, x = .str i /\ y = .str j /\ Q (.bl (!(!(Builtin.Str.occurrences j i 0 j.length 1).isEmpty))) H) := by
  intro pins s σ H x y v u Q I rx ry h; obtain ⟨i, j, rfl, rfl, q⟩ := h
  obtain ⟨t, rfl⟩ := rx
  obtain ⟨t', rfl⟩ := ry
  exact notIn_str ⟨.bl _, H, I, rfl, q⟩
theorem call_len_str : CallR X (.builtin "len") (fun xs H Q => ∃ z, xs = [.str z] /\ z.length <= sizeLine /\ Q (.int z.length) H) := by
  intro pins s σ H xs us Q I r h; obtain ⟨z, rfl, hz, q⟩ := h
  obtain ⟨u, rfl, t, rfl⟩ := vals1 r
  have hn := line63
  exact len_str (by omega) ⟨.int z.length, H, I.tok _, ⟨_, rfl⟩, q⟩
theorem call_list_of : CallR X (.type "list") (fun xs H Q => ∃ p ys, xs = [.ref p] /\ (SqL X.K H p ys ∨ SqT X.K H p ys) /\ ∀ l, H l = none -> Q (.ref l) (upd H l (.lst ys))) := by
  intro pins s σ H xs us Q I r h; obtain ⟨p, ys, rfl, hq, q⟩ := h
  obtain ⟨u, rfl, rx⟩ := vals1 r
  cases rx
  have fin : ∀ (its : List Value), Vals ys its -> ys.length <= sizeLine -> ∀ (h' : Heap) (c' : Nat), (∀ b o', s.heap.get? b = some o' -> h'.get? b = some o') →
      h'.get? s.heap.objs.size = some { cls := .type "list", dict := none, data := .seq its.toArray c', slots := #[] } -> EP X pins σ Q (.ref s.heap.objs.size) { s with heap := h' } := fun its r' hz h' c' kp e =>
    ⟨.ref s.heap.objs.size, _, I.laid (t' := s.toks) kp (Znr _) (show ObjOk X.prog X.w _ h' _ (.lst ys) from ⟨hz, its, c', r', e⟩), rfl, q _ (I.hok.fresh (Znr _))⟩
  rcases hq with hq | hq
  . obtain ⟨its, r', pl, hz⟩ := I.list hq
    have hlen := r'.length
    obtain ⟨o, ho, hc, n, hd⟩ := pl.isList
    exact call_list_seq p (.inl rfl) ho hc hd (fun h' c' kp e => fin its r' hz h' c' kp e) (by simp only [Zst] <;> omega)
  . obtain ⟨its, r', pl, hz⟩ := I.tuple hq
    have hlen := r'.length
    obtain ⟨o, ho, hc, n, hd⟩ := pl
    exact call_list_seq p (.inr rfl) ho hc hd (fun h' c' kp e => fin its r' hz h' c' kp e) (by simp only [Zst] <;> omega)
def tyV (K : W.Frag) (T : String) (x : V) (H : Hp) : Prop := match x with
  | .str _ => T = "str"
  | .int _ => T = "int"
  | .ref p => (T = "list" /\ ∃ xs, SqL K H p xs) ∨ (T = "tuple" /\ ∃ o, K.lookup p = some o /\ o.cls = .type "tuple" /\ o.dict = none) ∨
      (T = "dict" /\ ((∃ kvs, H p = some (.dK kvs)) ∨ ∃ kvs, H p = some (.dT kvs))) ∨ (T = "set" /\ ∃ S n, H p = some (.set S n))
  | _ => False
theorem tyV_is {pins : List (Addr × Obj)} {σ : St} {H : Hp} {s : Shared} {T : String} {x : V} {v : Value} (I : Inv X pins σ H s) (r : RelV x v) (ty : tyV X.K T x H) :
    s.TypeIs v T /\ ∀ a, v = .ref a -> ∃ ob, s.heap.get? a = some ob /\ ob.dict = none := by
  cases x with
  | str z =>
    obtain ⟨t, rfl⟩ := r
    cases (show T = "str" from ty)
    exact ⟨typeIs_str s z t, fun _ e => nomatch e⟩
  | int i =>
    obtain ⟨t, rfl⟩ := r
    cases (show T = "int" from ty)
    exact ⟨typeIs_int s i t, fun _ e => nomatch e⟩
  | ref p =>
    cases r
    rcases ty with ⟨rfl, xs, hq⟩ | ⟨rfl, o, hk, hc, hd⟩ | ⟨rfl, hk⟩ | ⟨rfl, S, n, hk⟩
    . obtain ⟨its, _, pl, _⟩ := I.list hq
      refine ⟨pl.isList.typeIs, fun a e => ?_⟩
      cases e
      obtain ⟨o, n, e, c, hd, _⟩ := pl
      exact ⟨o, e, hd⟩
    . refine ⟨⟨o, I.kIn p o hk, hc⟩, fun a e => ?_⟩
      cases e
      exact ⟨o, I.kIn _ o hk, hd⟩
    . have z : ∃ o, s.heap.get? p = some o /\ o.ExactDict := by
        rcases hk with ⟨kvs, hk⟩ | ⟨kvs, hk⟩
        . obtain ⟨_, _, _, _, o, _, _, e, ex, _⟩ := I.hok p _ hk
          exact ⟨o, e, ex⟩
        . obtain ⟨_, _, _, _, o, _, _, e, ex, _⟩ := I.hok p _ hk
          exact ⟨o, e, ex⟩
      obtain ⟨o, e, ex⟩ := z
      refine ⟨⟨o, e, ex.1⟩, fun a e2 => ?_⟩
      cases e2
      exact ⟨o, e, ex.2.1⟩
    . obtain ⟨o, _, _, _, e, ex, _⟩ := I.hok p _ hk
      refine ⟨⟨o, e, ex.1⟩, fun a e2 => ?_⟩
      cases e2
      exact ⟨o, e, ex.2.1⟩
  | _ => exact False.elim ty
def tBM (K : W.Frag) (T : String) (r : V -> List V -> Hp -> VK -> Prop) (to : TE) (t : TA) : TE := fun σ H Q => to σ H fun x H1 => tyV K T x H1 /\ t σ H1 fun xs H2 => r x xs H2 Q
variable {o e : Expr} {es : List Expr} {to : TE} {t : TA} {name : Str} {apos cpos : Pos} {T id : String} {r : V -> List V -> Hp -> VK -> Prop}
theorem pe_bm (pa : PlainAttrs T) (slot : Slot T name id) (hty : typeOf (.builtin id) = pure (.type "method_descriptor")) (hm : MtR X id r) (ho : PE X o to) (ha : PA X (e :: es) t)
    (hbase : attributeBase o name X.env (eval o X.env) = eval o X.env := by rfl)
    (hfew : ((backTo cpos (starEach (e :: es) X.env)).all (fun x => !x.1) && (backToKw cpos (keywordEach [] X.env)).all (fun x => x.1.isSome)
      && decide ((e :: es).length + ([] : List Keyword).length + (if ([] : List Keyword).isEmpty then 0 else 1) < 30)) = true := by rfl)
    (hline : (apos.endLine == cpos.line) = true := by rfl) (hs : starEach (e :: es) X.env = (false, eval e X.env) :: starEach es X.env := by rfl) (hplain : (backTo cpos (starEach es X.env)).any (·.1) = false := by rfl) :
    PE X (.Call (.Attribute o name apos) (e :: es) [] cpos) (tBM X.K T r to t) := by
  intro pins s σ H Q I h; refine wpAny_Call_method_late hbase hfew hline rfl (thn (ho pins s σ H _ I h) fun v s1 ⟨x, H1, I1, r1, ty, q1⟩ => ?_)
  obtain ⟨h1, h2⟩ := tyV_is I1 r1 ty
  refine ⟨T, id, pa, slot, hty, h1, h2, ?_⟩
  have hA := ha cpos pins s1 σ H1 _ I1 q1
  rw [hs] at hA ⊢; refine Calls.callWith_builtin (by show (false || (backTo cpos (starEach es X.env)).any (·.1)) = false; rw [hplain] <;> rfl) (Calls.evalArgs_plain ?_)
  exact thn hA fun us s2 ⟨vs, H2, I2, r2, q2⟩ => hm pins s2 σ H2 x vs v us Q I2 r1 r2 q2
/- xs.append(e), list.index on a module's tuple .. are MtR facts of 06m -/
end
end L2
namespace L2
open PySem PySem.Spec PyProof.Rows
def MtM (X : Cx) (id : String) (r : V -> List V -> Hp -> VK -> Prop) : Prop :=
  ∀ (pins : List (Addr × Obj)) (s : Shared) (σ : St) (H : Hp) (x : V) (xs : List V) (v : Value) (us : List Value) (Q : VK), Inv X pins σ H s -> RelV x v -> Vals xs us -> r x xs H Q →
    wpAny (model X.prog X.w) X.A (call (.builtin id) (v :: us)) (EP X pins σ Q) X.xe s
theorem Vals.one : ∀ {x : V} {us : List Value}, Vals [x] us -> ∃ u, us = [u] /\ RelV x u
  | _, _, .cons r .nil => ⟨_, rfl, r⟩
theorem Vals.two : ∀ {x y : V} {us : List Value}, Vals [x, y] us -> ∃ u v, us = [u, v] /\ RelV x u /\ RelV y v
  | _, _, _, .cons r (.cons q .nil) => ⟨_, _, rfl, r, q⟩
theorem Vals.eraseIdx : ∀ {xs : List V} {us : List Value} (i : Nat), Vals xs us -> Vals (xs.eraseIdx i) (us.eraseIdx i)
  | _, _, _, .nil => .nil
  | _, _, 0, .cons _ t => t
  | _, _, i + 1, .cons r t => .cons r (Vals.eraseIdx i t)
theorem len_erase {α : Type} : ∀ (l : List α) (i : Nat), (l.eraseIdx i).length <= l.length
  | [], _ => Znr _
  | _ :: _, 0 => Nat.le_succ _
  | _ :: r, i + 1 => Nat.succ_le_succ (len_erase r i)
section
variable {X : Cx} {pins : List (Addr × Obj)} {σ : St} {H : Hp} {s : Shared} {l b : Addr} {xs ys zs : List V}
theorem Inv.lset {its its' : List Value} {n : Nat} {f : Array Value -> Array Value} {t' : Nat} (I : Inv X pins σ H s) (hH : H l = some (.lst xs))
    (e : s.heap.get? l = some { cls := .type "list", data := .seq its.toArray n }) (hf : f its.toArray = its'.toArray) (hv : Vals ys its') (hz : ys.length <= sizeLine) :
    Inv X pins σ (upd H l (.lst ys)) { s with heap := s.heap.update l (Obj.mapSeq f), toks := t' } := by
  have q := PySem.IsL.update e f
  rw [hf] at q; refine I.write (x := l) (e := l) (by rw [hH]; exact trivial) (.inl rfl) (fun b' u hb hu => (Heap.get?_update_other s.heap (Obj.mapSeq f) (Ne.symm hb)).trans hu) ⟨_, q⟩ ?_
  exact ⟨hz, its', _, hv, q⟩
theorem Inv.lnew {its : List Value} {t' : Nat} (I : Inv X pins σ H s) (hv : Vals ys its) (hz : ys.length <= sizeLine) :
    Inv X pins σ (upd H s.heap.objs.size (.lst ys)) { s with heap := s.heap.push { cls := .type "list", data := .seq its.toArray }, toks := t' } :=
  I.laid (fun _ _ q => Zpu _ q) (Znr _) ⟨hz, its, 0, hv, Heap.get?_push_size _ rfl⟩
theorem Inv.fresh (I : Inv X pins σ H s) : H s.heap.objs.size = none := I.hok.fresh (Znr _)
theorem Inv.lstM (I : Inv X pins σ H s) (hH : H l = some (.lst xs)) : xs.length <= sizeLine /\ ∃ (its : List Value) (n : Nat), Vals xs its /\ xs.length = its.length /\ s.heap.get? l = some { cls := .type "list", data := .seq its.toArray n } := by
  obtain ⟨z, its, n, r, e⟩ := I.hok l _ hH
  exact ⟨z, its, n, r, r.length, e⟩
theorem notLongL {n : Nat} (h : n <= sizeLine) : Builtin.List.listTooLong n = false := by
  unfold Builtin.List.listTooLong; exact decide_eq_false (by omega)
end
section
variable {X : Cx}
def rExtend : V -> List V -> Hp -> VK -> Prop := fun x vs H Q => ∃ l b xs zs, x = .ref l /\ vs = [.ref b] /\ H l = some (.lst xs) /\ H b = some (.lst zs) /\ xs.length + zs.length <= sizeLine /\ Q .non (upd H l (.lst (xs ++ zs)))
theorem mt_extend : MtM X "list.extend" rExtend := by
  intro pins s σ H x vs v us Q I rx rv h; obtain ⟨l, b, xs, zs, rfl, rfl, hH, hB, hz, q⟩ := h
  cases rx
  obtain ⟨u, rfl, ru⟩ := rv.one
  cases ru
  obtain ⟨z, its, n, r, hl, e⟩ := I.lstM hH
  obtain ⟨z2, its2, n2, r2, hl2, e2⟩ := I.lstM hB
  have hsz : its.toArray.size + its2.toArray.size <= sizeLine := by rw [Zst, Zst]; omega
  have hlong : ¬ (!its.toArray.isEmpty && Builtin.List.listTooLong (its.toArray.size + its2.toArray.size)) = true := by
    rw [notLongL hsz, Bool.and_false]; exact Bool.false_ne_true
  refine call_meets F.slot_list_extend ⟨_, e, rfl⟩ F.entry_list_extend (F.args_list_extend_2 _ _)
    (AutoSeq1.list_extend_list_list_0 l its.toArray n b its2.toArray n2 hlong (by rw [Zst]; omega) (by omega)) ⟨e, e2, ?_⟩
  refine ⟨.non, _, I.lset (its' := its ++ its2) hH e (by simp) (r.append r2) ?_, rfl, q⟩
  rw [Zla]; omega
def rPopAt : V -> List V -> Hp -> VK -> Prop := fun x vs H Q => ∃ l xs i k y, x = .ref l /\ vs = [.int i] /\ H l = some (.lst xs) /\ -(2 ^ 63) <= i /\ i < 2 ^ 63 /\ seqIndex? i xs.length = some k /\ xs[k]? = some y /\ Q y (upd H l (.lst (xs.eraseIdx k)))
theorem mt_popAt : MtM X "list.pop" rPopAt := by
  intro pins s σ H x vs v us Q I rx rv h; obtain ⟨l, xs, i, k, y, rfl, rfl, hH, h1, h2, hk, hy, q⟩ := h
  cases rx
  obtain ⟨u, rfl, ru⟩ := rv.one
  obtain ⟨t, rfl⟩ := ru
  obtain ⟨z, its, n, r, hl, e⟩ := I.lstM hH
  obtain ⟨w, hw, rw'⟩ := r.get hy
  refine call_meets F.slot_list_pop ⟨_, e, rfl⟩ F.entry_list_pop (F.args_list_pop_2 _ _)
    (MeetsSeq.list_pop_at l its.toArray n i t k w (fitsIndex_both h1 h2) (by rw [Zst, <- hl]; exact hk) (by rw [<- Array.getElem?_toList]; exact hw) (by rw [Zst]; omega)) ⟨e, ?_⟩
  refine ⟨y, _, I.lset (its' := its.eraseIdx k) hH e ?_ (r.eraseIdx k) ?_, rw', q⟩
  . show its.toArray.eraseIdxIfInBounds k = (its.eraseIdx k).toArray
    rw [List.eraseIdxIfInBounds_toArray]
  . have := len_erase xs k
    omega
def rCat : R2 := fun x y H Q => ∃ l b xs zs, x = .ref l /\ y = .ref b /\ H l = some (.lst xs) /\ H b = some (.lst zs) /\ xs.length + zs.length <= sizeLine /\ ∀ p, H p = none -> Q (.ref p) (upd H p (.lst (xs ++ zs)))
theorem op_cat : OpR X (binaryOp .Add) rCat := by
  intro pins s σ H x y v u Q I rx ry h; obtain ⟨l, b, xs, zs, rfl, rfl, hH, hB, hz, q⟩ := h
  cases rx
  cases ry
  obtain ⟨z, its, n, r, hl, e⟩ := I.lstM hH
  obtain ⟨z2, its2, n2, r2, hl2, e2⟩ := I.lstM hB
  refine PySem.P.add_list e e2 ?_ (by rw [Zst, Zst]; omega)
  have ea : its.toArray ++ its2.toArray = (its ++ its2).toArray := by simp
  rw [ea]; exact ⟨.ref _, _, I.lnew (t' := s.toks) (r.append r2) (by rw [Zla]; omega), rfl, q _ I.fresh⟩
end
end L2
namespace L2
open PySem PySem.Spec PyProof.Rows
section
variable {κ : Type} [DecidableEq κ]
def valV (kvs : List (κ × V)) (k : κ) : Option V := (kvs.find? fun kv => decide (kv.1 = k)).map (·.2)
def putK (kvs : List (κ × V)) (k : κ) (v : V) : List (κ × V) :=
  if (kvs.any fun kv => decide (kv.1 = k)) = true then kvs.map (fun kv => if kv.1 = k then (kv.1, v) else kv) else kvs ++ [(k, v)]
theorem valV_pos {p : κ × V} {r : List (κ × V)} {k : κ} (e : p.1 = k) : valV (p :: r) k = some p.2 := by simp [valV, List.find?_cons, e]
theorem valV_neg {p : κ × V} {r : List (κ × V)} {k : κ} (e : ¬ p.1 = k) : valV (p :: r) k = valV r k := by simp [valV, List.find?_cons, e]
theorem valV_any (k : κ) : ∀ kvs : List (κ × V), (kvs.any fun kv => decide (kv.1 = k)) = (valV kvs k).isSome
  | [] => rfl
  | p :: r => by
    rw [List.any_cons]; by_cases e : p.1 = k
    . simp only [valV_pos e, decide_eq_true e, Bool.true_or, Option.isSome_some]
    . rw [valV_neg e, decide_eq_false e, Bool.false_or]; exact valV_any k r
theorem valV_map (k j : κ) (y : V) : ∀ kvs : List (κ × V), valV (kvs.map fun kv => if kv.1 = k then (kv.1, y) else kv) j = (valV kvs j).map fun x => if j = k then y else x
  | [] => rfl
  | p :: r => by
    have ih := valV_map k j y r
    rw [List.map_cons]; by_cases h : p.1 = k
    . rw [if_pos h]; by_cases e : p.1 = j
      . rw [valV_pos (p := (p.1, y)) e, valV_pos e, Option.map_some, if_pos (e.symm.trans h)]
      . rw [valV_neg (p := (p.1, y)) e, valV_neg e, ih]
    . rw [if_neg h]; by_cases e : p.1 = j
      . rw [valV_pos (p := p) e, valV_pos e, Option.map_some, if_neg (fun z => h (e.trans z))]
      . rw [valV_neg (p := p) e, valV_neg e, ih]
theorem valV_snoc (k j : κ) (y : V) : ∀ kvs : List (κ × V), valV kvs k = none -> valV (kvs ++ [(k, y)]) j = if j = k then some y else valV kvs j
  | [], _ => by
    by_cases e : k = j
    . rw [if_pos e.symm]; exact valV_pos (p := (k, y)) e
    . rw [if_neg (fun z => e z.symm)]; exact valV_neg (p := (k, y)) e
  | p :: r, hn => by
    rw [List.cons_append]; have hk : ¬ p.1 = k := fun z => by rw [valV_pos z] at hn; cases hn
    rw [valV_neg hk] at hn; have ih := valV_snoc k j y r hn
    by_cases e : p.1 = j
    . rw [valV_pos e, valV_pos e, if_neg (fun z => hk (e.trans z))]
    . rw [valV_neg e, valV_neg e, ih]
theorem valV_put (kvs : List (κ × V)) (k j : κ) (y : V) : valV (putK kvs k y) j = if j = k then some y else valV kvs j := by
  unfold putK; by_cases a : (kvs.any fun kv => decide (kv.1 = k)) = true
  . rw [if_pos a, valV_map]; rw [valV_any] at a; by_cases e : j = k
    . obtain ⟨x, hx⟩ := Option.isSome_iff_exists.mp a
      rw [if_pos e, e, hx, Option.map_some, if_pos rfl]
    . rw [if_neg e]; cases valV kvs j with
      | none => rfl
      | some x => rw [Option.map_some, if_neg e]
  . rw [if_neg a]; refine valV_snoc k j y kvs ?_
    rw [valV_any] at a; cases q : valV kvs k with
    | none => rfl
    | some x => rw [q] at a; exact (a rfl).elim
theorem length_putK (kvs : List (κ × V)) (k : κ) (v : V) : (putK kvs k v).length <= kvs.length + 1 := by
  unfold putK; split
  . rw [Zlm]; omega
  . rw [Zla, Zlc, List.length_nil]; omega
theorem RelO.isSome_eq {o : Option V} {u : Option Value} (r : RelO o u) : o.isSome = u.isSome := by
  cases o with
  | none => cases u with
    | none => rfl
    | some _ => exact (show False from r).elim
  | some _ => cases u with
    | none => exact (show False from r).elim
    | some _ => rfl
theorem KV.val {kvs : List (κ × V)} {vs : List (κ × Value)} (r : KV kvs vs) (k : κ) : RelO (valV kvs k) (valueAt vs k) := by
  unfold KV at r; induction r with
  | nil => exact True.intro
  | @cons p q ps qs h t ih =>
    obtain ⟨h1, h2⟩ := h
    by_cases e : p.1 = k
    . have e' : q.1 = k := h1.symm.trans e
      have b : valueAt (q :: qs) k = some q.2 := by simp [valueAt, List.find?_cons, e']
      rw [valV_pos e, b]; exact h2
    . have e' : ¬ q.1 = k := fun z => e (h1.trans z)
      have b : valueAt (q :: qs) k = valueAt qs k := by simp [valueAt, List.find?_cons, e']
      rw [valV_neg e, b]; exact ih
theorem KV.any {kvs : List (κ × V)} {vs : List (κ × Value)} (r : KV kvs vs) (k : κ) : (kvs.any fun kv => decide (kv.1 = k)) = vs.any fun kv => decide (kv.1 = k) := by
  unfold KV at r; induction r with
  | nil => rfl
  | cons h t ih => rw [List.any_cons, List.any_cons, ih, h.1]
theorem KV.repl {kvs : List (κ × V)} {vs : List (κ × Value)} (r : KV kvs vs) (k : κ) {y : V} {u : Value} (ry : RelV y u) :
    KV (kvs.map fun kv => if kv.1 = k then (kv.1, y) else kv) (vs.map fun kv => if kv.1 = k then (kv.1, u) else kv) := by
  unfold KV at r ⊢
  induction r with
  | nil => exact .nil
  | @cons p q ps qs h t ih =>
    rw [List.map_cons, List.map_cons]; refine .cons ?_ ih
    obtain ⟨h1, h2⟩ := h
    by_cases e : p.1 = k
    . rw [if_pos e, if_pos (h1.symm.trans e)]; exact ⟨h1, ry⟩
    . rw [if_neg e, if_neg (fun z => e (h1.trans z))]; exact ⟨h1, h2⟩
theorem KV.put {kvs : List (κ × V)} {vs : List (κ × Value)} (r : KV kvs vs) (k : κ) {y : V} {u : Value} (ry : RelV y u) : KV (putK kvs k y) (stored vs k u) := by
  unfold putK stored; rw [r.any k]; by_cases e : (vs.any fun kv => decide (kv.1 = k)) = true
  . rw [if_pos e, if_pos e]; exact r.repl k ry
  . rw [if_neg e, if_neg e]; exact Paired.snoc r ⟨rfl, ry⟩
theorem KV.length {kvs : List (κ × V)} {vs : List (κ × Value)} (r : KV kvs vs) : kvs.length = vs.length := Paired.length r
end
theorem kV_is {P : Program} {w : World} {k : Key} {u : Value} (r : RelV (kV k) u) : (mixKind P w).is k u = true := by
  cases k with
  | inl i => obtain ⟨t, e⟩ := (show ∃ t, u = Value.int i t from r); subst e; exact mixKind_int P w i t
  | inr x => obtain ⟨t, e⟩ := (show ∃ t, u = Value.str x t from r); subst e; exact mixKind_str P w x t
theorem items_are {P : Program} {w : World} : ∀ {ks : List Key} {us : List Value}, Vals (ks.map kV) us -> ItemsAre (mixKind P w) ks us
  | [], _, r => by rw [List.map_nil] at r; cases r; exact .nil
  | k :: ks, _, r => by
    rw [List.map_cons] at r; cases r with
    | cons h t => exact .cons (kV_is h) (items_are t)
abbrev KT (H : Hp) : List (List Key × V) -> List (List Key × Addr × Value) -> Prop := Paired fun p q => p.1 = q.1 /\ H q.2.1 = some (.tup (p.1.map kV)) /\ RelV p.2 q.2.2
theorem KT.val {H : Hp} {kvs : List (List Key × V)} {xs : List (List Key × Addr × Value)} (r : KT H kvs xs) (k : List Key) : RelO (valV kvs k) ((atKey xs k).map (·.2)) := by
  induction r with
  | nil => exact True.intro
  | @cons p q ps qs h t ih =>
    obtain ⟨h1, _, h2⟩ := h
    by_cases e : p.1 = k
    . have e' : q.1 = k := h1.symm.trans e
      have b : atKey (q :: qs) k = some q.2 := by simp [atKey, List.find?_cons, e']
      rw [valV_pos e, b]; exact h2
    . have e' : ¬ q.1 = k := fun z => e (h1.trans z)
      have b : atKey (q :: qs) k = atKey qs k := by simp [atKey, List.find?_cons, e']
      rw [valV_neg e, b]; exact ih
theorem KT.repl {H : Hp} {kvs : List (List Key × V)} {xs : List (List Key × Addr × Value)} (r : KT H kvs xs) (k : List Key) {y : V} {u : Value} (ry : RelV y u) :
    KT H (kvs.map fun kv => if kv.1 = k then (kv.1, y) else kv) (xs.map (putAt k u)) := by
  induction r with
  | nil => exact .nil
  | @cons p q ps qs h t ih =>
    rw [List.map_cons, List.map_cons]; refine .cons ?_ ih
    obtain ⟨h1, h2, h3⟩ := h
    unfold putAt; by_cases e : p.1 = k
    . rw [if_pos e, if_pos (h1.symm.trans e)]; exact ⟨h1, h2, ry⟩
    . rw [if_neg e, if_neg (fun z => e (h1.trans z))]; exact ⟨h1, h2, h3⟩
theorem KT.put {H : Hp} {kvs : List (List Key × V)} {xs : List (List Key × Addr × Value)} (r : KT H kvs xs) (k : List Key) {b : Addr} {y : V} {u : Value} (hb : H b = some (.tup (k.map kV))) (ry : RelV y u) :
    KT H (putK kvs k y) (storedH xs k b u) := by
  have e : (kvs.any fun kv => decide (kv.1 = k)) = (atKey xs k).isSome := by
    rw [valV_any, (r.val k).isSome_eq, Option.isSome_map]
  unfold putK storedH; rw [e]; by_cases q : (atKey xs k).isSome = true
  . rw [if_pos q, if_pos q]; exact r.repl k ry
  . rw [if_neg q, if_neg q]; exact Paired.snoc r ⟨rfl, hb, ry⟩
theorem KT.keeps {H H' : Hp} {kvs : List (List Key × V)} {xs : List (List Key × Addr × Value)} (r : KT H kvs xs) (ht : ∀ b ys, H b = some (.tup ys) -> H' b = some (.tup ys)) : KT H' kvs xs :=
  Paired.mapP r fun _ _ z => ⟨z.1, ht _ _ z.2.1, z.2.2⟩
section
variable {P : Program} {w : World} {H : Hp} {h : Heap} {a : Addr}
theorem rd_of {u : HO} (ok : HOk P w H h) (e : Rd H a u) : ObjOk P w H h a u := e.ok ok
theorem dk_rd {kvs : List (Key × V)} (ok : HOk P w H h) (e : Rd H a (.dK kvs)) : kvs.length <= sizeLine /\ (a == sysModules) = false /\ ∃ vs, KV kvs vs /\ h.DictOf (mixKind P w) a vs :=
  show ObjOk P w H h a (.dK kvs) from rd_of ok e
theorem dk_of {kvs : List (Key × V)} (ok : HOk P w H h) (e : H a = some (.dK kvs)) : kvs.length <= sizeLine /\ (a == sysModules) = false /\ ∃ vs, KV kvs vs /\ h.DictOf (mixKind P w) a vs := dk_rd ok (.inl e)
theorem key_of {ks : List Key} (ok : HOk P w H h) (e : H a = some (.tup (ks.map kV))) : (tupleKind (mixKind P w)).is h ks a := by
  obtain ⟨_, its, r, o, h1, h2, n, h3⟩ := (show ObjOk P w H h a (.tup (ks.map kV)) from ok a _ e)
  exact ⟨o, its.toArray, n, h1, h2, h3, by simpa using items_are r⟩
theorem dt_rd {kvs : List (List Key × V)} (ok : HOk P w H h) (e : Rd H a (.dT kvs)) : kvs.length <= sizeLine /\ (a == sysModules) = false ∧
    ∃ xs, KT H kvs xs /\ h.DictOfH (tupleKind (mixKind P w)) a xs := by
  obtain ⟨z, y, xs, r, o, es, ep, h1, h2, h3, h4, h5⟩ := (show ObjOk P w H h a (.dT kvs) from rd_of ok e)
  refine ⟨z, y, xs, r, o, es, ep, h1, h2, h3, h4, fun x hx => ?_, h5⟩
  have all : ∀ {l : List (List Key × V)} {m : List (List Key × Addr × Value)}, KT H l m -> ∀ x ∈ m, (tupleKind (mixKind P w)).is h x.1 x.2.1 := by
    intro l m q; induction q with
    | nil => intro x hx; exact nomatch hx
    | @cons p q ps qs hq t ih =>
      intro x hx; rcases List.mem_cons.mp hx with e | hx
      . subst e; exact key_of ok (by rw [<- hq.1]; exact hq.2.1)
      . exact ih x hx
  exact all r x hx
theorem dt_of {kvs : List (List Key × V)} (ok : HOk P w H h) (e : H a = some (.dT kvs)) : kvs.length <= sizeLine /\ (a == sysModules) = false ∧
    ∃ xs, KT H kvs xs /\ h.DictOfH (tupleKind (mixKind P w)) a xs := dt_rd ok (.inl e)
end
def DGet (H : Hp) (a : Addr) (y : V) (r : Option V) : Prop :=
  (∃ kvs k, Rd H a (.dK kvs) /\ y = kV k /\ r = valV kvs k) ∨ ∃ kvs k b, Rd H a (.dT kvs) /\ y = .ref b /\ H b = some (.tup (k.map kV)) /\ r = valV kvs k
def DPut (H : Hp) (a : Addr) (y v : V) (H' : Hp) : Prop :=
  (∃ kvs k, H a = some (.dK kvs) /\ y = kV k /\ kvs.length < sizeLine /\ H' = upd H a (.dK (putK kvs k v))) ∨
  ∃ kvs k b, H a = some (.dT kvs) /\ y = .ref b /\ H b = some (.tup (k.map kV)) /\ kvs.length < sizeLine /\ H' = upd H a (.dT (putK kvs k v))
theorem DGet.k {H : Hp} {a : Addr} {kvs : List (Key × V)} {k : Key} (e : H a = some (.dK kvs)) : DGet H a (kV k) (valV kvs k) := .inl ⟨kvs, k, .inl e, rfl, rfl⟩
theorem DPut.k {H : Hp} {a : Addr} {kvs : List (Key × V)} {k : Key} {v : V} (e : H a = some (.dK kvs)) (hl : kvs.length < sizeLine) : DPut H a (kV k) v (upd H a (.dK (putK kvs k v))) := .inl ⟨kvs, k, e, rfl, hl, rfl⟩
section
variable {X : Cx} {pins : List (Addr × Obj)} {σ : St} {H : Hp} {s : Shared} {a : Addr} {y v : V} {u r : Value} {o : Option V} {A : Around} {E : Value -> Shared -> Prop}
theorem Inv.big (I : Inv X pins σ H s) : sysModules < s.heap.objs.size := by
  have h : mainGlobals < s.heap.objs.size := (I.mod.glob.keeps I.bk).lt
  exact Nat.lt_trans (by decide) h
theorem d_in {Q : Value -> Shared -> Prop} (hu : A.units + 1 < cLine) (I : Inv X pins σ H s) (g : DGet H a y o) (ry : RelV y u) (h : ∀ s', Inv X pins σ H s' -> Q (.bool o.isSome) s') :
    wpAny (model X.prog X.w) A (compareOp .In u (.ref a)) Q E s := by
  rcases g with ⟨kvs, k, e, ey, l⟩ | ⟨kvs, k, b, e, ey, eb, l⟩
  . subst ey; obtain ⟨z, hd, vs, rel, dd⟩ := dk_rd I.hok e
    refine wpAny_in_of (kV_is ry) hd dd.mapOf ?_
    rw [<- (rel.val k).isSome_eq, <- l]; exact h _ (I.tok _)
  . subst ey; cases (show u = Value.ref b from ry)
    obtain ⟨z, hd, xs, rel, dd⟩ := dt_rd I.hok e
    refine wpAny_in_heap (tupleKind_room_in1 hu) (key_of I.hok eb) hd dd ?_
    have q := (rel.val k).isSome_eq
    rw [Option.isSome_map] at q; rw [<- q, <- l]; exact h _ (I.tok _)
theorem d_notIn {Q : Value -> Shared -> Prop} (hu : A.units + 1 < cLine) (I : Inv X pins σ H s) (g : DGet H a y o) (ry : RelV y u) (h : ∀ s', Inv X pins σ H s' -> Q (.bool (!o.isSome)) s') :
    wpAny (model X.prog X.w) A (compareOp .NotIn u (.ref a)) Q E s := by
  rcases g with ⟨kvs, k, e, ey, l⟩ | ⟨kvs, k, b, e, ey, eb, l⟩
  . subst ey; obtain ⟨z, hd, vs, rel, dd⟩ := dk_rd I.hok e
    refine wpAny_notIn_of (kV_is ry) hd dd.mapOf ?_
    rw [<- (rel.val k).isSome_eq, <- l]; exact h _ (I.tok _)
  . subst ey; cases (show u = Value.ref b from ry)
    obtain ⟨z, hd, xs, rel, dd⟩ := dt_rd I.hok e
    refine wpAny_notIn_heap (tupleKind_room_in1 hu) (key_of I.hok eb) hd dd ?_
    have q := (rel.val k).isSome_eq
    rw [Option.isSome_map] at q; rw [<- q, <- l]; exact h _ (I.tok _)
theorem d_write {h' : Heap} {t' : Nat} {ob : HO} (I : Inv X pins σ H s) (mu : Mut (H a)) (hs : Heap.SameBut a s.heap h') (he : ∃ q, h'.get? a = some q) (new : ObjOk X.prog X.w (upd H a ob) h' a ob) :
    Inv X pins σ (upd H a ob) { s with heap := h', toks := t' } :=
  I.write (x := a) (e := a) mu (.inl rfl) (fun b q hb z => (hs.2 b hb).trans z) he new
theorem dk_new {P : Program} {w : World} {H' : Hp} {h' : Heap} {kvs : List (Key × V)} {vs : List (Key × Value)} (z : kvs.length <= sizeLine) (hd : (a == sysModules) = false) (rel : KV kvs vs) (dd : h'.DictOf (mixKind P w) a vs) :
    ObjOk P w H' h' a (.dK kvs) := ⟨z, hd, vs, rel, dd⟩
theorem d_setItem {H' : Hp} {Q : Unit -> Shared -> Prop} (hu : A.units + 1 < cLine) (I : Inv X pins σ H s) (g : DPut H a y v H') (ry : RelV y u) (rv : RelV v r) (h : ∀ s', Inv X pins σ H' s' -> Q () s') :
    wpAny (model X.prog X.w) A (setItem (.ref a) u r) Q E s := by
  rcases g with ⟨kvs, k, e, ey, l, eH⟩ | ⟨kvs, k, b, e, ey, eb, l, eH⟩
  . subst ey eH; obtain ⟨z, hd, vs, rel, dd⟩ := dk_of I.hok e
    have hz : vs.length <= sizeLine := by rw [<- rel.length]; exact z
    have hl : (putK kvs k v).length <= sizeLine := by have := length_putK kvs k v; omega
    refine wpAny_setItem_pairs (hsz := hz) (kV_is ry) dd fun h' dd' hs => h _ ?_
    have he : ∃ q, h'.get? a = some q := let ⟨q, _, _, hq, _⟩ := dd'; ⟨q, hq⟩
    exact d_write I (by rw [e]; exact True.intro) hs he (dk_new hl hd (rel.put k rv) dd')
  . subst ey eH; cases (show u = Value.ref b from ry)
    obtain ⟨z, hd, xs, rel, dd⟩ := dt_of I.hok e
    have hz : xs.length <= sizeLine := by rw [<- Paired.length rel]; exact z
    have hl : (putK kvs k v).length <= sizeLine := by have := length_putK kvs k v; omega
    refine wpAny_setItem_heap (hsz := hz) (tupleKind_room_in1 hu) (key_of I.hok eb) dd fun h' dd' hs => h _ ?_
    obtain ⟨q, es, ep, hq, h2, h3, h4, _, h5⟩ := dd'
    refine d_write I (by rw [e]; exact True.intro) hs ⟨q, hq⟩ ⟨hl, hd, _, (rel.put k eb rv).keeps fun c ys ec => ?_, q, es, ep, hq, h2, h3, h4, h5⟩
    rw [upd_ne (ne_of ec e (fun z => nomatch z))]
    exact ec
end
theorem dk_empty {P : Program} {w : World} {H : Hp} (h : Heap) (hb : sysModules < h.objs.size) : ObjOk P w H (h.push { cls := .type "dict", data := .dict #[] }) h.objs.size (.dK []) :=
  ⟨Nat.zero_le _, beq_eq_false_iff_ne.mpr (Ne.symm (Nat.ne_of_lt hb)), [], .nil, Heap.DictOf.new h⟩
def tDNewK : TE := fun _ H Q => ∀ p, H p = none -> Q (.ref p) (upd H p (.dK []))
section
variable {X : Cx} {pos : Pos}
theorem pe_dnewK : PE X (.Dict [] [] pos) tDNewK := fun pins s σ H Q I h =>
  wpAny_Dict_empty ⟨.ref s.heap.objs.size, _, I.laid (a := s.heap.objs.size) (o := .dK []) (t' := s.toks) (fun _ _ q => Zpu _ q) (Znr _) (dk_empty s.heap I.big), rfl, h _ (I.hok.fresh (Znr _))⟩
end
end L2
namespace Att
open PySem PySem.W PySem.Calls PyProof.Rows
theorem ints_of_wellAll {P : Params} {h : Heap} : ∀ (ns : List Int) (vs : List Value), WellAll P h vs (ns.map WData.int) -> IntsAre vs ns := by
  intro ns; induction ns with
  | nil =>
    intro vs w; rw [List.map_nil] at w; cases w
    exact .nil
  | cons n ns ih =>
    intro vs w; rw [List.map_cons] at w; cases w with
    | cons a b =>
      cases a
      exact .cons _ _ (ih _ b)
theorem script_of {l : OpenLaw} {n : Nat} (hn : l.most = some n) {P : Params} {h : Heap} {args : List WData} {vals : List Value}
    (hpre : l.row.toRowW.claim.pre args = true) (hwl : WellAll P h vals args) :
    ∃ a vs ns, vals = [Value.ref a] /\ args = [WData.list (ns.map WData.int)] /\ h.get? a = some { cls := .type "list", data := .seq vs.toArray } /\ IntsAre vs ns /\ ns.length <= n := by
  have hsh : WShape.hasAll [] args [.list .int] = true := (pre_splitW hpre).1
  have hc : l.pre.holds [] { args := args } = true := (pre_splitW hpre).2
  obtain ⟨d, r, rfl, h1, h2⟩ := hasAllW_cons hsh
  obtain rfl := hasAllW_nil h2
  obtain ⟨xs, rfl, h3⟩ := hasW_list h1
  obtain ⟨ns, rfl⟩ := items_int h3
  have hlen : ns.length <= n := by
    unfold OpenLaw.pre at hc; have h4 : (WTm.not (.lt (.lit (.int (n : Int))) (.len (.arg 0)))).holds [] { args := [.list (ns.map .int)] } = true := by
      have h4 := (holds_andW hc).1
      rw [hn] at h4; exact h4
    have h5 := condW_of h4 (w_not (w_lt w_lit (w_len_list (w_arg rfl))))
    rw [Zlm] at h5; refine Nat.le_of_not_lt fun q => ?_
    have q' : (n : Int) < ((ns.length : Nat) : Int) := by omega
    first
      | (rw [decide_eq_true q'] at h5; exact absurd h5 (by decide))
      | (simp at h5; omega)
  cases hwl with
  | cons w1 w2 =>
    cases w2
    cases w1 with
    | list ho hall => exact ⟨_, _, ns, rfl, rfl, ho, ints_of_wellAll ns _ hall, hlen⟩
theorem post_true (l : OpenLaw) (args : List WData) : l.row.toRowW.claim.post args (.bool true) args = true :=
  postW_of (r := l.row.toRowW) (X := (true == true))
    (show WShape.has [] (.bool true) .bool = true by first | rfl | decide | simp [WShape.has, WShape.arms, WShape.armsAll])
    (show (WTm.eq .res (.lit (.bool true))).value [] { args := args, res := some (.bool true), after := args } = some (.bool (true == true)) from w_eq_bool (w_res rfl) w_lit) rfl
theorem attach_call {l : OpenLaw} {n : Nat} {q : Program} {loose : List Str} {XP : (Str -> Option Value) -> Heap -> Prop} {YP : World -> Heap -> Prop} {d : DefRec}
    (hn : l.most = some n) (hdf : d.params.defaults = [])
    (call : ∀ (w : World) (s₀ s₁ : Shared) (mg mb : Str -> Option Value) (fa : Addr) (o : Obj) (pm cd doc : Value) (a : Addr) (vs : List Value) (ns : List Int),
      Ground q loose [] XP w s₀ mg mb s₁.heap -> YP w s₁.heap →
      s₁.heap.get? fa = some o -> o.data = .func (docDef d.name d.params d.body d.scope pm cd doc) -> s₁.heap.CodeRec cd d.name -> mg d.name = some (.ref fa) →
      s₁.heap.get? a = some { cls := .type "list", data := .seq vs.toArray } -> IntsAre vs ns -> ns.length <= n -> s₁.gens = #[] →
      codeAny (model l.prog w) callerA (.call (.ref fa) ⟨[.ref a], []⟩) (fun r s' => r = .ok (.ret (.bool true)) /\ OldK s₁.heap s'.heap /\ s'.os = s₁.os /\ AllBare s'.gens) s₁) :
    WalkO q loose XP YP l.row.toRowW d [] (fun f vs => PySem.call f vs) := by
  intro w s₀ s₁ mg mb G Y fa o pm cd doc dV kV ho hd hcd hD hmg hg args vals as hpre hlay hrd hwl hlo; obtain rfl : dV = .none := Dflts.none hD hdf
  obtain rfl : kV = .none := Dflts.noKw hD
  obtain ⟨a, vs, ns, rfl, rfl, hobj, hints, hlen⟩ := script_of hn hpre hwl
  refine enter_call (codeAny_mono (call w s₀ s₁ mg mb fa o pm cd doc a vs ns G Y ho (fd_plain hd) hcd hmg hobj hints hlen hg) fun r s' hq => ?_)
  obtain ⟨rfl, h2, h3, h4⟩ := hq
  exact ⟨.inl ⟨.bool true, .bool true, [], rfl, fun _ => rfl, .bool true, post_true l _, fun _ => ⟨List.Pairwise.nil, fun _ hm => (nomatch hm)⟩⟩, h2, h3, h4⟩
end Att
namespace L2
open PySem PySem.Spec PyProof.Rows
theorem vals_ints : ∀ {vs : List Value} {ns : List Int}, IntsAre vs ns -> Vals (ns.map V.int) vs
  | _, _, .nil => .nil
  | _, _, .cons n t h => .cons ⟨t, rfl⟩ (vals_ints h)
def Only (H : Hp) : Prop := ∀ b, H b = none ∨ ∃ o xs, H b = some (.frz o (.lst xs))
theorem law_call {P : Program} {w : World} {K : W.Frag} {mg mb : Str -> Option Value} {CX : CXT} {k : Nat} {fa a : Addr} {fd : FuncData} {x : Str} {sp : Sp} {s₁ : Shared} {vs : List Value} {ns : List Int}
    (KX : K.In s₁.heap) (hns : s₁.heap.Ns mainGlobals mg) (hb : s₁.heap.Ns builtinsNs mb) (hbb : ∀ x : Str, x ≠ "__name__" -> mb x = bootBuiltins x) (hlim : s₁.heap.NoLimit) (hg : s₁.gens = #[])
    (ha : s₁.heap.get? a = some { cls := .type "list", data := .seq vs.toArray }) (hi : IntsAre vs ns) (hl : ns.length <= sizeLine) (hr : Room k callerA)
    (F : ∀ base : Heap, K.In base -> base.Ns mainGlobals mg -> FnOk P w K mg base CX k fa fd [x] sp) (hbind : ∀ (s : Shared) (u : Value), BindsTo s fd ⟨[u], []⟩ [(x, u)])
    (hsp : ∀ H : Hp, Only H -> SqL K H a (ns.map V.int) -> sp [.ref a] H (fun v _ => v = .bl true) fun _ _ _ => False)
    (hCX : ∀ H e s', CX [] H s₁ (fun _ _ _ => False) e s' -> False) :
    codeAny (model P w) callerA (.call (.ref fa) ⟨[.ref a], []⟩) (fun r s' => r = .ok (.ret (.bool true)) /\ OldK s₁.heap s'.heap /\ s'.os = s₁.os /\ AllBare s'.gens) s₁ := by
  have rv := vals_ints hi
  have lenV := hi.length
  have core : ∀ H : Hp, Only H -> SqL K H a (ns.map V.int) -> HOk P w H s₁.heap -> (∀ b, H b ≠ none -> b = a) -> (H a ≠ none -> K.lookup a = none) →
      codeAny (model P w) callerA (.call (.ref fa) ⟨[.ref a], []⟩) (fun r s' => r = .ok (.ret (.bool true)) /\ OldK s₁.heap s'.heap /\ s'.os = s₁.os /\ AllBare s'.gens) s₁ := by
    intro H hO hS hok hA hK; have base_of : ∀ {b : Addr} {o : Obj}, s₁.heap.get? b = some o -> H b = none -> (hidT s₁.heap H).get? b = some o := fun e n => hidT_get e n
    have noA : ∀ {b : Addr} {o : Obj} {es : Array DictEntry} {ep : Nat}, s₁.heap.get? b = some o -> o.data = .dict es ep -> H b = none := fun {b o es ep} e d => by
      cases q : H b with
      | none => rfl
      | some u =>
        have e' : b = a := hA b (by rw [q]; simp)
        subst e'; rw [ha] at e; cases e
        have d' : Data.seq vs.toArray _ = Data.dict es ep := d
        cases d'
    have nsK : ∀ {b : Addr} {m : Str -> Option Value}, s₁.heap.Ns b m -> (hidT s₁.heap H).Ns b m := fun {b m} ⟨o, es, ep, e, d, r⟩ => ⟨o, es, ep, base_of e (noA e d), d, r⟩
    have hKb : K.In (hidT s₁.heap H) := fun b o e => base_of (KX b o e) (by
      cases q : H b with
      | none => rfl
      | some u =>
        have e' : b = a := hA b (by rw [q]; simp)
        subst e'; rw [hK (by rw [q]; simp)] at e; cases e)
    have hM : Mod K mg (hidT s₁.heap H) := ⟨hKb, nsK hns, ⟨mb, nsK hb, hbb⟩, let ⟨mc, h1, h2⟩ := hlim; ⟨mc, nsK h1, h2⟩⟩
    have e0 : Env0 P w K mg (hidT s₁.heap H) callerA [] s₁ H := ⟨rfl, hM, fun b o e => of_hidT e, Nat.le_of_eq (hidT_size _ _), trivial, fun b hb => absurd (show b ∈ ([] : List Addr) from hb) (by simp), hok, .of_eq hg⟩
    refine codeAny_mono ((F _ hKb (nsK hns)).run callerA [] s₁ H ⟨[.ref a], []⟩ [.ref a] [.ref a] _ _ hr e0 (hbind s₁ (.ref a)) (.cons rfl .nil) (hsp H hO hS)) fun r s' h => ?_
    cases r with
    | error e => exact (hCX H e s' h).elim
    | ok fl =>
      cases fl with
      | next => exact False.elim h
      | brk => exact False.elim h
      | cont => exact False.elim h
      | ret u =>
        obtain ⟨v, H', os, bare, un, hok', r', q⟩ := h
        have q' : v = .bl true := q
        subst q'; obtain rfl : u = Value.bool true := r'
        refine ⟨rfl, OldK.of_keep fun b o e => ?_, os, bare⟩
        cases q : H b with
        | none => exact un.keep b o e q (by intro z; exact absurd (show b ∈ ([] : List Addr) from z) (by simp)) (by simp)
        | some u =>
          rcases hO b with z | ⟨ob, xs, z⟩
          . rw [q] at z; cases z
          . have z2 := un.frzs b ob _ z
            obtain ⟨e1, _⟩ := hok b _ z
            obtain ⟨e2, _⟩ := hok' b _ z2
            rw [e] at e1; cases e1
            exact e2
  cases hk : K.lookup a with
  | some o =>
    have e := KX a o hk
    rw [ha] at e; cases e
    refine core (fun _ => none) (fun _ => .inl rfl) (.inr ⟨_, vs.toArray, _, hk, rfl, rfl, rfl, by rw [Zst, lenV]; exact hl, by simpa using rv⟩) (fun b u z => by have z' : (none : Option HO) = some u := z; cases z') (fun b z => absurd rfl z) fun z => absurd rfl z
  | none =>
    refine core (fun b => if b = a then some (.frz { cls := .type "list", data := .seq vs.toArray } (.lst (ns.map V.int))) else none) (fun b => ?_) (.inl (.inr ⟨{ cls := .type "list", data := .seq vs.toArray }, if_pos rfl⟩)) (fun b u z => ?_) (fun b z => ?_) fun _ => hk
    . by_cases hb : b = a
      . exact .inr ⟨_, _, if_pos hb⟩
      . exact .inl (if_neg hb)
    . by_cases hb : b = a
      . have z' := (if_pos hb).symm.trans z
        cases z'
        subst hb; exact ⟨ha, by rw [Zlm]; exact hl, vs, _, rv, ha⟩
      . have z' := (if_neg hb).symm.trans z
        cases z'
    . by_cases hb : b = a
      . exact hb
      . exact absurd (if_neg hb) z
end L2
namespace L2
open PySem PySem.Spec PyProof.Rows
theorem walk_of {l : W.OpenLaw} {n k : Nat} {q : Program} {loose : List Str} {XP : (Str -> Option Value) -> Heap -> Prop} {YP : World -> Heap -> Prop} {d : DefRec} {K : Params -> W.Frag} {CX : World -> CXT} {sp : World -> Sp} {x : Str}
    (hn : l.most = some n) (hn2 : n <= sizeLine) (hdf : d.params.defaults = []) (hr : Room k callerA)
    (hY : ∀ (w : World) (h : Heap), YP w h -> (K w.params).In h)
    (F : ∀ (w : World) (mg : Str -> Option Value) (fa : Addr) (h : Heap), (K w.params).In h -> h.Ns mainGlobals mg -> mg d.name = some (.ref fa) →
      ∃ fd : FuncData, (∀ (s : Shared) (u : Value), BindsTo s fd ⟨[u], []⟩ [(x, u)]) ∧
        ∀ base : Heap, (K w.params).In base -> base.Ns mainGlobals mg -> FnOk l.prog w (K w.params) mg base (CX w) k fa fd [x] (sp w))
    (hsp : ∀ (w : World) (H : Hp) (a : Addr) (ns : List Int), ns.length <= n -> Only H -> SqL (K w.params) H a (ns.map V.int) -> sp w [.ref a] H (fun v _ => v = .bl true) fun _ _ _ => False)
    (hCX : ∀ (w : World) (H : Hp) (s : Shared) (e : Value) (s' : Shared), CX w [] H s (fun _ _ _ => False) e s' -> False) :
    W.WalkO q loose XP YP l.row.toRowW d [] (fun f vs => PySem.call f vs) := by
  refine Att.attach_call hn hdf fun w s₀ s₁ mg mb fa o pm cd doc a vs ns G Y ho hd hcd hmg hobj hints hlen hg => ?_
  have KX := hY w _ Y
  obtain ⟨fd, hb, hF⟩ := F w mg fa _ KX G.T.g hmg
  exact law_call KX G.T.g G.T.b G.T.builtins G.T.nolimit hg hobj hints (Znt hlen hn2) hr hF hb (fun H hO hS => hsp w H a ns hlen hO hS) fun H e s' => hCX w H s₁ e s'
end L2
/- THE LAST THEOREM (shape; LID, My.* are yours):
   My.Adr: a structure of the addresses that your layer names (classes, functions); My.Txt K t: a structure (Prop) of the equations over K;
   My.txt_mk : {K} {implicit addresses ..} (e1 : nsIn K mainGlobals "law" = some (some (.ref f))) (e2 : K.lookup f = some ⟨oc, od, .func (fnOf "law" "law" params body scope dV kV doc pm an cdv ct), sl⟩) (e3 : codeIn K cdv "law" = true) .. : ∃ t, My.Txt K t
set_option maxRecDepth 100000 in
set_option maxHeartbeats 0 in
theorem PySem.Challenge.cw_LID_holds : PySem.Challenge.rw_LID.Holds := by
  w_on; o_law; k_head; (case hw => w_witness2)
  k_fill
  refine L2.walk_of (l := PySem.Challenge.rw_LID) (n := 63) (k := 40) (x := "script") (CX := fun w => ..) (sp := fun _ => My.sp_law) rfl (by decide) rfl ⟨rfl, by decide, by decide⟩ (fun w h Y => W.kIn_of Y) ?F ?S ?C
  case F =>
    intro w mg fa h KX G hmg; have T : ∃ t, My.Txt (L2.KOf KX) t := by
      dsimp only [L2.KOf]                          -- K must stand as «<heap const> w.params» for k_is
      refine' My.txt_mk ?e1 ?e2 ?e3 ..
      (case e1 => W.k_is)                    -- in the order: a name -> its address -> its object -> its parts
      (case e2 => W.k_is)
      ..
    obtain ⟨t, T⟩ := T
    have e0 := hmg.symm.trans (W.mg_of KX G T.law)
    cases e0                                       -- fa is the law's own address
    exact ⟨_, fun s u => .of_eq rfl, fun base kb nb => My.law_fn T kb nb⟩     -- if «.of_eq rfl» comes too early: refine' ⟨_, ?b, fun base kb nb => My.law_fn T kb nb⟩; exact fun s u => .of_eq rfl
  case S => exact fun w H a ns hl hO hS => ..
  case C => exact ..
(the tactic k_is has no namespace: write k_is) -/
namespace L2
open PySem PySem.Spec PyProof.Rows
def defArgs (s : Stmt) : Arguments := match s with
  | .FunctionDef _ a _ _ _ _ _ _ _ _ => a
  | _ => { posonlyargs := [], args := [], vararg := none, kwonlyargs := [], kw_defaults := [], kwarg := none, defaults := [] }
def defBody (s : Stmt) : List Stmt := match s with
  | .FunctionDef _ _ b _ _ _ _ _ _ _ => b
  | _ => []
def defScope (s : Stmt) : Scope := match s with
  | .FunctionDef _ _ _ _ _ _ sc _ _ _ => sc
  | _ => { kind := .function, names := [], isGenerator := false, isCoroutine := false }
abbrev CX0 : CXT := fun _ _ _ _ _ _ => False
abbrev E0 : XK := fun _ _ _ => False
theorem pass0 {X : Cx} : Passes CX0 X E0 := fun _ _ _ _ _ _ _ h => h.elim
structure Fun (K : W.Frag) (x qual : Str) (st : Stmt) (f : Addr) (fd : FuncData) : Prop where
  ex : ∃ (oc : Value) (od : Option Addr) (kV doc pm : Value) (an : Option Addr) (cdv ct : Value) (osl : Array (Option Value)),
    fd = W.fnOf x qual (defArgs st) (defBody st) (defScope st) .none kV doc pm an cdv ct /\ K.lookup f = some ⟨oc, od, .func fd, osl⟩ /\ W.codeIn K cdv qual = true
  kp : W.keepIn K (.ref f) = true
section
variable {P : Program} {w : World} {K : W.Frag} {mg : Str -> Option Value} {base : Heap}
theorem Fun.ok {x qual : Str} {st : Stmt} {f : Addr} {fd : FuncData} {N ps : List Str} {k : Nat} {sp : Sp} (F : Fun K x qual st f fd) (S : FnScope N ps (defScope st)) (len : ∀ vs H Q E, sp vs H Q E -> vs.length = ps.length)
    (hbody : ∀ (cdv : Value) (A : Around) (outer : List Env) (s : Shared) (H : Hp) (vs : List V) (Q : VK) (E : XK), Room k (A.deeper (envOfC qual (defScope st) s.heap.objs.size f cdv)) -> sp vs H Q E →
      ∃ t, PSs (cxOf CX0 P w K mg base N qual (defScope st) f cdv A outer s H E).nox (defBody st) t /\ t { nx := fun _ H' => Q .non H', rt := Q } (start N vs) H) : FnOk P w K mg base CX0 (k + 1) f fd ps sp := by
  obtain ⟨oc, od, kV, doc, pm, an, cdv, ct, osl, rfl, lk, hcd⟩ := F.ex
  refine fn_of lk hcd S len fun A outer s H vs Q E hr hsp => ?_
  obtain ⟨t, h, q⟩ := hbody cdv A outer s H vs Q E hr hsp
  exact ⟨t, h.nox, q⟩
theorem Fun.binds {x qual : Str} {st : Stmt} {f : Addr} {fd : FuncData} {ps : List Str} (F : Fun K x qual st f fd)
    (h : ∀ (kV doc pm : Value) (an : Option Addr) (cdv ct : Value) (us : List Value), us.length = ps.length -> bindArgs (W.fnOf x qual (defArgs st) (defBody st) (defScope st) .none kV doc pm an cdv ct) ⟨us, []⟩ = pure (ps.zip us)) : Binds K fd ps [] := by
  obtain ⟨oc, od, kV, doc, pm, an, cdv, ct, osl, rfl, lk, hcd⟩ := F.ex
  exact .all (h kV doc pm an cdv ct)
theorem fun_mk {x qual : Str} {st : Stmt} {f : Addr} {oc : Value} {od an : Option Addr} {osl : Array (Option Value)} {kV doc pm cdv ct : Value} (l : K.lookup f = some ⟨oc, od, .func (W.fnOf x qual (defArgs st) (defBody st) (defScope st) .none kV doc pm an cdv ct), osl⟩)
    (c : W.codeIn K cdv qual = true) (k : W.keepIn K (.ref f) = true) : Fun K x qual st f (W.fnOf x qual (defArgs st) (defBody st) (defScope st) .none kV doc pm an cdv ct) := ⟨⟨oc, od, kV, doc, pm, an, cdv, ct, osl, rfl, l, c⟩, k⟩
end
theorem hu_of {A : Around} {k : Nat} (hr : Room k A) : A.units + 1 < cLine := Znl (Nat.add_le_add_left (by decide : 1 <= 64) _) hr.units
def Same (H H' : Hp) : Prop := ∀ b o, H b = some o -> H' b = some o
theorem Same.trans {H H1 H2 : Hp} (a : Same H H1) (b : Same H1 H2) : Same H H2 := fun c o h => b c o (a c o h)
theorem Same.free {H H' : Hp} (e : Same H H') {l : Addr} (h : H' l = Option.none) : H l = Option.none := by
  cases q : H l with
  | none => rfl
  | some o =>
    rw [e l o q] at h; cases h
theorem Same.seq {K : W.Frag} {H H' : Hp} {a : Addr} {xs : List V} (e : Same H H') (h : SqL K H a xs) : SqL K H' a xs := by
  rcases h with (h | ⟨o, h⟩) | h
  . exact .inl (.inl (e _ _ h))
  . exact .inl (.inr ⟨o, e _ _ h⟩)
  . exact .inr h
end L2
namespace L2
open PySem PySem.Spec PyProof.Rows
def clOf (env : Env) : List (Str × NameKind) -> List (Str × Addr) -> List (Str × Addr)
  | [], cs => cs
  | (n, k) :: r, cs => clOf env r (if k = .free then (match env.cells.lookup n with | some c => (n, c) :: cs | none => cs) else cs)
theorem closure_go {env : Env} : ∀ (names : List (Str × NameKind)) (cs : List (Str × Addr)), (∀ x ∈ names, x.2 = .free -> ∃ c, env.cells.lookup x.1 = some c) →
    (forIn names cs fun (x : Str × NameKind) (r : List (Str × Addr)) => (do
      if x.2 == .free then do
        let c ← cellOf env x.1
        pure (ForInStep.yield ((x.1, c) :: r))
      else pure (ForInStep.yield r) : Sem _)) = pure (clOf env names cs)
  | [], cs, _ => rfl
  | (n, k) :: r, cs, h => by
    rw [List.forIn_cons]; by_cases hk : k = .free
    . subst hk; obtain ⟨c, hc⟩ := h (n, .free) Zcs rfl
      have hc' : env.cells.lookup n = some c := hc
      have e1 : cellOf env n = pure c := by unfold cellOf; rw [hc']
      simp only [beq_self_eq_true, if_true, e1, pure_bind]
      rw [closure_go r ((n, c) :: cs) fun x hx => h x (Zmc _ hx)]
      simp [clOf, hc']
    . have hb : (k == NameKind.free) = false := by simpa using hk
      simp only [hb, Bool.false_eq_true, if_false, pure_bind]
      rw [closure_go r cs fun x hx => h x (Zmc _ hx)]
      simp [clOf, hk]
theorem closure_ok {scope : Scope} {env : Env} (h : ∀ x ∈ scope.names, x.2 = .free -> ∃ c, env.cells.lookup x.1 = some c) : closureFor scope env = pure (clOf env scope.names []) := by
  have e := closure_go scope.names [] h
  unfold closureFor; exact (congrArg (fun z => z >>= fun (r : List (Str × Addr)) => (pure r : Sem _)) e).trans (pure_bind _ _)
theorem cl_sound {env : Env} : ∀ (names : List (Str × NameKind)) (cs : List (Str × Addr)), (∀ y d, (y, d) ∈ cs -> env.cells.lookup y = some d) -> ∀ y d, (y, d) ∈ clOf env names cs -> env.cells.lookup y = some d
  | [], _, h => h
  | (n, k) :: r, cs, h => by
    unfold clOf; refine cl_sound r _ fun y d hm => ?_
    split at hm
    . split at hm
      . rename_i c hc
        rcases List.mem_cons.mp hm with e | e
        . cases e; exact hc
        . exact h y d e
      . exact h y d hm
    . exact h y d hm
theorem cl_from {env : Env} : ∀ (names : List (Str × NameKind)) (cs : List (Str × Addr)) (y : Str) (d : Addr), (y, d) ∈ clOf env names cs -> (y, .free) ∈ names ∨ (y, d) ∈ cs
  | [], _, _, _, h => .inr h
  | (n, k) :: r, cs, y, d, h => by
    unfold clOf at h; rcases cl_from r _ y d h with e | hm
    . exact .inl (Zmc _ e)
    . split at hm
      . rename_i hk
        split at hm
        . rcases List.mem_cons.mp hm with e | e
          . cases e; subst hk; exact .inl Zcs
          . exact .inr e
        . exact .inr hm
      . exact .inr hm
theorem cl_has {env : Env} : ∀ (names : List (Str × NameKind)) (cs : List (Str × Addr)) (y : Str), ((∃ d, (y, d) ∈ cs) ∨ (y, .free) ∈ names) -> (∀ x ∈ names, x.2 = .free -> ∃ c, env.cells.lookup x.1 = some c) -> ∃ d, (y, d) ∈ clOf env names cs
  | [], _, _, h, _ => by
    rcases h with h | h
    . exact h
    . cases h
  | (n, k) :: r, cs, y, h, hf => by
    unfold clOf; refine cl_has r _ y ?_ fun x hx => hf x (Zmc _ hx)
    rcases h with ⟨d, hd⟩ | h
    . refine .inl ⟨d, ?_⟩
      split
      . split
        . exact Zmc _ hd
        . exact hd
      . exact hd
    . rcases List.mem_cons.mp h with e | e
      . have e1 : y = n := congrArg Prod.fst e
        have e2 : NameKind.free = k := congrArg Prod.snd e
        subst e1 e2; obtain ⟨c, hc⟩ := hf (y, .free) Zcs rfl
        have hc' : env.cells.lookup y = some c := hc
        refine .inl ⟨c, ?_⟩
        rw [if_pos rfl, hc']; exact Zcs
      . exact .inr e
theorem mem_lookup {α : Type} : ∀ {l : List (Str × α)} {y : Str} {d : α}, (y, d) ∈ l -> ∃ d', l.lookup y = some d' /\ (y, d') ∈ l
  | (n, c) :: r, y, d, h => by
    by_cases e : y = n
    . subst e; exact ⟨c, by simp [List.lookup_cons], Zcs⟩
    . rcases List.mem_cons.mp h with q | q
      . cases q; exact absurd rfl e
      . obtain ⟨d', h1, h2⟩ := mem_lookup q
        have hb : (y == n) = false := by simpa using e
        exact ⟨d', by rw [List.lookup_cons, hb]; exact h1, Zmc _ h2⟩
theorem cl_lookup {env : Env} {names : List (Str × NameKind)} {y : Str} {c : Addr} (h : (clOf env names []).lookup y = some c) : env.cells.lookup y = some c /\ (y, .free) ∈ names := by
  have hm := PySem.mem_of_lookup h
  refine ⟨cl_sound names [] (fun _ _ z => nomatch z) y c hm, ?_⟩
  rcases cl_from names [] y c hm with e | e
  . exact e
  . cases e
theorem cl_some {env : Env} {names : List (Str × NameKind)} {y : Str} (h : (y, .free) ∈ names) (hf : ∀ x ∈ names, x.2 = .free -> ∃ c, env.cells.lookup x.1 = some c) : ∃ c, (clOf env names []).lookup y = some c /\ env.cells.lookup y = some c := by
  obtain ⟨d, hd⟩ := cl_has names [] y (.inr h) hf
  obtain ⟨c, hc, _⟩ := mem_lookup hd
  exact ⟨c, hc, (cl_lookup hc).1⟩
theorem relabel_free {scope : Scope} {env : Env} (hcell : ∀ y ∈ scope.names, y.2 ≠ .cell) {x : Str} (h : (relabel scope env).names.lookup x = some .cell ∨ (relabel scope env).names.lookup x = some .free) : (x, .free) ∈ scope.names := by
  have go : ∀ {k : NameKind}, k = .cell ∨ k = .free -> (relabel scope env).names.lookup x = some k -> (x, .free) ∈ scope.names := fun {k} hk h => by
    have hm := PySem.mem_of_lookup h
    unfold relabel at hm; obtain ⟨⟨n, j⟩, hp, e⟩ := Zmm.mp hm
    dsimp only at e
    split at e
    . rename_i hc
      cases e
      have : j = .free := by
        have := (Bool.and_eq_true_iff.mp (Bool.and_eq_true_iff.mp hc).1).1
        simpa using this
      subst this; exact hp
    . cases e
      rcases hk with q | q
      . exact absurd q (hcell _ hp)
      . subst q; exact hp
  rcases h with h | h
  . exact go (.inl rfl) h
  . exact go (.inr rfl) h
theorem relabel_some {env : Env} : ∀ {names : List (Str × NameKind)} {x : Str}, names.lookup x = some .free →
    (names.map fun (n, k) => if (k == NameKind.free && env.scope.kind == .function && env.kindOf n == some .cell) then (n, NameKind.cell) else (n, k)).lookup x = some .cell ∨
    (names.map fun (n, k) => if (k == NameKind.free && env.scope.kind == .function && env.kindOf n == some .cell) then (n, NameKind.cell) else (n, k)).lookup x = some .free
  | [], _, h => by simp at h
  | (n, k) :: r, x, h => by
    have ih := @relabel_some env r x
    rw [List.map_cons]; dsimp only; cases hx : x == n with
    | true =>
      simp only [List.lookup_cons, hx] at h
      cases h
      split
      . left; simp [List.lookup_cons, hx]
      . right; simp [List.lookup_cons, hx]
    | false =>
      simp only [List.lookup_cons, hx] at h
      split
      . simp only [List.lookup_cons, hx]; exact ih h
      . simp only [List.lookup_cons, hx]; exact ih h
def cxC (X : Cx) (scope : Scope) (C : Addr) (N : List Str) (s₂ : Shared) (H₂ : Hp) (fp : List Addr) : Cx where
  prog := X.prog
  w := X.w
  K := X.K
  mg := X.mg
  base := X.base
  A := X.A
  N := N
  s₀ := s₂
  H₀ := H₂
  env := compEnvC scope (clOf X.env scope.names []) C X.env
  outer := X.stack
  stack := X.stack
  ex := fp
  fn := fun _ => false
  calm := X.calm
  pn := []
  xe := fun _ _ => False
def stC (js : List (Option Nat)) (σ : St) : St := js.map fun o => match o with | some j => (σ[j]?).getD none | none => none
structure CompScope (X : Cx) (scope : Scope) (N : List Str) (js : List (Option Nat)) : Prop where
  kind : scope.kind = .function
  nocell : ∀ y ∈ scope.names, y.2 ≠ .cell
  loc : ∀ y ∈ scope.names, y.2 = .local -> scope.names.lookup y.1 = some .local
  len : js.length = N.length
  cap : ∀ (i j : Nat), js[i]? = some (some j) -> ∃ x, N[i]? = some x /\ X.N[j]? = some x /\ scope.names.lookup x = some .free
  out : ∀ y ∈ scope.names, y.2 = .free -> X.env.kindOf y.1 = some .cell ∨ X.env.kindOf y.1 = some .free
def GOwn (js : List (Option Nat)) (g : TG) : Prop := ∀ x σ H Q, g x σ H Q -> g x σ H fun σ2 H2 => Q σ2 H2 /\ σ2.length = σ.length /\ ∀ (i j : Nat), js[i]? = some (some j) -> σ2[i]? = σ[i]?
theorem gown_name {js : List (Option Nat)} {k : Nat} (h : js[k]? = some none) : GOwn js (gName k) := fun x σ H Q q => by
  refine ⟨q, by simp, fun i j e => ?_⟩
  have : k ≠ i := fun z => by subst z; rw [h] at e; cases e
  rw [List.getElem?_set_ne this]
section
variable {X : Cx} {pins : List (Addr × Obj)} {σ : St} {H H' : Hp} {s : Shared}
theorem Un.more {fs ex : List Addr} {H H' : Hp} {h h' : Heap} {D : Addr} {o : HO} (u : Un fs ex H H' h h') (hD : h.get? D = none) (hH : H D = none) : Un fs ex H (upd H' D o) h h' where
  keep := u.keep
  slot := u.slot
  free := fun b ob q n hx => by
    have : b ≠ D := fun z => by rw [z, hD] at q; cases q
    rw [upd_ne this]; exact u.free b ob q n hx
  there := u.there
  tups := fun b xs q => by rw [upd_ne (ne_of_none q hH)]; exact u.tups b xs q
  frzs := fun b ob xs q => by rw [upd_ne (ne_of_none q hH)]; exact u.frzs b ob xs q
  tbls := fun b ps q => by rw [upd_ne (ne_of_none q hH)]; exact u.tbls b ps q
theorem HOk.more {P : Program} {w : World} {h : Heap} {D : Addr} {o : HO} (k : HOk P w H h) (hH : H D = none) (new : ObjOk P w (upd H D o) h D o) : HOk P w (upd H D o) h := fun b u e => by
  by_cases hb : b = D
  . subst hb; rw [upd_same] at e; cases e; exact new
  . rw [upd_ne hb] at e; exact (k b u e).stay (fun _ _ _ q => q) (fun c q => by rw [upd_ne (ne_of_none q hH)]; exact q) fun c xs q => by rw [upd_ne (ne_of_none q hH)]; exact q
theorem CompScope.ok {scope : Scope} {N : List Str} {js : List (Option Nat)} {C : Addr} {fp : List Addr} (S : CompScope X scope N js) (I : Inv X pins σ H s) (hC : s.heap.objs.size <= C) (hf : ∀ b ∈ fp, FpOk X pins H b) (hl : ∀ b ∈ fp, b < s.heap.objs.size) :
    (cxC X scope C N s H fp).Ok where
  mod := I.ok.mod
  kind := S.kind
  glob := I.ok.glob
  blt := I.ok.blt
  above := hC
  inj := fun x y c h1 h2 => I.ok.inj x y c (cl_lookup h1).1 (cl_lookup h2).1
  has := fun x hx => by
    have hm : (x, .free) ∈ scope.names := relabel_free S.nocell hx
    obtain ⟨c, h1, _⟩ := cl_some (env := X.env) hm fun y hy hk => I.ok.has y.1 (S.out y hy hk)
    exact ⟨c, h1⟩
  cab := fun x c z => nomatch z
  hd := I.ok.hd
  frames := I.ok.frames
  stk := .inl rfl
  exf := fun b hb => ⟨Nat.ne_of_lt (Nat.lt_of_lt_of_le (hl b hb) hC), fun x c e => (hf b hb).2.2.2.2.1 x c (cl_lookup e).1⟩
  bs := I.bs
  bsz := Znt I.ok.bsz I.sz
  noex := fun b o e hb => by
    rcases (hf b hb).2.2.2.1 with z | z
    . exact I.ok.noex b o e z
    . exact absurd (Nat.lt_of_lt_of_le (Heap.lt_size e) (Znt I.ok.bsz z)) (Nat.lt_irrefl _)
  exfs := fun b hb hm => by
    rcases List.mem_cons.mp (I.stkSub b hm) with z | z
    . exact (hf b hb).2.1 z
    . exact (hf b hb).2.2.1 z
  funs := I.stack
  frf := I.stkFree
theorem CompScope.start {scope : Scope} {N : List Str} {js : List (Option Nat)} {C D : Addr} {fp : List Addr} {ob : Obj} {h₁ : Heap} {m : Str -> Option Value} {tk : Nat} (S : CompScope X scope N js) (I : Inv X pins σ H s) (hC : s.heap.objs.size <= C) (hD : s.heap.objs.size <= D) (hDC : D ≠ C)
    (hf : ∀ b ∈ fp, FpOk X pins H b) (hl : ∀ b ∈ fp, b < s.heap.objs.size) (k : ∀ b o, s.heap.get? b = some o -> h₁.get? b = some o) (hns : h₁.Ns C m) (eD : h₁.get? D = some ob) (nc : ∀ v, ob.data ≠ .cell v) :
    Inv (cxC X scope C N s H fp) [(D, ob)] (stC js σ) H { s with heap := h₁, toks := tk } where
  ok := S.ok I hC hf hl
  os := rfl
  bare := I.bare
  base := Un.kept k
  loc := by
    refine ⟨m, hns, fun i x v h1 h2 h3 => ?_⟩
    have h1 : N[i]? = some x := h1
    unfold stC at h2; rw [Zgm] at h2; cases e : js[i]? with
    | none => rw [e] at h2; cases h2
    | some o =>
      rw [e] at h2; cases o with
      | none => cases h2
      | some j =>
        have h2' : (σ[j]?).getD none = some v := Option.some.inj h2
        have hσ : σ[j]? = some (some v) := by
          cases q : σ[j]? with
          | none => rw [q] at h2'; cases h2'
          | some z => rw [q] at h2'; exact congrArg some h2'
        obtain ⟨y, e1, e2, e3⟩ := S.cap i j e
        rw [h1] at e1; cases e1
        have hfree : (x, .free) ∈ scope.names := PySem.mem_of_lookup e3
        have ho := S.out (x, .free) hfree rfl
        obtain ⟨mX, _, hlX⟩ := I.loc
        have hvX : Vis X.env.scope x := by
          rcases ho with z | z
          . exact .inr (.inl z)
          . exact .inr (.inr z)
        obtain ⟨u, r, l⟩ := hlX j x v e2 hσ hvX
        refine ⟨u, r, .inr ?_⟩
        rcases l with ⟨hk, _⟩ | ⟨hk, c, hc, hcell⟩
        . rcases ho with z | z
          . have z' : X.env.kindOf x = some .cell := z
            rw [hk] at z'; cases z'
          . have z' : X.env.kindOf x = some .free := z
            rw [hk] at z'; cases z'
        . obtain ⟨c', h1', h2''⟩ := cl_some (env := X.env) hfree fun y hy hk => I.ok.has y.1 (S.out y hy hk)
          rw [hc] at h2''; cases h2''
          refine ⟨relabel_some e3, c, h1', ?_⟩
          obtain ⟨oc, q1, q2⟩ := hcell
          exact ⟨oc, k c oc q1, q2⟩
  cell := fun x c e => by
    obtain ⟨v, oc, q1, q2⟩ := I.cell x c (cl_lookup e).1
    exact ⟨v, oc, k c oc q1, q2⟩
  free := I.hok.fresh hC
  freeC := fun x c e => I.freeC x c (cl_lookup e).1
  pin := fun p hp => by
    have e : p = (D, ob) := by
      rcases Zma.mp hp with z | z
      . exact absurd (show p ∈ ([] : List (Addr × Obj)) from z) (by simp)
      . simpa using z
    subst e; refine ⟨eD, I.hok.fresh hD, hDC, fun hm => ?_, nc⟩
    rcases List.mem_cons.mp (I.stkSub D hm) with z | z
    . have z : D = X.env.locals := z
      have := I.lt
      rw [<- z] at this; exact absurd (Nat.lt_of_lt_of_le this hD) (Nat.lt_irrefl _)
    . exact I.nofs hD z
  hok := I.hok.kept k
  len := by
    unfold stC; rw [Zlm]; exact S.len
end
def PTs (X : Cx) (cs : List Expr) (t : TT) : Prop :=
  ∀ (pins : List (Addr × Obj)) (s : Shared) (σ : St) (H : Hp) (Q : Bool -> Hp -> Prop) (E : Value -> Shared -> Prop), Inv X pins σ H s -> t σ H Q →
    wpAny (model X.prog X.w) X.A (forIn cs true fun c r => if r = true then do let ok ← isTrue c X.env (eval c X.env); pure (ForInStep.yield ok) else pure (ForInStep.yield r)) (TP X pins σ Q) E s
def tTrue : TT := fun _ H Q => Q true H
theorem pts_nil {X : Cx} : PTs X [] tTrue := fun pins s σ H Q E I h => wpAny_tests_nil ⟨H, I, h⟩
theorem pts_one {X : Cx} {c : Expr} {t : TT} (h : PT X c t) (hx : X.xe = fun _ _ => False := by rfl) : PTs X [c] t := fun pins s σ H Q E I q =>
  wpAny_tests_one (wpAny_mono (h pins s σ H Q I q) (fun _ _ z => z) fun e s' z => by rw [hx] at z; exact z.elim)
def wComp (js : List (Option Nat)) (g : TG) (tt : TT) (te : TE) (σ : St) (J : It) (H1 : Hp) (Q : List V -> Hp -> Prop) : Prop :=
  ∃ W : Nat -> Nat -> List V -> Hp -> Prop, (∃ m, W 0 m [] H1) /\ ∀ i m ys H, W i m ys H →
    (J.stop i H /\ Q ys H) ∨
    (J.go i H /\ ys.length < sizeLine /\ ∃ N : List V -> Hp -> Prop, (∀ ys' H', N ys' H' -> ∃ m', m' < m /\ W (i + 1) m' ys' H') ∧
      ∀ x H', J.yld i H x H' -> g x (stC js σ) H' fun σ2 H2 => tt σ2 H2 fun b H3 => if b = true then te σ2 H3 fun y H4 => N (ys ++ [y]) H4 else N ys H3)
def tComp (wi : TI) (js : List (Option Nat)) (g : TG) (tt : TT) (te : TE) : TE := fun σ H Q => wi σ H fun J H1 =>
  wComp js g tt te σ J H1 fun ys H2 => ∀ p, H2 p = none -> Q (.ref p) (upd H2 p (.lst ys))
section
variable {X : Cx} {tg iter elt : Expr} {ifs : List Expr} {scope : Scope} {N : List Str} {js : List (Option Nat)} {wi : TI} {g : TG} {tt : TT} {te : TE} {pos : Pos}
theorem comp_block {pins : List (Addr × Obj)} {σ : St} {H2 : Hp} {s2 : Shared} {it : Addr} {fp : List Addr} {tn : Nat -> Heap -> Prop} {J : It} {Qf : List V -> Hp -> Prop} {RR : Value -> Addr -> Result -> Shared -> Prop} {E : Value -> Shared -> Prop} (hc : X.calm = true) (S : CompScope X scope N js) (go : GOwn js g)
    (hb : ∀ (C : Addr) (s₂ : Shared) (H₂ : Hp) (fp : List Addr), PG (cxC X scope C N s₂ H₂ fp) tg g /\ PTs (cxC X scope C N s₂ H₂ fp) ifs tt /\ PE (cxC X scope C N s₂ H₂ fp) elt te)
    (I2 : Inv X pins σ H2 s2) (T : Turn X.prog X.w X.K tg J fp it tn) (st2 : tn 0 s2.heap) (f2 : ∀ b ∈ fp, FpOk X pins H2 b) (hw : wComp js g tt te σ J H2 Qf)
    (hRR : ∀ (C D : Addr) (ys : List V) (H3 : Hp) (s3 : Shared) (m : Str -> Option Value), s2.heap.objs.size <= C -> s2.heap.objs.size <= D -> D ≠ C -> Inv X pins σ (upd H3 D (.lst ys)) s3 -> H3 C = none -> H3 D = none -> s3.heap.Ns C m -> Qf ys H3 -> RR (.ref D) C (.ok .next) s3) :
    wpAny (model X.prog X.w) X.A (newList []) (fun acc s₃ => wpAny (model X.prog X.w) X.A (newFunctionEnv scope X.env.globals (clOf X.env scope.names []) [] X.env.qual none .none (some X.env)) (fun cenv s₄ =>
      codeAny (model X.prog X.w) X.A (.compStart (.ListComp elt [⟨tg, iter, ifs, 0⟩] scope pos) 0 (.ref it) acc { cenv with scope := relabel scope X.env }) (RR acc cenv.locals) s₄) E s₃) E s2 := by
  obtain ⟨W, ⟨m0, w0⟩, turn⟩ := hw
  refine wpAny_newObj_type (wpAny_newFunctionEnv S.nocell (by intro y hy; simp at hy) (fun h₁ hns₁ hsb₁ => ?_) S.kind)
  dsimp only at hns₁ hsb₁ ⊢
  generalize hH2 : s2.heap.push { cls := .type "list", dict := none, data := .seq ([] : List Value).toArray } = HP at hns₁ hsb₁ ⊢; have hC : HP.objs.size = s2.heap.objs.size + 1 := by rw [<- hH2, Heap.size_push]
  have hDC : s2.heap.objs.size ≠ HP.objs.size := by rw [hC]; exact Nat.ne_of_lt (Nat.lt_succ_self _)
  have hCle : s2.heap.objs.size <= HP.objs.size := by rw [hC]; exact Nat.le_succ _
  have old : ∀ b o, s2.heap.get? b = some o -> h₁.get? b = some o := fun b o e => hsb₁.extBut b o (by rw [hC]; exact Nat.ne_of_lt (Nat.lt_succ_of_lt (Heap.lt_size e))) (Zpu _ (hH2 ▸ Zpu _ e))
  have hacc : h₁.get? s2.heap.objs.size = some { cls := .type "list", data := .seq ([] : List Value).toArray 0 } := hsb₁.extBut _ _ hDC (Zpu _ (hH2 ▸ Heap.get?_push_size _ rfl))
  have hfl : ∀ b ∈ fp, b < s2.heap.objs.size := fun b hb => by
    obtain ⟨o, e, _⟩ := T.obj _ _ st2 b hb
    exact Heap.lt_size e
  generalize hDn : s2.heap.objs.size = D at hDC hCle hacc ⊢; generalize hCn : HP.objs.size = C at hDC hCle hns₁ ⊢; have hCs : s2.heap.objs.size <= C := by rw [hDn]; exact hCle
  have hDs : s2.heap.objs.size <= D := Nat.le_of_eq hDn
  obtain ⟨pg, pt, pe⟩ := hb C s2 H2 fp
  have I0 := S.start (D := D) (fp := fp) (tk := s2.toks + ([] : List (Str × Value)).length) I2 hCs hDs hDC f2 hfl old hns₁ hacc (fun v z => nomatch z)
  have fpY : ∀ {H' : Hp} {pl : List (Addr × Obj)}, (∀ b ∈ fp, H' b = none) -> (∀ p ∈ pl, p.1 ∉ fp) -> ∀ b ∈ fp, FpOk (cxC X scope C N s2 H2 fp) pl H' b := fun hn hp b hb =>
    ⟨hn b hb, Nat.ne_of_lt (Nat.lt_of_lt_of_le (hfl b hb) hCs), (S.ok I2 hCs f2 hfl).exfs b hb, .inl hb, fun x c e => (f2 b hb).2.2.2.2.1 x c (cl_lookup e).1, fun p hm z => by
      rcases Zma.mp hm with q | q
      . exact absurd (show p ∈ ([] : List (Addr × Obj)) from q) (by simp)
      . exact hp p q (z ▸ hb)⟩
  have dfp : D ∉ fp := fun z => absurd (Nat.lt_of_lt_of_le (hfl D z) hDs) (Nat.lt_irrefl _)
  have one : ∀ {ob : Obj}, ∀ p ∈ [(D, ob)], p.1 ∉ fp := fun p hp => by
    have e := Zms.mp hp
    subst e; exact dfp
  have loop : ∀ s₃ : Shared, s₃ = { s2 with heap := h₁, toks := s2.toks + ([] : List (Str × Value)).length } →
      codeAny (model X.prog X.w) X.A (.compLoop (.ListComp elt [⟨tg, iter, ifs, 0⟩] scope pos) 0 (.ref it) (.ref D) (compEnvC scope (clOf X.env scope.names []) C X.env)) (RR (.ref D) C) s₃ := by
    rintro s₃ rfl
    refine codeAny_loop rfl (fun n s' => ∃ (i : Nat) (ys : List V) (H' : Hp) (its : List Value) (k : Nat), Inv (cxC X scope C N s2 H2 fp) [(D, { cls := .type "list", data := .seq its.toArray k })] (stC js σ) H' s' /\ Vals ys its /\ ys.length <= sizeLine /\ tn i s'.heap /\ (∀ b ∈ fp, H' b = none) /\ W i n ys H') ?_ m0 ?_
    . rintro n s3 ⟨i, ys, H3, its, k, I3, rv, hz, st3, fr3, w3⟩
      show wpAny _ X.A ((compTurn (.ListComp elt [⟨tg, iter, ifs, 0⟩] scope pos) 0 (.ref it) (.ref D) (compEnvC scope (clOf X.env scope.names []) C X.env)).onRaise (fun x => do noteFrame x _; theTreesLotGoes x)) _ _ s3
      refine wpAny_noted (wpAny_noRaise ?_)
      rw [compTurn_list]; rcases turn i n ys H3 w3 with ⟨stop, qn⟩ | ⟨goes, hlt, Nx, hN, step⟩
      . refine wpAny_bind (wpAny_standAt (wpAny_bind (thn (T.done (cxC X scope C N s2 H2 fp) rfl rfl rfl hc i _ s3 (stC js σ) H3 (fun _ _ => False) I3 (fpY fr3 one) st3 stop) fun r s4 ⟨hr, I4⟩ => ?_)))
        subst hr; refine wpAny_pure ?_
        have pD := I4.pin (D, { cls := .type "list", data := .seq its.toArray k }) (by simp [cxC])
        obtain ⟨mC, hnC, _⟩ := id I4.loc
        have IX : Inv X pins σ (upd H3 D (.lst ys)) s4 := by
          refine I2.call' (ch := fp) I4.os (Un.more I4.base (Heap.get?_none_of_le hDs) (I2.hok.fresh hDs)) (HOk.more I4.hok pD.2.1 ⟨hz, its, k, rv, pD.1⟩) I4.bare fun b hb => ?_
          obtain ⟨_, f1, _, f3, f4, f5⟩ := f2 b hb
          exact ⟨f3, f1, f4, f5⟩
        exact hRR C D ys H3 s4 mC hCs hDs hDC IX I4.free pD.2.1 hnC qn
      . refine wpAny_bind (wpAny_standAt (wpAny_bind (thn (T.item (cxC X scope C N s2 H2 fp) rfl rfl rfl hc i _ s3 (stC js σ) H3 (fun _ _ => False) I3 (fpY fr3 one) st3 goes) fun r s4 ⟨u, hr, h4⟩ => ?_)))
        subst hr; refine wpAny_bind (thn h4 fun _ s5 ⟨x, H5, I5, r5, y5, st5, fr5⟩ => ?_)
        have I5' := I5.pinned (fpY fr5 one) (T.obj _ _ st5)
        refine wpAny_bind (thn (pg _ s5 (stC js σ) H5 x u _ I5' r5 (go _ _ _ _ (step x H5 y5))) fun _ s6 ⟨σ6, H6, I6, ⟨q6, l6, e6⟩⟩ => ?_)
        have weak : ∀ {pl : List (Addr × Obj)} {H7 : Hp} {s7 : Shared}, Inv (cxC X scope C N s2 H2 fp) pl σ6 H7 s7 -> Inv (cxC X scope C N s2 H2 fp) pl (stC js σ) H7 s7 := fun {pl H7 s7} I7 => by
          refine I7.weak l6.symm fun j v hj => ?_
          cases e : js[j]? with
          | none => unfold stC at hj; rw [Zgm, e] at hj; cases hj
          | some o =>
            cases o with
            | none => unfold stC at hj; rw [Zgm, e] at hj; cases hj
            | some j' => rw [e6 j j' e]; exact hj
        have keepN : ∀ {H7 : Hp} {s7 : Shared} {pl : List (Addr × Obj)}, Inv (cxC X scope C N s2 H2 fp) (pl ++ pinsAt fp s5.heap) (stC js σ) H7 s7 -> tn (i + 1) s7.heap /\ ∀ b ∈ fp, H7 b = none := fun {H7 s7 pl} I7 => by
          refine ⟨T.keep _ _ _ st5 fun b hb o e => (I7.pin (b, o) (List.mem_append_right _ (List.mem_append_right _ (mem_pinsAt hb e)))).1, fun b hb => ?_⟩
          obtain ⟨o, e, d⟩ := T.obj _ _ st5 b hb
          exact (I7.pin (b, o) (List.mem_append_right _ (List.mem_append_right _ (mem_pinsAt hb e)))).2.1
        refine wpAny_bind (thn (pt _ s6 σ6 H6 _ _ I6 q6) fun ok s7 ⟨H7, I7, q7⟩ => ?_)
        cases ok with
        | false =>
          rw [if_neg Bool.false_ne_true] at q7; refine wpAny_pure ⟨rfl, ?_⟩
          obtain ⟨m', hm, w7⟩ := hN ys H7 q7
          have I7' := weak I7
          obtain ⟨k1, k2⟩ := keepN I7'
          exact ⟨m', hm, i + 1, ys, H7, its, k, I7'.unpinned, rv, hz, k1, k2, w7⟩
        | true =>
          rw [if_pos rfl] at q7; show wpAny _ _ ((eval elt _ >>= fun x => call (.builtin "list.append") [.ref D, x] >>= fun _ => pure ()) >>= fun _ => again _) _ _ _
          refine wpAny_bind (wpAny_bind (thn (pe _ s7 σ6 H7 _ I7 q7) fun y s8 ⟨yv, H8, I8, r8, q8⟩ => ?_))
          obtain ⟨m', hm, w8⟩ := hN (ys ++ [yv]) H8 q8
          have I8' := weak I8
          obtain ⟨k1, k2⟩ := keepN I8'
          have pD := I8'.pin (D, { cls := .type "list", data := .seq its.toArray k }) (by simp [cxC])
          have hln := rv.length
          refine wpAny_bind (call_meets F.slot_list_append ⟨_, pD.1, rfl⟩ F.entry_list_append (F.args_list_append_2 _ _) (PySem.list_append D its.toArray k y (by rw [Zst]; omega)) ⟨pD.1, ?_⟩)
          refine wpAny_pure (wpAny_pure ⟨rfl, m', hm, i + 1, ys ++ [yv], H8, its ++ [y], ?_⟩)
          have q := PySem.IsL.update pD.1 (fun z => z.push y)
          have eA : its.toArray.push y = (its ++ [y]).toArray := by simp
          rw [eA] at q; have I9 : Inv (cxC X scope C N s2 H2 fp) [] (stC js σ) H8 s8 := I8'.pins_of fun p hp => absurd hp (by simp)
          have hob : ∀ b o, b ≠ D -> s8.heap.get? b = some o -> (s8.heap.update D (Obj.mapSeq fun z => z.push y)).get? b = some o := fun b o hb hu => (Heap.get?_update_other s8.heap _ (Ne.symm hb)).trans hu
          have I10 : Inv (cxC X scope C N s2 H2 fp) [] (stC js σ) H8 { s8 with heap := s8.heap.update D (Obj.mapSeq fun z => z.push y), toks := s8.toks } := I9.turned hob pD.2.1 pD.2.2.1 (.inr hDs)
            (fun x c e z => by
              obtain ⟨v, oc, q1, q2⟩ := I2.cell x c (cl_lookup e).1
              rw [z] at q1; exact absurd (Nat.lt_of_lt_of_le (Heap.lt_size q1) hDs) (Nat.lt_irrefl _))
            (fun p hp => by
              rcases Zma.mp hp with q | q
              . exact absurd (show p ∈ ([] : List (Addr × Obj)) from q) (by simp)
              . exact absurd q (by simp))
          refine ⟨(if ((its ++ [y]).toArray).size == its.toArray.size then k else k + 1), I10.pins_of fun p hp => ?_, rv.append (.cons r8 .nil), ?_, ?_, k2, w8⟩
          . have e := Zms.mp hp
            subst e; exact ⟨q, pD.2.1, pD.2.2.1, pD.2.2.2.1, fun v z => nomatch z⟩
          . rw [Zla, List.length_singleton]; omega
          . exact T.keep _ _ _ k1 fun b hb o e => hob b o (fun z => dfp (z ▸ hb)) e
    . exact ⟨0, [], H2, [], 0, I0, .nil, Nat.zero_le _, T.keep _ _ _ st2 fun b _ o e => old b o e, fun b hb => (f2 b hb).1, w0⟩
  exact codeAny_compStart_list (loop _ rfl) (T.self _ 0 _ _ _ (T.keep _ _ _ st2 fun b _ o e => old b o e) (loop _ rfl))
theorem pe_comp (hc : X.calm = true) (S : CompScope X scope N js) (go : GOwn js g) (hi : PI X tg iter wi)
    (hb : ∀ (C : Addr) (s₂ : Shared) (H₂ : Hp) (fp : List Addr), PG (cxC X scope C N s₂ H₂ fp) tg g /\ PTs (cxC X scope C N s₂ H₂ fp) ifs tt /\ PE (cxC X scope C N s₂ H₂ fp) elt te)
    (hs : ∀ x, foldedSetIterable iter X.env x = pure x := by intro _; rfl) : PE X (.ListComp elt [⟨tg, iter, ifs, 0⟩] scope pos) (tComp wi js g tt te) := by
  intro pins s σ H Q I h; rw [eval_ListComp]; refine wpAny_comprehension_free (use := none) rfl hs (closure_ok fun y hy hk => I.ok.has y.1 (S.out y hy hk)) S.kind S.loc (thn (hi pins s σ H _ I h) fun v s1 h1 => thn h1 fun itv s2 h2 => ?_)
  obtain ⟨it, fp, tn, J, H2, e, I2, T, st2, f2, hw⟩ := h2
  subst e; refine comp_block (RR := fun acc C => compPost (model X.prog X.w) X.A X.xe none (EP X pins σ Q) acc C) hc S go hb I2 T st2 f2 hw ?_
  intro C D ys H3 s3 m hC hD hDC I3 fC fD hn q; refine ⟨m, hn, fun h' hs' => ?_⟩
  refine ⟨.ref D, upd H3 D (.lst ys), I3.turned (it := C) (t' := s3.toks) (fun b o hb e => (hs'.2 b hb).trans e) (by rw [upd_ne (Ne.symm hDC)]; exact fC) ?_ (.inr (Znt I2.sz hC)) ?_ ?_, rfl, q D fD⟩
  . exact Nat.ne_of_gt (Nat.lt_of_lt_of_le I2.lt hC)
  . intro x c e z; obtain ⟨v, oc, q1, q2⟩ := I2.cell x c e
    rw [z] at q1; exact absurd (Nat.lt_of_lt_of_le (Heap.lt_size q1) hC) (Nat.lt_irrefl _)
  . intro p hp z; have := Heap.lt_size (I2.pin p hp).1
    rw [z] at this; exact absurd (Nat.lt_of_lt_of_le this hC) (Nat.lt_irrefl _)
end
end L2
namespace L2
open PySem PySem.Spec PyProof.Rows
def Its (x : Str) : It := ⟨fun i _ => i < x.cps.size, fun i H v H' => H' = H /\ ∃ c, x.cps[i]? = some c /\ v = .str ⟨#[c]⟩, fun i _ => x.cps.size <= i⟩
theorem turn_ascii {P : Program} {w : World} {K : W.Frag} {tg : Expr} (it : Addr) (x : Str) (t : Tok) : Turn P w K tg (Its x) [it] it (fun i h => h.IsStrIter it "str_ascii_iterator" x t i) where
  mem := by simp
  obj := fun i h st b hb => by
    have e : b = it := by simpa using hb
    subst e; obtain ⟨o, e, c, d⟩ := st
    exact ⟨o, e, fun v z => by rw [d] at z; cases z⟩
  keep := fun i h h' st k => let ⟨o, ho, r⟩ := st; ⟨o, k it (by simp) o ho, r⟩
  item := by
    intro X hP hw hK hc i pins s σ H E I hf st hg; subst hP hw hK; obtain ⟨f0, f1, f2, f3, f4, f5⟩ := hf it (by simp)
    have hi : i < x.cps.size := hg
    refine wpAny_pyNext_ascii_item st (c := x.cps[i]) (by simp [hi]) fun h' st' sb => ?_
    have I1 : Inv X pins σ H { s with heap := h', toks := s.toks + 1 } := I.turned (fun b o hb e => (sb.2 b hb).trans e) f0 f1 f3 f4 f5
    obtain ⟨o, e, c, d⟩ := id st'
    exact ⟨_, rfl, go_of (s := { s with heap := h', toks := s.toks + 1 }) e c d (by decide) ⟨.str ⟨#[x.cps[i]]⟩, H, I1, ⟨_, rfl⟩, ⟨rfl, _, by simp [hi], rfl⟩, st', fun b hb => (hf b hb).1⟩⟩
  done := by
    intro X hP hw hK hc i pins s σ H E I hf st hg; subst hP hw hK; obtain ⟨f0, f1, f2, f3, f4, f5⟩ := hf it (by simp)
    have hi : x.cps.size <= i := hg
    exact wpAny_pyNext_ascii_end (I.ok.hd hc) st (by simp [hi]) fun h' eb => ⟨rfl, I.turned (t' := s.toks) (fun b o hb e => eb b o hb e) f0 f1 f3 f4 f5⟩
  self := fun _ _ _ _ _ st h => wpAny_pyIter_striter_ascii st h
theorem turn_wide {P : Program} {w : World} {K : W.Frag} {tg : Expr} (it : Addr) (x : Str) (t : Tok) : Turn P w K tg (Its x) [it] it (fun i h => h.IsStrIter it "str_iterator" x t i) where
  mem := by simp
  obj := fun i h st b hb => by
    have e : b = it := by simpa using hb
    subst e; obtain ⟨o, e, c, d⟩ := st
    exact ⟨o, e, fun v z => by rw [d] at z; cases z⟩
  keep := fun i h h' st k => let ⟨o, ho, r⟩ := st; ⟨o, k it (by simp) o ho, r⟩
  item := by
    intro X hP hw hK hc i pins s σ H E I hf st hg; subst hP hw hK; obtain ⟨f0, f1, f2, f3, f4, f5⟩ := hf it (by simp)
    have hi : i < x.cps.size := hg
    refine wpAny_pyNext_wide_item st (c := x.cps[i]) (by simp [hi]) fun h' st' sb => ?_
    have I1 : Inv X pins σ H { s with heap := h', toks := s.toks + 1 } := I.turned (fun b o hb e => (sb.2 b hb).trans e) f0 f1 f3 f4 f5
    obtain ⟨o, e, c, d⟩ := id st'
    exact ⟨_, rfl, go_of (s := { s with heap := h', toks := s.toks + 1 }) e c d (by decide) ⟨.str ⟨#[x.cps[i]]⟩, H, I1, ⟨_, rfl⟩, ⟨rfl, _, by simp [hi], rfl⟩, st', fun b hb => (hf b hb).1⟩⟩
  done := by
    intro X hP hw hK hc i pins s σ H E I hf st hg; subst hP hw hK; obtain ⟨f0, f1, f2, f3, f4, f5⟩ := hf it (by simp)
    have hi : x.cps.size <= i := hg
    exact wpAny_pyNext_wide_end (I.ok.hd hc) st (by simp [hi]) fun h' eb => ⟨rfl, I.turned (t' := s.toks) (fun b o hb e => eb b o hb e) f0 f1 f3 f4 f5⟩
  self := fun _ _ _ _ _ st h => wpAny_pyIter_striter_wide st h
section
variable {X : Cx} {tg : Expr}
def iStr (tl : TE) : TI := fun σ H R => tl σ H fun x H1 => ∃ z, x = .str z /\ R (Its z) H1
theorem pi_str {l : Expr} {tl : TE} (hl : PE X l tl) : PI X tg l (iStr tl) := by
  intro pins s σ H R I h; refine thn (hl pins s σ H _ I h) fun v s1 ⟨x, H1, I1, r1, q1⟩ => ?_
  obtain ⟨z, rfl, q⟩ := q1
  obtain ⟨t, rfl⟩ := r1
  have fp : ∀ b ∈ [s1.heap.objs.size], FpOk X pins H1 b := fun b hb => by
    have e : b = s1.heap.objs.size := by simpa using hb
    subst e; exact I1.fpOk (Znr _) (I1.hok.fresh (Znr _))
  cases ha : z.cps.all (· < 128)
  . refine wpAny_pyIter_wide ha ?_
    exact ⟨s1.heap.objs.size, [s1.heap.objs.size], _, _, H1, rfl, I1.kept (t' := s1.toks) fun b o e => Zpu _ e, turn_wide _ z t, ⟨_, Heap.get?_push_size _ rfl, rfl, rfl⟩, fp, q⟩
  . refine wpAny_pyIter_ascii ha ?_
    exact ⟨s1.heap.objs.size, [s1.heap.objs.size], _, _, H1, rfl, I1.kept (t' := s1.toks) fun b o e => Zpu _ e, turn_ascii _ z t, ⟨_, Heap.get?_push_size _ rfl, rfl, rfl⟩, fp, q⟩
end
abbrev tx (l : List Nat) : Str := ⟨l.toArray⟩
theorem tx_cps (x : Str) : tx x.cps.toList = x := by cases x; simp
theorem tx_len (l : List Nat) : (tx l).length = l.length := by simp [Str.length]
theorem tx_app (a b : List Nat) : tx a ++ tx b = tx (a ++ b) := by
  show Str.append (tx a) (tx b) = _
  unfold Str.append; simp
theorem tx_inj {a b : List Nat} : tx a = tx b ↔ a = b := by
  constructor
  . intro h; have := congrArg (fun s : Str => s.cps.toList) h
    simpa using this
  . intro h; rw [h]
def cut {α : Type} (xs : List α) (lo hi : Option Int) : List α := (xs.drop (HT.sIx xs.length 0 lo)).take (HT.sIx xs.length xs.length hi - HT.sIx xs.length 0 lo)
theorem clip_ix (n d : Nat) (v : Option Int) : (match v with | none => (d : Int) | some i => max 0 (min (if i < 0 then i + (n : Int) else i) (n : Int))) = ((HT.sIx n d v : Nat) : Int) := by
  cases v with
  | none => rfl
  | some i =>
    show max 0 (min (if i < 0 then i + (n : Int) else i) (n : Int)) = (((if i < 0 then (i + (n : Int)).toNat else min i.toNat n) : Nat) : Int)
    by_cases h : i < 0
    . rw [if_pos h, if_pos h]; omega
    . rw [if_neg h, if_neg h]; omega
theorem slice_ix (lo hi : Option Int) (n : Nat) : Builtin.Str.strSliceIndices lo hi 1 n = (List.range (HT.sIx n n hi - HT.sIx n 0 lo)).map (HT.sIx n 0 lo + ·) := by
  rw [<- sliceRange_one, <- clip_ix n 0 lo, <- clip_ix n n hi]; unfold Builtin.Str.strSliceIndices; simp only [show (1 : Int) > 0 by decide, if_true]
  cases lo <;> cases hi <;> rfl
theorem sIx_le' (n d : Nat) (hd : d <= n) (v : Option Int) : HT.sIx n d v <= n := by
  cases v with
  | none => exact hd
  | some i =>
    show (if i < 0 then (i + (n : Int)).toNat else min i.toNat n) <= n
    split <;> omega
theorem slice_cps (x : Str) (lo hi : Option Int) : (Txt.slice x lo hi).cps.toList = cut x.cps.toList lo hi := by
  have hl : x.cps.toList.length = x.length := by simp [Str.length]
  unfold Txt.slice cut; rw [hl, slice_ix]; have key := pick_run x.cps (HT.sIx x.length 0 lo) (HT.sIx x.length x.length hi - HT.sIx x.length 0 lo)
  split
  . rename_i h
    have h2 : (HT.sIx x.length x.length hi - HT.sIx x.length 0 lo) = x.length := by simpa using h
    have h3 := sIx_le' x.length x.length (Znr _) hi
    have h4 : HT.sIx x.length 0 lo = 0 ∨ x.length = 0 := by omega
    rw [h2]; rcases h4 with h4 | h4
    . rw [h4, List.drop_zero, Ztl (by rw [hl]; exact Znr _)]
    . have e : x.cps.toList = [] := List.eq_nil_of_length_eq_zero (by rw [hl]; exact h4)
      rw [e]; simp
  . simpa using key
theorem slice_tx (x : Str) (lo hi : Option Int) : Txt.slice x lo hi = tx (cut x.cps.toList lo hi) := by
  rw [<- slice_cps, tx_cps]
section
variable {X : Cx}
def rSlS : V -> Option Int -> Option Int -> Hp -> VK -> Prop := fun x lo hi H Q => ∃ z, x = .str z /\ z.length <= sizeLine /\ Q (.str (tx (cut z.cps.toList lo hi))) H
theorem isSlice_of {h : Heap} {sl : Addr} {vl vu : Value} {lo hi : Option Int} (hs : h.IsSliceOf sl vl vu .none) (pl : IsPart vl lo) (pu : IsPart vu hi) : ∃ l u : Option (Int × Tok), h.IsSlice sl l u none /\ l.map (·.1) = lo /\ u.map (·.1) = hi := by
  cases pl with
  | none =>
    cases pu with
    | none => exact ⟨none, none, hs, rfl, rfl⟩
    | int j t => exact ⟨none, some (j, t), hs, rfl, rfl⟩
  | int i t =>
    cases pu with
    | none => exact ⟨some (i, t), none, hs, rfl, rfl⟩
    | int j u => exact ⟨some (i, t), some (j, u), hs, rfl, rfl⟩
theorem sl_str : SlR X rSlS := by
  intro pins s σ H x v vl vu lo hi sl Q I rx hs pl pu h; obtain ⟨z, rfl, hz, q⟩ := h
  obtain ⟨t, rfl⟩ := rx
  obtain ⟨l, u, hS, e1, e2⟩ := isSlice_of hs pl pu
  refine ⟨"str", _, F.slot_str_getitem.lookup, typeIs_str _ _ _, wpAny_getItem_str_slice hS rfl ?_⟩
  have fin : ∀ t' k, EP X pins σ Q (.str (Txt.slice z lo hi) t') { s with toks := k } := fun t' k => ⟨.str (tx (cut z.cps.toList lo hi)), H, I.tok _, ⟨t', by rw [slice_tx]⟩, q⟩
  subst e1 e2; exact post_val_or_str ⟨Znt (Txt.slice_le z _ _) hz, fun t' k => fin t' k⟩
theorem strsAre_of {ns : List Str} : ∀ {us : List Value}, Vals (ns.map V.str) us -> StrsAre us ns := by
  induction ns with
  | nil => intro us r; rw [List.map_nil] at r; cases r; exact .nil
  | cons n ns ih =>
    intro us r; rw [List.map_cons] at r; cases r with
    | cons r1 r2 =>
      obtain ⟨t, e⟩ := r1
      subst e; exact .cons n t (ih r2)
def rJoin (K : W.Frag) : V -> List V -> Hp -> VK -> Prop := fun x vs H Q => ∃ sep p ys, x = .str sep /\ vs = [.ref p] /\ SqL K H p (ys.map V.str) /\ (ys.map (·.length)).sum + ys.length * sep.length <= 16777216 /\ Q (.str (Txt.join sep ys)) H
theorem mt_join : MtR X "str.join" (rJoin X.K) := by
  intro pins s σ H x vs v us Q I rx rv h; obtain ⟨sep, p, ys, rfl, rfl, hq, hz, q⟩ := h
  obtain ⟨t, rfl⟩ := rx
  obtain ⟨u, rfl, ru⟩ := rv.one
  cases ru
  obtain ⟨its, r, pl, _⟩ := I.list hq
  exact join_list pl.isList (by simpa using strsAre_of r) hz fun t' k => ⟨.str _, H, I.tok _, ⟨_, rfl⟩, q⟩
def rIsi (K : W.Frag) : List V -> Hp -> VK -> Prop := fun vs H Q => ∃ x T t b, vs = [x, .ty T] /\ TyOf K H x t /\ W.kitOne K t (.type T) = some b /\ Q (.bl b) H
theorem call_isi : CallR X (.builtin "isinstance") (rIsi X.K) := by
  intro pins s σ H xs us Q I r h; obtain ⟨x, T, t, b, rfl, ty, e, q⟩ := h
  obtain ⟨u, c, rfl, ru, rc⟩ : ∃ u c, us = [u, c] /\ RelV x u /\ RelV (.ty T) c := by
    cases r with
    | cons p q =>
      cases q with
      | cons p' q' =>
        cases q'
        exact ⟨_, _, rfl, p, p'⟩
  cases (show c = Value.type T from rc)
  exact isinst_ok I ru ty e fun tk => ⟨.bl b, H, I.tok _, rfl, q⟩
def rSum (K : W.Frag) : List V -> Hp -> VK -> Prop := fun vs H Q => ∃ (p : Addr) (ns : List Int), vs = [.ref p] /\ SqL K H p (ns.map V.int) /\ Q (.int (List.sum ns)) H
theorem call_sum (hc : X.calm = true) : CallR X (.builtin "sum") (rSum X.K) := by
  intro pins s σ H xs us Q I r h; obtain ⟨p, ns, rfl, hq, q⟩ := h
  obtain ⟨u, rfl, ru⟩ := vals1 r
  cases ru
  obtain ⟨its, rv, pl, hz⟩ := I.list hq
  have hi := intsAre_of rv
  obtain ⟨xs, hx⟩ := hi.allInts.items
  have hl' : s.heap.IsList p (intItems xs) := hx ▸ pl.isList
  refine sum_intListG (I.ok.hd hc) hl' fun h' tk t' hk => ?_
  have e1 : ns = xs.toList.map (·.1) := by
    rw [<- nums_intItems, <- hx]; exact (show numsOf its.toArray.toList = ns from hi.numsOf).symm
  have e2 : preSum (numAt xs) xs.size = ns.sum := by
    rw [preSum_eq, Ztl (by simp), e1]
  rw [e2]; exact ⟨.int _, H, I.kept hk, ⟨_, rfl⟩, q⟩
end
section
variable {X : Cx}
def rEqNil (K : W.Frag) (neg : Bool) : R2 := fun x y H Q => ∃ (a b : Addr) (xs : List V), x = .ref a /\ y = .ref b /\ SqL K H a xs /\ SqL K H b [] /\ Q (.bl (if neg then !xs.isEmpty else xs.isEmpty)) H
theorem nil_items {us : List Value} (r : Vals [] us) : us = [] := by cases r; rfl
theorem op_eqNil (hu : X.A.units < cLine) : OpR X (compareOp .Eq) (rEqNil X.K false) := by
  intro pins s σ H x y v u Q I rx ry h; obtain ⟨a, b, xs, rfl, rfl, h1, h2, q⟩ := h
  cases rx
  cases ry
  obtain ⟨its, r1, p1, _⟩ := I.list h1
  obtain ⟨its2, r2, p2, _⟩ := I.list h2
  have e2 := nil_items r2
  subst e2; have hl := r1.length
  cases xs with
  | nil =>
    have e1 := nil_items r1
    subst e1; exact SeqAt.eq_listAt (e := fun _ => true) p1.isList p2.isList rfl hu (fun j h => absurd h (by simp)) ⟨.bl true, H, I, rfl, q⟩
  | cons z zs =>
    exact SeqAt.eq_list_lengthsAt p1.isList p2.isList (by simp only [Zst, <- hl]; simp) hu ⟨.bl false, H, I, rfl, q⟩
theorem op_neNil (hu : X.A.units < cLine) : OpR X (compareOp .NotEq) (rEqNil X.K true) := by
  intro pins s σ H x y v u Q I rx ry h; obtain ⟨a, b, xs, rfl, rfl, h1, h2, q⟩ := h
  cases rx
  cases ry
  obtain ⟨its, r1, p1, _⟩ := I.list h1
  obtain ⟨its2, r2, p2, _⟩ := I.list h2
  have e2 := nil_items r2
  subst e2; have hl := r1.length
  cases xs with
  | nil =>
    have e1 := nil_items r1
    subst e1; exact SeqAt.RcNeAt.lists (e := fun _ => true) p1.isList p2.isList rfl hu (fun j h => absurd h (by simp)) _ _ _ _ ⟨.bl false, H, I, rfl, q⟩
  | cons z zs =>
    exact SeqAt.RcNeAt.lists_lengths p1.isList p2.isList (by simp only [Zst, <- hl]; simp) hu _ _ _ _ ⟨.bl true, H, I, rfl, q⟩
end
end L2
namespace L2
open PySem PySem.Spec PyProof.Rows
def mB (x : V) (k : Bool -> Prop) : Prop := match x with | .bl b => k b | _ => False
def mI (x : V) (k : Int -> Prop) : Prop := match x with | .int b => k b | _ => False
def mS (x : V) (k : Str -> Prop) : Prop := match x with | .str b => k b | _ => False
def mR (x : V) (k : Addr -> Prop) : Prop := match x with | .ref b => k b | _ => False
theorem mB_eq (x : V) (k : Bool -> Prop) : mB x k = ∃ b, x = .bl b /\ k b := by
  cases x <;> simp [mB]
theorem mI_eq (x : V) (k : Int -> Prop) : mI x k = ∃ b, x = .int b /\ k b := by
  cases x <;> simp [mI]
theorem mS_eq (x : V) (k : Str -> Prop) : mS x k = ∃ b, x = .str b /\ k b := by
  cases x <;> simp [mS]
theorem mR_eq (x : V) (k : Addr -> Prop) : mR x k = ∃ b, x = .ref b /\ k b := by
  cases x <;> simp [mR]
theorem szl {n : Nat} (h : Nat.ble n 1000 = true) : n <= sizeLine := Znt (Nat.le_of_ble_eq_true h) (by decide)
theorem szl' {n : Nat} (h : n <= 1000) : n <= sizeLine := Znt h (by decide)
section
variable {X : Cx} {a b c e : Expr} {ta tb tc te : TE} {pos : Pos}
def vr (i : Nat) : TE := fun σ H Q => match σ[i]? with | some (some v) => Q v H | _ => False
theorem vr_eq (i : Nat) : vr i = tVar i := by
  funext σ H Q
  unfold vr tVar; apply propext
  cases σ[i]? with
  | none => simp
  | some o => cases o <;> simp
theorem xv (i : Nat) {x : Str} {pos : Pos} (hN : X.N[i]? = some x := by rfl) (hv : Vis X.env.scope x := by first | exact Or.inl rfl | exact Or.inr (Or.inl rfl) | exact Or.inr (Or.inr rfl)) (hd : (x == ("__debug__" : Str)) = false := by decide)
    (hcd : (x == ("__classdict__" : Str)) = false := by decide) : PE X (.Name x pos) (vr i) := by
  rw [vr_eq]; exact pe_var hN hv hd hcd
theorem OpR.imp {f : Value -> Value -> Sem Value} {r r' : R2} (h : OpR X f r) (hi : ∀ x y H Q, r' x y H Q -> r x y H Q) : OpR X f r' := fun pins s σ H x y v u Q I rx ry q => h pins s σ H x y v u Q I rx ry (hi x y H Q q)
theorem CallR.imp {f : Value} {r r' : List V -> Hp -> VK -> Prop} (h : CallR X f r) (hi : ∀ xs H Q, r' xs H Q -> r xs H Q) : CallR X f r' := fun pins s σ H xs us Q I rs q => h pins s σ H xs us Q I rs (hi xs H Q q)
theorem IxR.imp {r r' : R2} (h : IxR X r) (hi : ∀ x y H Q, r' x y H Q -> r x y H Q) : IxR X r' := fun value slice pins s σ H x y v u Q I rx ry q => h value slice pins s σ H x y v u Q I rx ry (hi x y H Q q)
theorem SlR.imp {r r' : V -> Option Int -> Option Int -> Hp -> VK -> Prop} (h : SlR X r) (hi : ∀ x l u H Q, r' x l u H Q -> r x l u H Q) : SlR X r' := fun pins s σ H x v vl vu lo hi' sl Q I rx hs pl pu q => h pins s σ H x v vl vu lo hi' sl Q I rx hs pl pu (hi x lo hi' H Q q)
def m2 (C : Int -> Int -> Prop) (g : Int -> Int -> V) : R2 := fun x y H Q => mI x fun i => mI y fun j => C i j /\ Q (g i j) H
def m20 (g : Int -> Int -> V) : R2 := fun x y H Q => mI x fun i => mI y fun j => Q (g i j) H
theorem m20_imp {g : Int -> Int -> V} (x y : V) (H : Hp) (Q : VK) (h : m20 g x y H Q) : rI0 g x y H Q := by
  unfold m20 at h; rw [mI_eq] at h; obtain ⟨i, rfl, h⟩ := h
  rw [mI_eq] at h; obtain ⟨j, rfl, h⟩ := h
  exact ⟨i, j, rfl, rfl, h⟩
theorem m2_imp {C : Int -> Int -> Prop} {g : Int -> Int -> V} (x y : V) (H : Hp) (Q : VK) (h : m2 C g x y H Q) : rI C g x y H Q := by
  unfold m2 at h; rw [mI_eq] at h; obtain ⟨i, rfl, h⟩ := h
  rw [mI_eq] at h; obtain ⟨j, rfl, hc, h⟩ := h
  exact ⟨i, j, rfl, rfl, hc, h⟩
theorem o_add : OpR X (binaryOp .Add) (m20 fun i j => .int (i + j)) := op_add.imp m20_imp
theorem o_mul : OpR X (binaryOp .Mult) (m2 CMul fun i j => .int (i * j)) := op_mul.imp m2_imp
theorem o_fdiv : OpR X (binaryOp .FloorDiv) (m2 CDiv fun i j => .int (i / j)) := op_fdiv.imp m2_imp
theorem o_mod : OpR X (binaryOp .Mod) (m2 (fun _ j => 0 < j) fun i j => .int (i % j)) := op_mod.imp m2_imp
theorem o_pow : OpR X (binaryOp .Pow) (m2 CPow fun i j => .int (i ^ j.toNat)) := op_pow.imp m2_imp
theorem o_lt : OpR X (compareOp .Lt) (m20 fun i j => .bl (decide (i < j))) := op_lt.imp m20_imp
theorem o_gt : OpR X (compareOp .Gt) (m20 fun i j => .bl (decide (j < i))) := op_gt.imp m20_imp
theorem o_ge : OpR X (compareOp .GtE) (m20 fun i j => .bl (decide (j <= i))) := op_ge.imp m20_imp
def mAddS : R2 := fun x y H Q => mS x fun i => mS y fun j => i.length + j.length <= sizeLine /\ Q (.str (i ++ j)) H
theorem o_addS : OpR X (binaryOp .Add) mAddS := op_add_str.imp fun x y H Q h => by
  unfold mAddS at h; rw [mS_eq] at h; obtain ⟨i, rfl, h⟩ := h
  rw [mS_eq] at h; obtain ⟨j, rfl, hc, h⟩ := h
  exact ⟨i, j, rfl, rfl, hc, h⟩
def mEq : R2 := fun x y H Q => match x, y with
  | .int i, .int j => Q (.bl (decide (i = j))) H
  | .str i, .str j => Q (.bl (decide (i = j))) H
  | .bl i, .bl j => Q (.bl (decide (i = j))) H
  | .non, .non => Q (.bl true) H
  | .int _, .non => Q (.bl false) H | .non, .int _ => Q (.bl false) H
  | .str _, .non => Q (.bl false) H | .non, .str _ => Q (.bl false) H
  | .bl _, .non => Q (.bl false) H | .non, .bl _ => Q (.bl false) H
  | .int _, .str _ => Q (.bl false) H | .str _, .int _ => Q (.bl false) H
  | .bl _, .str _ => Q (.bl false) H | .str _, .bl _ => Q (.bl false) H
  | _, _ => False
def mNe : R2 := fun x y H Q => match x, y with
  | .int i, .int j => Q (.bl (!decide (i = j))) H
  | .str i, .str j => Q (.bl (!decide (i = j))) H
  | .bl i, .bl j => Q (.bl (!decide (i = j))) H
  | .non, .non => Q (.bl false) H
  | .int _, .non => Q (.bl true) H | .non, .int _ => Q (.bl true) H
  | .str _, .non => Q (.bl true) H | .non, .str _ => Q (.bl true) H
  | .bl _, .non => Q (.bl true) H | .non, .bl _ => Q (.bl true) H
  | .int _, .str _ => Q (.bl true) H | .str _, .int _ => Q (.bl true) H
  | .bl _, .str _ => Q (.bl true) H | .str _, .bl _ => Q (.bl true) H
  | _, _ => False
theorem o_eq : OpR X (compareOp .Eq) mEq := op_eq.imp fun x y H Q h => by
  unfold mEq at h; unfold rEq; split at h <;> first | exact h.elim | (refine ⟨rfl, ?_⟩; first | simpa using h | exact h)
theorem o_ne : OpR X (compareOp .NotEq) mNe := op_ne.imp fun x y H Q h => by
  unfold mNe at h; unfold rNe; split at h <;> first | exact h.elim | (refine ⟨rfl, ?_⟩; first | simpa using h | exact h)
def mInS (neg : Bool) : R2 := fun x y H Q => mS x fun i => mS y fun j => ∃ c, i = tx [c] /\ Q (.bl (if neg then !decide (c ∈ j.cps.toList) else decide (c ∈ j.cps.toList))) H
theorem o_notInS : OpR X (compareOp .NotIn) (mInS true) := op_notIn_str.imp fun x y H Q h => by
  unfold mInS at h; rw [mS_eq] at h; obtain ⟨i, rfl, h⟩ := h
  rw [mS_eq] at h; obtain ⟨j, rfl, c, rfl, h⟩ := h
  refine ⟨_, j, rfl, rfl, ?_⟩
  have e := StrLaws.found_one j c
  have e' : (!(Builtin.Str.occurrences j (tx [c]) 0 j.length 1).isEmpty) = decide (c ∈ j.cps.toList) := e
  rw [e']; exact h
def mT (t : TE) : TT := fun σ H Q => t σ H fun x H' => mB x fun k => Q k H'
theorem mT_eq (t : TE) : mT t = tTest t := by
  funext σ H Q
  unfold mT tTest; congr 1
  funext x H'
  exact mB_eq x _
theorem mT_eqB (t : TE) : mT t = tB t := by
  funext σ H Q
  unfold mT tB; congr 1
  funext x H'
  exact mB_eq x _
theorem t_cmp {op : CmpOp} {r : R2} (ho : OpR X (compareOp op) r) (ha : PE X a ta) (hb : PE X b tb) (hm : behindInMarks op b = false := by first | exact nomark _ | rfl) : PT X (.Compare a [op] [b] pos) (mT (tOp r ta tb)) := by
  rw [mT_eq]; exact pt_cmpR ho ha hb hm
theorem x_cmp {op : CmpOp} {r : R2} (ho : OpR X (compareOp op) r) (ha : PE X a ta) (hb : PE X b tb) (hm : behindInMarks op b = false := by first | exact nomark _ | rfl) : PE X (.Compare a [op] [b] pos) (tOp r ta tb) := pe_cmpR ho ha hb hm
theorem t_val {t : TE} (h : PE X e t) (he : ∀ whole, isTrue e X.env whole = (do let v ← whole; standAt e.pos; holding [v] (truthy v)) := by intro _; rfl) : PT X e (mT t) := by
  rw [mT_eqB]; exact pt_val h he
def mIxL (K : W.Frag) : R2 := fun x y H Q => mR x fun p => mI y fun i => ∃ xs, SqL K H p xs /\ ∃ v, atI xs i = some v /\ Q v H
def mIxT (K : W.Frag) : R2 := fun x y H Q => mR x fun p => mI y fun i => ∃ xs, SqT K H p xs /\ ∃ v, atI xs i = some v /\ Q v H
def mIxS : R2 := fun x y H Q => mS x fun z => mI y fun i => z.length <= sizeLine /\ ∃ c, atI z.cps.toList i = some c /\ Q (.str (tx [c])) H
theorem i_list : IxR X (mIxL X.K) := ix_list.imp fun x y H Q h => by
  unfold mIxL at h; rw [mR_eq] at h; obtain ⟨p, rfl, h⟩ := h
  rw [mI_eq] at h; obtain ⟨i, rfl, xs, hq, v, hv, h⟩ := h
  exact ⟨p, xs, i, v, rfl, rfl, hq, hv, h⟩
theorem i_tup : IxR X (mIxT X.K) := ix_tup.imp fun x y H Q h => by
  unfold mIxT at h; rw [mR_eq] at h; obtain ⟨p, rfl, h⟩ := h
  rw [mI_eq] at h; obtain ⟨i, rfl, xs, hq, v, hv, h⟩ := h
  exact ⟨p, xs, i, v, rfl, rfl, hq, hv, h⟩
theorem i_str : IxR X mIxS := ix_str.imp fun x y H Q h => by
  unfold mIxS at h; rw [mS_eq] at h; obtain ⟨z, rfl, h⟩ := h
  rw [mI_eq] at h; obtain ⟨i, rfl, hz, c, hc, h⟩ := h
  exact ⟨z, i, c, rfl, rfl, hz, hc, h⟩
theorem x_ix {r : R2} (hr : IxR X r) (ha : PE X a ta) (hb : PE X b tb) (hs : PlainIx b := by exact fun _ _ => rfl) : PE X (.Subscript a b pos) (tOp r ta tb) := pe_ix hr ha hb hs
def mPart (t : TE) : TO := fun σ H Q => t σ H fun x H1 => mI x fun i => Q (some i) H1
theorem p_some (h : PE X e te) : PO X (some e) (mPart te) := by
  have : mPart te = tPart te := by
    funext σ H Q; unfold mPart tPart; congr 1; funext x H1; exact mI_eq x _
  rw [this]; exact po_some h
def mSlS : V -> Option Int -> Option Int -> Hp -> VK -> Prop := fun x lo hi H Q => mS x fun z => z.length <= sizeLine /\ Q (.str (tx (cut z.cps.toList lo hi))) H
theorem s_str : SlR X mSlS := sl_str.imp fun x l u H Q h => by
  unfold mSlS at h; rw [mS_eq] at h; obtain ⟨z, rfl, hz, h⟩ := h
  exact ⟨z, rfl, hz, h⟩
def mSlL (K : W.Frag) : V -> Option Int -> Option Int -> Hp -> VK -> Prop := fun x lo hi H Q => mR x fun a => ∃ xs, SqL K H a xs /\ ∀ p, H p = none -> Q (.ref p) (upd H p (.lst (cut xs lo hi)))
theorem s_list : SlR X (mSlL X.K) := sl_list.imp fun x l u H Q h => by
  unfold mSlL at h; rw [mR_eq] at h; obtain ⟨a, rfl, xs, hq, h⟩ := h
  exact ⟨a, xs, rfl, hq, h⟩
theorem c_lenS : CallR X (.builtin "len") (fun vs H Q => match vs with | [.str z] => z.length <= sizeLine /\ Q (.int z.length) H | _ => False) := call_len_str.imp fun vs H Q h => by
  split at h
  . rename_i z
    exact ⟨z, rfl, h.1, h.2⟩
  . exact h.elim
end
inductive Kd where | non | bl | int | str | lst | tup | dct
def kdT : Kd -> String | .non => "NoneType" | .bl => "bool" | .int => "int" | .str => "str" | .lst => "list" | .tup => "tuple" | .dct => "dict"
def Kof (H : Hp) : V -> Kd -> Prop
  | .non, .non => True | .bl _, .bl => True | .int _, .int => True | .str _, .str => True
  | .ref a, .lst => (∃ xs, H a = some (.lst xs)) ∨ ∃ o xs, H a = some (.frz o (.lst xs))
  | .ref a, .tup => ∃ xs, H a = some (.tup xs)
  | .ref a, .dct => ∃ kvs, H a = some (.dK kvs)
  | _, _ => False
def isK : Kd -> Kd -> Bool | .non, .non => true | .bl, .bl => true | .int, .int => true | .int, .bl => true | .str, .str => true | .lst, .lst => true | .tup, .tup => true | .dct, .dct => true | _, _ => false
theorem kit_K (K : W.Frag) (want k : Kd) : W.kitOne K (.type (kdT k)) (.type (kdT want)) = some (isK want k) := by
  cases want <;> cases k <;> first | rfl | kernel_rfl
theorem ty_K {K : W.Frag} {H : Hp} {x : V} {k : Kd} (h : Kof H x k) : TyOf K H x (.type (kdT k)) := by
  cases x <;> cases k <;> first
    | exact h.elim
    | exact .non
    | exact .bl _
    | exact .int _
    | exact .str _
    | (obtain ⟨xs, e⟩ := h; exact .tup e)
    | (obtain ⟨xs, e⟩ := h; exact .dK e)
    | (rcases h with ⟨xs, e⟩ | ⟨o, xs, e⟩
       . exact .lst e
       . exact .frz e)
def mIsi (want : Kd) : List V -> Hp -> VK -> Prop := fun vs H Q => match vs with
  | [x, y] => y = .ty (kdT want) /\ ∃ k, Kof H x k /\ Q (.bl (isK want k)) H
  | _ => False
section
variable {X : Cx}
theorem c_isi (want : Kd) : CallR X (.builtin "isinstance") (mIsi want) := call_isi.imp fun vs H Q h => by
  unfold mIsi at h; split at h
  . rename_i x y
    obtain ⟨rfl, k, hk, h⟩ := h
    exact ⟨x, _, _, _, rfl, ty_K hk, kit_K X.K want k, h⟩
  . exact h.elim
variable {e : Expr} {te : TE} {p p2 pos : Pos} {T : Str}
def tIsi (want : Kd) (te : TE) : TE := fun σ H Q => te σ H fun x H1 => ∃ k, Kof H1 x k /\ Q (.bl (isK want k)) H1
theorem x_isi (want : Kd) (he : PE X e te) (hg : Gl X "isinstance") (hm : X.mg "isinstance" = none) (hgT : Gl X T) (hmT : X.mg T = none) (hT : bootBuiltins T = some (.type (kdT want)))
    (hs : starEach [e, .Name T p2] X.env = (false, eval e X.env) :: starEach [.Name T p2] X.env := by rfl) (hs2 : starEach [.Name T p2] X.env = (false, eval (.Name T p2) X.env) :: starEach [] X.env := by rfl)
    (hn : T ≠ "__name__" := by decide) (hd : (T == ("__debug__" : Str)) = false := by decide) (hpl : (backTo pos (starEach [.Name T p2] X.env)).any (·.1) = false := by rfl) :
    PE X (.Call (.Name "isinstance" p) [e, .Name T p2] [] pos) (tIsi want te) := by
  have h := pe_callB (X := X) (x := "isinstance") (p := p) (pos := pos) (c_isi want) hg hm PyProof.Rows.boot_isinstance (pa_cons he (pa_cons (pe_bltn (v := .ty (kdT want)) (pos := p2) hgT hmT hT rfl hn hd) pa_nil hs2) hs) (by decide) (by decide) hs hpl
  intro pins s σ H Q I q; exact h pins s σ H Q I (by
    show te σ H _
    have : (fun (x : V) (H1 : Hp) => mIsi want [x, .ty (kdT want)] H1 Q) = (fun x H1 => ∃ k, Kof H1 x k /\ Q (.bl (isK want k)) H1) := by
      funext x H1
      apply propext
      constructor
      . rintro ⟨_, z⟩; exact z
      . intro z; exact ⟨rfl, z⟩
    exact this ▸ q)
end
structure Callee (P : Program) (w : World) (K : W.Frag) (mg : Str -> Option Value) (base : Heap) (n : Nat) (x : Str) (ps : List Str) (sp : Sp) : Prop where
  ex : ∃ (f : Addr) (fd : FuncData), FnOk P w K mg base CX0 n f fd ps sp /\ mg x = some (.ref f) /\ W.keepIn K (.ref f) = true /\ Binds K fd ps []
section
variable {X : Cx} {n : Nat} {x : Str} {ps : List Str} {sp : Sp} {p pos : Pos} {e : Expr} {es : List Expr} {t : TA}
def tFn (sp : Sp) (t : TA) : TE := fun σ H Q => t σ H fun vs H1 => sp vs H1 Q E0
theorem x_fn (c : Callee X.prog X.w X.K X.mg X.base n x ps sp) (hr : Room n X.A) (hg : Gl X x) (ha : PA X (e :: es) t) (hdb : (x == ("__debug__" : Str)) = false := by decide)
    (he : starEach (e :: es) X.env = (false, eval e X.env) :: starEach es X.env := by rfl) (hpl : (backTo pos (starEach es X.env)).any (·.1) = false := by rfl) : PE X (.Call (.Name x p) (e :: es) [] pos) (tFn sp t) := by
  obtain ⟨f, fd, F, hm, hk, hb⟩ := c.ex
  have h := pe_call (X := X) (p := p) (pos := pos) (E := E0) F hr hg hm hk hb (dvs := []) .nil pass0 ha hdb he hpl
  intro pins s σ H Q I q; exact h pins s σ H Q I (by
    show t σ H _
    have : (fun (vs : List V) (H1 : Hp) => sp (vs ++ []) H1 Q E0) = (fun vs H1 => sp vs H1 Q E0) := by
      funext vs H1; rw [List.append_nil]
    rw [this]; exact q)
end
structure DefAt (K : W.Frag) (mg : Str -> Option Value) (x : Str) (st : Stmt) (ps : List Str) : Prop where
  ex : ∃ (f : Addr) (fd : FuncData), Fun K x x st f fd /\ mg x = some (.ref f) /\ Binds K fd ps []
theorem DefAt.ok {P : Program} {w : World} {K : W.Frag} {mg : Str -> Option Value} {base : Heap} {x : Str} {st : Stmt} {N ps : List Str} {k : Nat} {sp : Sp} (D : DefAt K mg x st ps) (S : FnScope N ps (defScope st)) (len : ∀ vs H Q E, sp vs H Q E -> vs.length = ps.length)
    (hbody : ∀ (f : Addr) (cdv : Value) (A : Around) (outer : List Env) (s : Shared) (H : Hp) (vs : List V) (Q : VK) (E : XK), Room k (A.deeper (envOfC x (defScope st) s.heap.objs.size f cdv)) -> sp vs H Q E →
      ∃ t, PSs (cxOf CX0 P w K mg base N x (defScope st) f cdv A outer s H E).nox (defBody st) t /\ t { nx := fun _ H' => Q .non H', rt := Q } (start N vs) H) : Callee P w K mg base (k + 1) x ps sp := by
  obtain ⟨f, fd, F, hm, hb⟩ := D.ex
  exact ⟨f, fd, F.ok S len (hbody f), hm, F.kp, hb⟩
def compOk (sc0 : Scope) (N0 : List Str) (scope : Scope) (N : List Str) (js : List (Option Nat)) : Bool :=
  (scope.kind == .function) && scope.names.all (fun y => y.2 != .cell) && scope.names.all (fun y => y.2 != .local || scope.names.lookup y.1 == some .local) && (js.length == N.length) &&
  (List.range js.length).all (fun i => match js[i]? with | some (some j) => (match N[i]? with | some x => N0[j]? == some x && scope.names.lookup x == some .free | none => false) | _ => true) &&
  scope.names.all (fun y => y.2 != .free || sc0.names.lookup y.1 == some .cell || sc0.names.lookup y.1 == some .free)
theorem CompScope.by {X : Cx} {scope : Scope} {N : List Str} {js : List (Option Nat)} (sc0 : Scope) (N0 : List Str) (h0 : X.env.scope = sc0) (hN : X.N = N0) (ok : compOk sc0 N0 scope N js = true) : CompScope X scope N js := by
  unfold compOk at ok; simp only [Bool.and_eq_true] at ok
  obtain ⟨⟨⟨⟨⟨h1, h2⟩, h3⟩, h4⟩, h5⟩, h6⟩ := ok
  refine ⟨by simpa using h1, fun y hy => ?_, fun y hy hk => ?_, by simpa using h4, fun i j e => ?_, fun y hy hk => ?_⟩
  . have := List.all_eq_true.mp h2 y hy
    simpa using this
  . have := List.all_eq_true.mp h3 y hy
    rw [hk] at this; simpa using this
  . have hi : i < js.length := (Zgs.mp e).1
    have := List.all_eq_true.mp h5 i (List.mem_range.mpr hi)
    rw [e] at this; cases q : N[i]? with
    | none => simp [q] at this
    | some x =>
      simp only [q, Bool.and_eq_true, beq_iff_eq] at this
      exact ⟨x, rfl, by rw [hN]; exact this.1, this.2⟩
  . have := List.all_eq_true.mp h6 y hy
    rw [hk] at this; have z : (sc0.names.lookup y.1 == some .cell) = true ∨ (sc0.names.lookup y.1 == some .free) = true := by simpa using this
    have ek : X.env.kindOf y.1 = sc0.names.lookup y.1 := by rw [<- h0]; rfl
    rw [ek]; rcases z with z | z
    . exact .inl (by simpa using z)
    . exact .inr (by simpa using z)
end L2
namespace L2
open PySem PySem.Spec PyProof.Rows
def notStar : Expr -> Bool | .Starred _ _ => false | _ => true
theorem star_cons {e : Expr} {es : List Expr} {env : Env} (h : notStar e = true) : starEach (e :: es) env = (false, eval e env) :: starEach es env := by
  cases e <;> first | rfl | cases h
theorem star_any {es : List Expr} {env : Env} {pos : Pos} (h : es.all notStar = true) : (backTo pos (starEach es env)).any (·.1) = false := by
  induction es with
  | nil => rfl
  | cons e es ih =>
    rw [List.all_cons, Bool.and_eq_true] at h; rw [star_cons h.1]; have := ih h.2
    show (false || (backTo pos (starEach es env)).any (·.1)) = false
    rw [this]; rfl
section
variable {X : Cx} {e o : Expr} {es : List Expr} {te to : TE} {t : TA} {x : Str} {p pos apos cpos : Pos} {id T : String} {r : List V -> Hp -> VK -> Prop}
theorem a_cons (ha : PE X e te) (hr : PA X es t) (h : notStar e = true := by rfl) : PA X (e :: es) (tCons te t) := pa_cons ha hr (star_cons h)
theorem x_callB (hc : CallR X (.builtin id) r) (hg : Gl X x) (hm : X.mg x = none) (hv : bootBuiltins x = some (.builtin id)) (ha : PA X (e :: es) t) (hn : x ≠ "__name__" := by decide) (hdb : (x == ("__debug__" : Str)) = false := by decide)
    (h1 : notStar e = true := by rfl) (h2 : es.all notStar = true := by rfl) : PE X (.Call (.Name x p) (e :: es) [] pos) (tCB r t) := pe_callB hc hg hm hv ha hn hdb (star_cons h1) (star_any h2)
theorem x_callTy (hc : CallR X (.type T) r) (hg : Gl X x) (hm : X.mg x = none) (hv : bootBuiltins x = some (.type T)) (ha : PA X (e :: es) t) (hn : x ≠ "__name__" := by decide) (hdb : (x == ("__debug__" : Str)) = false := by decide)
    (h1 : notStar e = true := by rfl) (h2 : es.all notStar = true := by rfl) : PE X (.Call (.Name x p) (e :: es) [] pos) (tCB r t) := pe_callTy hc hg hm hv ha hn hdb (star_cons h1) (star_any h2)
theorem x_fnc {n : Nat} {ps : List Str} {sp : Sp} (c : Callee X.prog X.w X.K X.mg X.base n x ps sp) (hr : Room n X.A) (hg : Gl X x) (ha : PA X (e :: es) t) (hdb : (x == ("__debug__" : Str)) = false := by decide)
    (h1 : notStar e = true := by rfl) (h2 : es.all notStar = true := by rfl) : PE X (.Call (.Name x p) (e :: es) [] pos) (tFn sp t) := x_fn c hr hg ha hdb (star_cons h1) (star_any h2)
theorem star_few {es : List Expr} {env : Env} {cpos : Pos} (h : es.all notStar = true) : (backTo cpos (starEach es env)).all (fun x => !x.1) = true := by
  induction es with
  | nil => rfl
  | cons e es ih =>
    rw [List.all_cons, Bool.and_eq_true] at h; rw [star_cons h.1]; show (!false && (backTo cpos (starEach es env)).all (fun x => !x.1)) = true
    rw [ih h.2]; rfl
theorem x_bm {name : Str} {r : V -> List V -> Hp -> VK -> Prop} (pa : PlainAttrs T) (slot : Slot T name id) (hty : typeOf (.builtin id) = pure (.type "method_descriptor")) (hm : MtR X id r) (ho : PE X o to) (ha : PA X (e :: es) t)
    (hbase : attributeBase o name X.env (eval o X.env) = eval o X.env := by rfl) (hline : (apos.endLine == cpos.line) = true := by rfl) (h1 : notStar e = true := by rfl) (h2 : es.all notStar = true := by rfl) (hn : es.length + 1 < 30 := by decide) :
    PE X (.Call (.Attribute o name apos) (e :: es) [] cpos) (tBM X.K T r to t) := by
  refine pe_bm pa slot hty hm ho ha hbase ?_ hline (star_cons h1) (star_any h2)
  rw [star_few (by rw [List.all_cons, h1, h2]; rfl)]
  show (true && true && decide (es.length + 1 + 0 + 0 < 30)) = true
  simp
  omega
theorem x_isin {p2 : Pos} {T : Str} (want : Kd) (he : PE X e te) (hg : Gl X "isinstance") (hm : X.mg "isinstance" = none) (hgT : Gl X T) (hmT : X.mg T = none) (hT : bootBuiltins T = some (.type (kdT want)))
    (hn : T ≠ "__name__" := by decide) (hd : (T == ("__debug__" : Str)) = false := by decide) (h1 : notStar e = true := by rfl) : PE X (.Call (.Name "isinstance" p) [e, .Name T p2] [] pos) (tIsi want te) :=
  x_isi want he hg hm hgT hmT hT (star_cons h1) (star_cons rfl) hn hd (star_any rfl)
end
end L2
namespace L2
open PySem PySem.Spec PyProof.Rows
theorem bb_len : bootBuiltins "len" = some (.builtin "len") := by decide +kernel
theorem bb_sum : bootBuiltins "sum" = some (.builtin "sum") := by decide +kernel
theorem bb_sorted : bootBuiltins "sorted" = some (.builtin "sorted") := by decide +kernel
theorem bb_max : bootBuiltins "max" = some (.builtin "max") := by decide +kernel
theorem bb_min : bootBuiltins "min" = some (.builtin "min") := by decide +kernel
theorem bb_list : bootBuiltins "list" = some (.type "list") := by decide +kernel
theorem bb_str : bootBuiltins "str" = some (.type "str") := by decide +kernel
structure Dk (H : Hp) (d b : Addr) : Prop where
  ex : ∃ (ns : List Int) (s k : Int), H d = some (.lst [.ref b, .int s, .int k]) /\ H b = some (.lst (ns.map V.int)) /\ ns.length <= 63
def Kp (d b : Addr) (H H' : Hp) : Prop := ∀ c o, H c = some o -> c ≠ d -> c ≠ b -> H' c = some o
theorem Kp.refl {d b : Addr} {H : Hp} : Kp d b H H := fun _ _ e _ _ => e
theorem Kp.trans {d b : Addr} {H H1 H2 : Hp} (x : Kp d b H H1) (y : Kp d b H1 H2) : Kp d b H H2 := fun c o e h1 h2 => y c o (x c o e h1 h2) h1 h2
theorem Kp.new {d b p : Addr} {H : Hp} {o : HO} (h : H p = none) : Kp d b H (upd H p o) := fun c u e _ _ => by rw [upd_ne (ne_of_none e h)]; exact e
theorem Dk.new {d b p : Addr} {H : Hp} {o : HO} (x : Dk H d b) (h : H p = none) : Dk (upd H p o) d b := by
  obtain ⟨ns, s, k, h1, h2, h3⟩ := x.ex
  exact ⟨ns, s, k, by rw [upd_ne (ne_of_none h1 h)]; exact h1, by rw [upd_ne (ne_of_none h2 h)]; exact h2, h3⟩
def spDraw : Sp := fun vs H Q _ => ∃ d b m, vs = [.ref d, .int m] /\ Dk H d b /\ 0 < m /\ m < 1073741824 /\ ∀ r H', 0 <= r -> r < m -> Dk H' d b -> Kp d b H H' -> Q (.int r) H'
def spDeck (K : W.Frag) : Sp := fun vs H Q _ => ∃ (a : Addr) (ns : List Int), vs = [.ref a] /\ SqL K H a (ns.map V.int) /\ ∀ d b H', H d = none -> H b = none -> Dk H' d b -> Same H H' -> Q (.ref d) H'
end L2
namespace L2
theorem if_f {c : Bool} {A B : Prop} (h : c = false) (k : B) : if c = true then A else B := by rw [if_neg (by rw [h]; exact Bool.false_ne_true)]; exact k
theorem if_b {c : Bool} {A B : Prop} (ht : c = true -> A) (hf : c = false -> B) : if c = true then A else B := by
  cases h : c with
  | true => rw [if_pos rfl]; exact ht h
  | false => rw [if_neg Bool.false_ne_true]; exact hf h
end L2
namespace L2
open PySem PySem.Spec PyProof.Rows
structure Seqs (J : It) (xs : List V) (A : Hp -> Prop) : Prop where
  go : ∀ i H, i < xs.length -> A H -> J.go i H
  yld : ∀ i H x H', i < xs.length -> A H -> J.yld i H x H' -> H' = H /\ xs[i]? = some x
  stop : ∀ H, A H -> J.stop xs.length H
def signs (x : Str) : List V := x.cps.toList.map fun c => V.str (tx [c])
theorem seq_str (x : Str) : Seqs (Its x) (signs x) (fun _ => True) := by
  have hl : (signs x).length = x.cps.size := by simp [signs]
  refine ⟨fun i H hi _ => by rw [hl] at hi; exact hi, fun i H v H' _ _ ⟨e, c, hc, ev⟩ => ⟨e, ?_⟩, fun H _ => by rw [hl]; exact Znr _⟩
  subst ev; unfold signs; rw [Zgm, Array.getElem?_toList, hc]; rfl
def rangeV (lo : Int) (n : Nat) : List V := (List.range n).map fun (i : Nat) => V.int (lo + (i : Int))
theorem seq_range (lo : Int) (n : Nat) : Seqs (Itr lo n) (rangeV lo n) (fun _ => True) := by
  have hl : (rangeV lo n).length = n := by simp [rangeV]
  refine ⟨fun i H hi _ => by rw [hl] at hi; exact hi, fun i H v H' hi _ ⟨e, ev⟩ => ⟨e, ?_⟩, fun H _ => by rw [hl]; exact Znr _⟩
  subst ev; rw [hl] at hi; unfold rangeV; rw [Zgm, List.getElem?_range hi]; rfl
theorem seq_list (K : W.Frag) (a : Addr) (xs : List V) : Seqs (Itl K a) xs (fun H => SqL K H a xs) :=
  ⟨fun i H hi h => ⟨xs, xs[i], h, by simp [hi]⟩, fun i H x H' _ h ⟨e, y⟩ => ⟨e, y xs h⟩, fun H h => ⟨xs, h, Znr _⟩⟩
theorem comp_seq {J : It} {xs : List V} {A : Hp -> Prop} {js : List (Option Nat)} {g : TG} {tt : TT} {te : TE} {σ : St} {H : Hp} {Q : List V -> Hp -> Prop} (S : Seqs J xs A) (hz : xs.length <= 100000) (Pv : Nat -> List V -> Hp -> Prop) (hA : ∀ i ys H, Pv i ys H -> A H /\ ys.length <= i) (h0 : Pv 0 [] H)
    (hs : ∀ i x ys H, xs[i]? = some x -> Pv i ys H -> g x (stC js σ) H fun σ2 H2 => tt σ2 H2 fun b H3 => if b = true then te σ2 H3 fun y H4 => Pv (i + 1) (ys ++ [y]) H4 else Pv (i + 1) ys H3)
    (hd : ∀ ys H, Pv xs.length ys H -> Q ys H) : wComp js g tt te σ J H Q := by
  refine ⟨fun i m ys H => m = xs.length - i /\ i <= xs.length /\ Pv i ys H, ⟨xs.length, by simp, Nat.zero_le _, h0⟩, ?_⟩
  rintro i m ys H ⟨rfl, hi, p⟩
  obtain ⟨pa, hy⟩ := hA i ys H p
  by_cases hlt : i < xs.length
  . refine .inr ⟨S.go i H hlt pa, Znl (m := 100000) (by omega) (by decide), Pv (i + 1), fun ys' H' p' => ⟨xs.length - (i + 1), by omega, rfl, hlt, p'⟩, fun x H' y => ?_⟩
    obtain ⟨rfl, hx⟩ := S.yld i H x H' hlt pa y
    exact hs i x ys H' hx p
  . have e : i = xs.length := by omega
    subst e; exact .inl ⟨S.stop H pa, hd ys H p⟩
theorem for_seq {J : It} {xs : List V} {A : Hp -> Prop} {g : TG} {tb : TS} {D : Ends} {σ : St} {H : Hp} (S : Seqs J xs A) (Pv : Nat -> St -> Hp -> Prop) (hA : ∀ i σ H, Pv i σ H -> A H) (h0 : Pv 0 σ H)
    (hs : ∀ (i : Nat) (x : V) σ H, xs[i]? = some x -> Pv i σ H -> g x σ H fun σ2 H2 => tb { D with nx := Pv (i + 1), ct := Pv (i + 1), bk := D.nx } σ2 H2) (hd : ∀ σ H, Pv xs.length σ H -> D.nx σ H) :
    ∃ W : Nat -> Nat -> St -> Hp -> Prop, (∃ m, W 0 m σ H) /\ ∀ i m σ H, W i m σ H →
      (J.stop i H /\ D.nx σ H) ∨ (J.go i H /\ ∃ N : St -> Hp -> Prop, (∀ σ' H', N σ' H' -> ∃ m', m' < m /\ W (i + 1) m' σ' H') /\ ∀ x H', J.yld i H x H' -> g x σ H' fun σ2 H2 => tb { D with nx := N, ct := N, bk := D.nx } σ2 H2) := by
  refine ⟨fun i m σ H => m = xs.length - i /\ i <= xs.length /\ Pv i σ H, ⟨xs.length, by simp, Nat.zero_le _, h0⟩, ?_⟩
  rintro i m σ H ⟨rfl, hi, p⟩
  have pa := hA i σ H p
  by_cases hlt : i < xs.length
  . refine .inr ⟨S.go i H hlt pa, Pv (i + 1), fun σ' H' p' => ⟨xs.length - (i + 1), by omega, rfl, hlt, p'⟩, fun x H' y => ?_⟩
    obtain ⟨rfl, hx⟩ := S.yld i H x H' hlt pa y
    exact hs i x σ H' hx p
  . have e : i = xs.length := by omega
    subst e; exact .inl ⟨S.stop H pa, hd σ H p⟩
end L2
namespace L2
open PySem
theorem same_upd {H : Hp} {p : Addr} {o : HO} (h : H p = none) : Same H (upd H p o) := fun b u q => by rw [upd_ne (ne_of_none q h)]; exact q
theorem cut_to {α : Type} (xs : List α) (k : Nat) : cut xs none (some (k : Int)) = xs.take k := by
  unfold cut; rw [HT.sIx_none, HT.sIx_nat, List.drop_zero, Nat.sub_zero, <- List.take_take, Ztl (Znr _)]
theorem cut_map {α β : Type} (f : α -> β) (xs : List α) (lo hi : Option Int) : cut (xs.map f) lo hi = (cut xs lo hi).map f := by
  unfold cut; rw [Zlm, <- List.map_drop, <- List.map_take]
end L2
namespace L2
open PySem PySem.Spec PyProof.Rows
theorem at_upd {H : Hp} {p q : Addr} {o u : HO} (h : H p = some o) (hq : H q = none) : upd H q u p = some o := by rw [upd_ne (ne_of_none h hq)]; exact h
theorem atI_some {α : Type} {xs : List α} {i : Int} (h0 : 0 <= i) (h1 : i < xs.length) : ∃ v, atI xs i = some v /\ v ∈ xs := by
  obtain ⟨j, rfl⟩ := Int.eq_ofNat_of_zero_le h0
  have hj : j < xs.length := by omega
  exact ⟨xs[j], atI_nat (by simp [hj]), List.getElem_mem hj⟩
theorem glue_go (g : Array Nat) : ∀ (ps : List Str) (acc : Array Nat), (ps.foldl (fun acc p => acc ++ g ++ p.cps) acc).toList = acc.toList ++ (ps.map fun p => g.toList ++ p.cps.toList).flatten
  | [], acc => by simp
  | p :: ps, acc => by
    rw [List.foldl_cons, glue_go g ps]; simp
theorem join_cps (ps : List Str) : (Txt.join (tx []) ps).cps.toList = (ps.map fun p => p.cps.toList).flatten := by
  unfold Txt.join Builtin.Str.glued; rw [glue_go]; cases ps with
  | nil => simp [Str.empty]
  | cons p ps => simp
theorem join_tx (ps : List Str) : Txt.join (tx []) ps = tx (ps.map fun p => p.cps.toList).flatten := by rw [<- join_cps, tx_cps]
theorem join_signs (ts : List Nat) : Txt.join (tx []) (ts.map fun c => tx [c]) = tx ts := by
  rw [join_tx, List.map_map]; congr 1
  congr 1
  induction ts with
  | nil => rfl
  | cons c r ih => rw [List.map_cons, List.flatten_cons, ih]; rfl
theorem emp_eq : ("" : Str) = tx [] := by decide +kernel
end L2
namespace L2
open PySem PySem.Spec PyProof.Rows
theorem comp_str {js : List (Option Nat)} {g : TG} {tt : TT} {te : TE} {σ : St} {z : Str} {H : Hp} {Q : List V -> Hp -> Prop} (hz : z.length <= 100000) (p : Nat -> Bool) (f : Nat -> V)
    (hs : ∀ (c : Nat) (ys : List V) (N : List V -> Hp -> Prop), c ∈ z.cps.toList -> (p c = true -> N (ys ++ [f c]) H) -> (p c = false -> N ys H) -> g (.str (tx [c])) (stC js σ) H fun σ2 H2 => tt σ2 H2 fun b H3 => if b = true then te σ2 H3 fun y H4 => N (ys ++ [y]) H4 else N ys H3)
    (hd : Q ((z.cps.toList.filter p).map f) H) : wComp js g tt te σ (Its z) H Q := by
  have hl : (signs z).length = z.cps.toList.length := by simp [signs]
  refine comp_seq (seq_str z) (by rw [hl]; simpa [Str.length] using hz) (fun i ys H' => ys = ((z.cps.toList.take i).filter p).map f /\ H' = H) (fun i ys H' ⟨e, e2⟩ => ⟨trivial, ?_⟩) ⟨by simp, rfl⟩ (fun i x ys H' hx ⟨e, e2⟩ => ?_) (fun ys H' ⟨e, e2⟩ => ?_)
  . rw [e, Zlm]; exact Znt (List.length_filter_le _ _) (by rw [Zlk]; exact Nat.min_le_left _ _)
  . subst e2; unfold signs at hx; rw [Zgm] at hx; cases hc : z.cps.toList[i]? with
    | none => rw [hc] at hx; cases hx
    | some c =>
      rw [hc] at hx; cases hx
      have key : (z.cps.toList.take (i + 1)).filter p = (z.cps.toList.take i).filter p ++ (if p c = true then [c] else []) := take_succ_filter p _ i c hc
      refine hs c ys (fun ys' H3 => ys' = ((z.cps.toList.take (i + 1)).filter p).map f /\ H3 = H') (Zmg hc) (fun h => ⟨?_, rfl⟩) (fun h => ⟨?_, rfl⟩)
      . rw [key, if_pos h, Zap, e]; rfl
      . rw [key, if_neg (by rw [h]; exact Bool.false_ne_true), List.append_nil, e]
  . subst e2; rw [e, hl, Ztl (Znr _)]; exact hd
end L2
namespace L2
open PySem
theorem Dk.ne {H : Hp} {d b p : Addr} (x : Dk H d b) (h : H p = none) : p ≠ d /\ p ≠ b := by
  obtain ⟨ns, s, k, h1, h2, h3⟩ := x.ex
  exact ⟨(ne_of_none h1 h).symm, (ne_of_none h2 h).symm⟩
theorem tx_of (x : Str) : x = tx x.cps.toList := (tx_cps x).symm
end L2
namespace L2
open PySem
theorem sum_ones : ∀ ts : List Nat, ((ts.map fun c => tx [c]).map (·.length)).sum = ts.length
  | [] => rfl
  | c :: ts => by
    rw [List.map_cons, List.map_cons, List.sum_cons, sum_ones ts, Zlc]; show 1 + ts.length = _
    omega
end L2
namespace L2
open PySem
theorem cutS {t : TS} {D : Ends} {σ : St} {H : Hp} (R : St -> Hp -> Prop) (h : ∀ nx : St -> Hp -> Prop, (∀ σ' H', R σ' H' -> nx σ' H') -> t { D with nx := nx } σ H) (h2 : ∀ σ' H', R σ' H' -> D.nx σ' H') : t D σ H := h D.nx h2
end L2
namespace L2
open PySem PySem.Spec PyProof.Rows
structure XE (X : Cx) (e : Expr) (t : TE) : Prop where
  h : PE X e t
structure XT (X : Cx) (e : Expr) (t : TT) : Prop where
  h : PT X e t
structure XW (X : Cx) (e : Expr) (t : TT) : Prop where
  h : PW X e t
structure XA (X : Cx) (es : List Expr) (t : TA) : Prop where
  h : PA X es t
structure XS (X : Cx) (st : Stmt) (t : TS) : Prop where
  h : PS X st t
structure XB (X : Cx) (st : List Stmt) (t : TS) : Prop where
  h : PSs X st t
structure XI (X : Cx) (tg iter : Expr) (t : TI) : Prop where
  h : PI X tg iter t
structure XG (X : Cx) (e : Expr) (t : TG) : Prop where
  h : PG X e t
structure XO (X : Cx) (e : Option Expr) (t : TO) : Prop where
  h : PO X e t
structure XTs (X : Cx) (cs : List Expr) (t : TT) : Prop where
  h : PTs X cs t
structure XSet (X : Cx) (t : TSet) : Prop where
  h : PSet X t
structure XOp (X : Cx) (f : Value -> Value -> Sem Value) (r : R2) : Prop where
  h : OpR X f r
structure XIx (X : Cx) (r : R2) : Prop where
  h : IxR X r
structure XSl (X : Cx) (r : V -> Option Int -> Option Int -> Hp -> VK -> Prop) : Prop where
  h : SlR X r
structure XC (X : Cx) (f : Value) (r : List V -> Hp -> VK -> Prop) : Prop where
  h : CallR X f r
structure XM (X : Cx) (id : String) (r : V -> List V -> Hp -> VK -> Prop) : Prop where
  h : MtR X id r
namespace R
section
variable {X : Cx} {a b c e o i : Expr} {es rest : List Expr} {ta tb tc te to ti : TE} {tA tB' : TT} {t u : TA} {pos p p2 apos cpos pos' : Pos} {x : Str} {n : Nat} {r r' : R2}
theorem v (i : Nat) {x : Str} {pos : Pos} (hN : X.N[i]? = some x := by rfl) (hv : Vis X.env.scope x := by first | exact Or.inl rfl | exact Or.inr (Or.inl rfl) | exact Or.inr (Or.inr rfl)) (hd : (x == ("__debug__" : Str)) = false := by decide)
    (hcd : (x == ("__classdict__" : Str)) = false := by decide) : XE X (.Name x pos) (vr i) := ⟨xv i hN hv hd hcd⟩
theorem int {i j pos} : XE X (.Constant (.int i) j pos) (tC (.int i)) := ⟨pe_int⟩
theorem bl {b j pos} : XE X (.Constant (.bool b) j pos) (tC (.bl b)) := ⟨pe_bl⟩
theorem str {x j pos} : XE X (.Constant (.str x) j pos) (tC (.str x)) := ⟨pe_str⟩
theorem gR {a : Addr} (hg : Gl X x) (hm : X.mg x = some (.ref a)) (hd : (x == ("__debug__" : Str)) = false := by decide) : XE X (.Name x pos) (tC (.ref a)) := ⟨pe_glob hg hm rfl hd⟩
theorem op {op : Operator} (ho : XOp X (binaryOp op) r) (ha : XE X a ta) (hb : XE X b tb) : XE X (.BinOp a op b pos) (tOp r ta tb) := ⟨pe_op ho.h ha.h hb.h⟩
theorem add : XOp X (binaryOp .Add) (m20 fun i j => .int (i + j)) := ⟨o_add⟩
theorem mul : XOp X (binaryOp .Mult) (m2 CMul fun i j => .int (i * j)) := ⟨o_mul⟩
theorem fdiv : XOp X (binaryOp .FloorDiv) (m2 CDiv fun i j => .int (i / j)) := ⟨o_fdiv⟩
theorem mod : XOp X (binaryOp .Mod) (m2 (fun _ j => 0 < j) fun i j => .int (i % j)) := ⟨o_mod⟩
theorem pow : XOp X (binaryOp .Pow) (m2 CPow fun i j => .int (i ^ j.toNat)) := ⟨o_pow⟩
theorem addS : XOp X (binaryOp .Add) mAddS := ⟨o_addS⟩
theorem lt : XOp X (compareOp .Lt) (m20 fun i j => .bl (decide (i < j))) := ⟨o_lt⟩
theorem gt : XOp X (compareOp .Gt) (m20 fun i j => .bl (decide (j < i))) := ⟨o_gt⟩
theorem ge : XOp X (compareOp .GtE) (m20 fun i j => .bl (decide (j <= i))) := ⟨o_ge⟩
theorem eq : XOp X (compareOp .Eq) mEq := ⟨o_eq⟩
theorem ne : XOp X (compareOp .NotEq) mNe := ⟨o_ne⟩
theorem notInS : XOp X (compareOp .NotIn) (mInS true) := ⟨o_notInS⟩
theorem eqNil (hu : X.A.units < cLine) : XOp X (compareOp .Eq) (rEqNil X.K false) := ⟨op_eqNil hu⟩
theorem neNil (hu : X.A.units < cLine) : XOp X (compareOp .NotEq) (rEqNil X.K true) := ⟨op_neNil hu⟩
theorem cmp {op : CmpOp} (ho : XOp X (compareOp op) r) (ha : XE X a ta) (hb : XE X b tb) (hm : behindInMarks op b = false := by first | exact nomark _ | rfl) : XE X (.Compare a [op] [b] pos) (tOp r ta tb) := ⟨x_cmp ho.h ha.h hb.h hm⟩
theorem tcmp {op : CmpOp} (ho : XOp X (compareOp op) r) (ha : XE X a ta) (hb : XE X b tb) (hm : behindInMarks op b = false := by first | exact nomark _ | rfl) : XT X (.Compare a [op] [b] pos) (mT (tOp r ta tb)) := ⟨t_cmp ho.h ha.h hb.h hm⟩
theorem val {t : TE} (h : XE X e t) (he : ∀ whole, isTrue e X.env whole = (do let v ← whole; standAt e.pos; holding [v] (truthy v)) := by intro _; rfl) : XT X e (mT t) := ⟨t_val h.h he⟩
theorem tnot (ha : XT X a tA) : XT X (.UnaryOp .Not a pos) (tNot tA) := ⟨pt_not ha.h⟩
theorem wor1 (ha : XT X a tA) : XW X (.BoolOp .Or [a] pos) tA := ⟨pw_or1 ha.h⟩
theorem wor (ha : XT X a tA) (hb : XW X (.BoolOp .Or (b :: rest) pos) tB') : XW X (.BoolOp .Or (a :: b :: rest) pos) (tOr tA tB') := ⟨pw_or ha.h hb.h⟩
theorem tw (h : XW X e tA) : XT X e tA := ⟨h.h.pt⟩
theorem ix (hr : XIx X r) (ha : XE X a ta) (hb : XE X b tb) (hs : PlainIx b := by exact fun _ _ => rfl) : XE X (.Subscript a b pos) (tOp r ta tb) := ⟨x_ix hr.h ha.h hb.h hs⟩
theorem iL : XIx X (mIxL X.K) := ⟨i_list⟩
theorem iT : XIx X (mIxT X.K) := ⟨i_tup⟩
theorem iS : XIx X mIxS := ⟨i_str⟩
theorem pn : XO X none tNoPart := ⟨po_none⟩
theorem ps (h : XE X e te) : XO X (some e) (mPart te) := ⟨p_some h.h⟩
theorem sl {r : V -> Option Int -> Option Int -> Hp -> VK -> Prop} {lo hi : Option Expr} {tl th : TO} (hr : XSl X r) (he : XE X e te) (hl : XO X lo tl) (hu : XO X hi th) : XE X (.Subscript e (.Slice lo hi none p2) pos) (tSl r te tl th) := ⟨pe_slice hr.h he.h hl.h hu.h⟩
theorem sS : XSl X mSlS := ⟨s_str⟩
theorem sL : XSl X (mSlL X.K) := ⟨s_list⟩
theorem nil : XA X [] tNil := ⟨pa_nil⟩
theorem cons (ha : XE X e te) (hr : XA X es t) (h : notStar e = true := by rfl) : XA X (e :: es) (tCons te t) := ⟨a_cons ha.h hr.h h⟩
theorem tup {x1} (h : XA X es t) : XE X (.Tuple es x1 pos) (tTup t) := ⟨pe_tup h.h⟩
theorem lst (h : XA X es t) : XE X (.List es pos) (tLst t) := ⟨pe_lst h.h⟩
theorem callB {id : String} {r : List V -> Hp -> VK -> Prop} (hc : XC X (.builtin id) r) (hg : Gl X x) (hm : X.mg x = none) (hv : bootBuiltins x = some (.builtin id)) (ha : XA X (e :: es) t) (hn : x ≠ "__name__" := by decide) (hdb : (x == ("__debug__" : Str)) = false := by decide)
    (h1 : notStar e = true := by rfl) (h2 : es.all notStar = true := by rfl) : XE X (.Call (.Name x p) (e :: es) [] pos) (tCB r t) := ⟨x_callB hc.h hg hm hv ha.h hn hdb h1 h2⟩
theorem callTy {T : String} {r : List V -> Hp -> VK -> Prop} (hc : XC X (.type T) r) (hg : Gl X x) (hm : X.mg x = none) (hv : bootBuiltins x = some (.type T)) (ha : XA X (e :: es) t) (hn : x ≠ "__name__" := by decide) (hdb : (x == ("__debug__" : Str)) = false := by decide)
    (h1 : notStar e = true := by rfl) (h2 : es.all notStar = true := by rfl) : XE X (.Call (.Name x p) (e :: es) [] pos) (tCB r t) := ⟨x_callTy hc.h hg hm hv ha.h hn hdb h1 h2⟩
theorem lenS : XC X (.builtin "len") (fun vs H Q => match vs with | [.str z] => z.length <= sizeLine /\ Q (.int z.length) H | _ => False) := ⟨c_lenS⟩
theorem sum (hc : X.calm = true) : XC X (.builtin "sum") (rSum X.K) := ⟨call_sum hc⟩
theorem fn {n : Nat} {ps : List Str} {sp : Sp} (c : Callee X.prog X.w X.K X.mg X.base n x ps sp) (hr : Room n X.A) (hg : Gl X x) (ha : XA X (e :: es) t) (hdb : (x == ("__debug__" : Str)) = false := by decide)
    (h1 : notStar e = true := by rfl) (h2 : es.all notStar = true := by rfl) : XE X (.Call (.Name x p) (e :: es) [] pos) (tFn sp t) := ⟨x_fnc c hr hg ha.h hdb h1 h2⟩
theorem bm {T id : String} {name : Str} {r : V -> List V -> Hp -> VK -> Prop} (pa : PlainAttrs T) (slot : Slot T name id) (hty : typeOf (.builtin id) = pure (.type "method_descriptor")) (hm : XM X id r) (ho : XE X o to) (ha : XA X (e :: es) t)
    (hbase : attributeBase o name X.env (eval o X.env) = eval o X.env := by rfl) (hline : (apos.endLine == cpos.line) = true := by rfl) (h1 : notStar e = true := by rfl) (h2 : es.all notStar = true := by rfl) (hn : es.length + 1 < 30 := by decide) :
    XE X (.Call (.Attribute o name apos) (e :: es) [] cpos) (tBM X.K T r to t) := ⟨x_bm pa slot hty hm.h ho.h ha.h hbase hline h1 h2 hn⟩
theorem popAt : XM X "list.pop" rPopAt := ⟨mt_popAt⟩
theorem join : XM X "str.join" (rJoin X.K) := ⟨mt_join⟩
theorem isi {T : Str} (want : Kd) (he : XE X e te) (hg : Gl X "isinstance") (hm : X.mg "isinstance" = none) (hgT : Gl X T) (hmT : X.mg T = none) (hT : bootBuiltins T = some (.type (kdT want)))
    (hn : T ≠ "__name__" := by decide) (hd : (T == ("__debug__" : Str)) = false := by decide) (h1 : notStar e = true := by rfl) : XE X (.Call (.Name "isinstance" p) [e, .Name T p2] [] pos) (tIsi want te) := ⟨x_isin want he.h hg hm hgT hmT hT hn hd h1⟩
theorem dnew : XE X (.Dict [] [] pos) (tDNewK) := ⟨pe_dnewK⟩
variable {tg : Expr}
theorem wL (hl : XE X e te) : XI X tg e (iList X.K te) := ⟨pi_list hl.h⟩
theorem wS (hl : XE X e te) : XI X tg e (iStr te) := ⟨pi_str hl.h⟩
theorem range1 (hg : Gl X "range") (hm : X.mg "range" = none) (ha : XA X [a] t) (h1 : notStar a = true := by rfl) : XI X tg (.Call (.Name "range" p) [a] [] pos) (iRng1 t) := ⟨pi_range1 hg hm ha.h (star_cons h1)⟩
theorem gn {i : Nat} (hN : X.N.Nodup) (hi : X.N[i]? = some x := by rfl) (hx : Loc X.env.scope x := by first | exact Or.inl rfl | exact Or.inr rfl) (hf : X.fn x = true ∨ X.env.scope.names.lookup x = some .local := by first | exact .inl rfl | exact .inr rfl | assumption) : XG X (.Name x pos) (gName i) := ⟨pg_name hN hi hx hf⟩
theorem setL : XSet X rSetL := ⟨set_list⟩
theorem gsub {ts : TSet} (ho : XE X o to) (hi : XE X i ti) (hs : XSet X ts) (ha : ∀ v, assign (.Subscript o i pos) X.env v = (do
      let ov ← holding [v] (eval o X.env)
      let iv ← holding [v, ov] (eval i X.env)
      standAt pos
      holding [v, ov, iv] (setItem ov iv v)
      release [v, ov, iv] []) := by intro _; rfl) : XG X (.Subscript o i pos) (gSub to ti ts) := ⟨pg_sub ho.h hi.h hs.h ha⟩
end
section
variable {X : Cx} {c e tg iter elt : Expr} {ifs : List Expr} {te : TE} {tc tt : TT} {g : TG} {wi : TI} {st : Stmt} {ss sa sb : List Stmt} {t u : TS} {pos pos' spos py : Pos} {x y : Str} {scope : Scope} {N : List Str} {js : List (Option Nat)}
theorem ts0 : XTs X [] tTrue := ⟨pts_nil⟩
theorem ts1 (h : XT X c tt) (hx : X.xe = fun _ _ => False := by rfl) : XTs X [c] tt := ⟨pts_one h.h hx⟩
theorem comp (hc : X.calm = true) (S : CompScope X scope N js) (go : GOwn js g) (hi : XI X tg iter wi)
    (hb : ∀ (C : Addr) (s₂ : Shared) (H₂ : Hp) (fp : List Addr), XG (cxC X scope C N s₂ H₂ fp) tg g /\ XTs (cxC X scope C N s₂ H₂ fp) ifs tt /\ XE (cxC X scope C N s₂ H₂ fp) elt te)
    (hs : ∀ x, foldedSetIterable iter X.env x = pure x := by intro _; rfl) : XE X (.ListComp elt [⟨tg, iter, ifs, 0⟩] scope pos) (tComp wi js g tt te) :=
  ⟨pe_comp hc S go hi.h (fun C s₂ H₂ fp => let ⟨a, b, c⟩ := hb C s₂ H₂ fp; ⟨a.h, b.h, c.h⟩) hs⟩
theorem snil : XB X [] tNext := ⟨pss_nil⟩
theorem sone (h1 : XS X st t) : XB X [st] t := ⟨pss_one h1.h⟩
theorem scons (h1 : XS X st t) (h2 : XB X ss u) : XB X (st :: ss) (tSeq t u) := ⟨pss_cons h1.h h2.h⟩
theorem ret (he : XE X e te) : XS X (.Return (some e) pos) (tRet te) := ⟨ps_ret he.h⟩
theorem expr (he : XE X e te) (hs : swapsWith e none pos.line X.env = pure false := by rfl) : XS X (.Expr e pos) (tDrop te) := ⟨ps_expr he.h hs⟩
theorem ife (hc : XT X c tc) (ha : XB X sa t) (hb : XB X sb u) : XS X (.If c sa sb pos) (tIfS tc t u) := ⟨ps_if hc.h ha.h hb.h⟩
theorem set {i : Nat} (hN : X.N.Nodup) (he : XE X e te) (hi : X.N[i]? = some x := by rfl) (hx : Loc X.env.scope x := by first | exact Or.inl rfl | exact Or.inr rfl) (hs : swapsWith e (some (.Name x pos')) pos.line X.env = pure false := by rfl)
    (hf : X.fn x = true ∨ X.env.scope.names.lookup x = some .local := by first | exact .inl rfl | exact .inr rfl | assumption) : XS X (.Assign [.Name x pos'] e pos) (tAsg te (gName i)) := ⟨ps_set hN hi hx he.h hs hf⟩
theorem asg (he : XE X e te) (hg : XG X tg g) (hs : swapsWithSole [tg] e pos.line X.env = pure false := by rfl) (hw : swappedStores [tg] e X.env = pure none := by rfl) (h1 : (assignEach [tg] X.env).map (·.2) = [assign tg X.env] := by rfl) :
    XS X (.Assign [tg] e pos) (tAsg te g) := ⟨ps_asg he.h hg.h hs hw h1⟩
theorem for_ (hp : PassesOwn (model X.prog X.w) X.A X.env X.xe) (hc : X.calm = true) (hi : XI X tg iter wi) (hg : XG X tg g) (hb : XB X ss t) (hs : ∀ x, foldedSetIterable iter X.env x = pure x := by intro _; rfl) : XS X (.For tg iter ss [] pos) (tFor wi g t) := ⟨ps_for hp hc hi.h hg.h hb.h hs⟩
theorem while_ (hp : PassesOwn (model X.prog X.w) X.A X.env X.xe) (hc : XT X c tc) (hb : XB X ss t) : XS X (.While c ss [] pos) (tWhile tc t) := ⟨ps_while hp hc.h hb.h⟩
end
end R
theorem DefAt.go {P : Program} {w : World} {K : W.Frag} {mg : Str -> Option Value} {base : Heap} {x : Str} {st : Stmt} {N ps : List Str} {k : Nat} {sp : Sp} (D : DefAt K mg x st ps) (S : FnScope N ps (defScope st)) (len : ∀ vs H Q E, sp vs H Q E -> vs.length = ps.length)
    (hbody : ∀ (f : Addr) (cdv : Value) (A : Around) (outer : List Env) (s : Shared) (H : Hp) (vs : List V) (Q : VK) (E : XK), Room k (A.deeper (envOfC x (defScope st) s.heap.objs.size f cdv)) -> sp vs H Q E →
      ∃ t, XB (cxOf CX0 P w K mg base N x (defScope st) f cdv A outer s H E).nox (defBody st) t /\ t { nx := fun _ H' => Q .non H', rt := Q } (start N vs) H) : Callee P w K mg base (k + 1) x ps sp :=
  D.ok S len fun f cdv A outer s H vs Q E hr h => let ⟨t, h1, h2⟩ := hbody f cdv A outer s H vs Q E hr h; ⟨t, h1.h, h2⟩
theorem Fun.go {P : Program} {w : World} {K : W.Frag} {mg : Str -> Option Value} {base : Heap} {x qual : Str} {st : Stmt} {f : Addr} {fd : FuncData} {N ps : List Str} {k : Nat} {sp : Sp} (F : Fun K x qual st f fd) (S : FnScope N ps (defScope st)) (len : ∀ vs H Q E, sp vs H Q E -> vs.length = ps.length)
    (hbody : ∀ (cdv : Value) (A : Around) (outer : List Env) (s : Shared) (H : Hp) (vs : List V) (Q : VK) (E : XK), Room k (A.deeper (envOfC qual (defScope st) s.heap.objs.size f cdv)) -> sp vs H Q E →
      ∃ t, XB (cxOf CX0 P w K mg base N qual (defScope st) f cdv A outer s H E).nox (defBody st) t /\ t { nx := fun _ H' => Q .non H', rt := Q } (start N vs) H) : FnOk P w K mg base CX0 (k + 1) f fd ps sp :=
  F.ok S len fun cdv A outer s H vs Q E hr h => let ⟨t, h1, h2⟩ := hbody cdv A outer s H vs Q E hr h; ⟨t, h1.h, h2⟩
theorem def_at {K : W.Frag} {h : Heap} {mg : Str -> Option Value} {x : Str} {st : Stmt} {ps : List Str} {f : Addr} {od an : Option Addr} {sl : Array (Option Value)} {oc kV dc pm cd ct : Value} (X : K.In h) (G : h.Ns mainGlobals mg)
    (a : W.nsIn K mainGlobals x = some (some (.ref f))) (l : K.lookup f = some ⟨oc, od, .func (W.fnOf x x (defArgs st) (defBody st) (defScope st) .none kV dc pm an cd ct), sl⟩) (c : W.codeIn K cd x = true) (k : W.keepIn K (.ref f) = true)
    (hb : ∀ (kV doc pm : Value) (an : Option Addr) (cdv ct : Value) (us : List Value), us.length = ps.length -> bindArgs (W.fnOf x x (defArgs st) (defBody st) (defScope st) .none kV doc pm an cdv ct) ⟨us, []⟩ = pure (ps.zip us)) : DefAt K mg x st ps :=
  ⟨f, _, fun_mk l c k, W.mg_of X G a, (fun_mk (st := st) l c k).binds hb⟩
namespace R
section
variable {X : Cx} {K : W.Frag} {a b c e o i tg : Expr} {es rest : List Expr} {te to : TE} {t : TA} {pos p p2 apos cpos : Pos} {x : Str} {n : Nat}
theorem kiL (hK : X.K = K := by rfl) : XIx X (mIxL K) := hK ▸ iL
theorem kiT (hK : X.K = K := by rfl) : XIx X (mIxT K) := hK ▸ iT
theorem ksL (hK : X.K = K := by rfl) : XSl X (mSlL K) := hK ▸ sL
theorem keqNil (hu : X.A.units < cLine) (hK : X.K = K := by rfl) : XOp X (compareOp .Eq) (rEqNil K false) := hK ▸ eqNil hu
theorem kneNil (hu : X.A.units < cLine) (hK : X.K = K := by rfl) : XOp X (compareOp .NotEq) (rEqNil K true) := hK ▸ neNil hu
theorem ksum (hc : X.calm = true) (hK : X.K = K := by rfl) : XC X (.builtin "sum") (rSum K) := hK ▸ sum hc
theorem kjoin (hK : X.K = K := by rfl) : XM X "str.join" (rJoin K) := hK ▸ join
theorem kbm {T id : String} {name : Str} {r : V -> List V -> Hp -> VK -> Prop} (pa : PlainAttrs T) (slot : Slot T name id) (hty : typeOf (.builtin id) = pure (.type "method_descriptor")) (hm : XM X id r) (ho : XE X o to) (ha : XA X (e :: es) t) (hK : X.K = K := by rfl)
    (hbase : attributeBase o name X.env (eval o X.env) = eval o X.env := by rfl) (hline : (apos.endLine == cpos.line) = true := by rfl) (h1 : notStar e = true := by rfl) (h2 : es.all notStar = true := by rfl) (hn : es.length + 1 < 30 := by decide) :
    XE X (.Call (.Attribute o name apos) (e :: es) [] cpos) (tBM K T r to t) := hK ▸ bm pa slot hty hm ho ha hbase hline h1 h2 hn
theorem kwL (hl : XE X e te) (hK : X.K = K := by rfl) : XI X tg e (iList K te) := hK ▸ wL hl
end
end R
end L2
namespace L2
open PySem PySem.Spec PyProof.Rows
section
variable {X : Cx}
def rToStr : List V -> Hp -> VK -> Prop := fun vs H Q => match vs with
  | [.int i] => (0 <= i /\ i < 10 ^ 40) /\ Q (.str (Str.ofString (toString i))) H
  | [.str z] => Q (.str z) H
  | _ => False
theorem c_str : CallR X (.type "str") rToStr := by
  intro pins s σ H xs us Q I r h; unfold rToStr at h; split at h
  . rename_i i
    refine call_str_int pins s σ H [.int i] us Q I r ⟨i, rfl, ?_, h.2⟩
    have h1 : i.natAbs < 2 ^ 1920 := by
      have e : (10 : Nat) ^ 40 <= 2 ^ 1920 := by decide +kernel
      have e2 : i.natAbs < 10 ^ 40 := by
        have := h.1
        omega
      omega
    rcases Nat.eq_zero_or_pos i.natAbs with z | z
    . rw [z]; decide
    . exact (Nat.log2_lt (by omega)).mpr h1
  . rename_i z
    obtain ⟨u, rfl, t, rfl⟩ := vals1 r
    exact PySem.P.str_of_str ⟨.str z, H, I, ⟨t, rfl⟩, h⟩
  . exact h.elim
end
namespace R
variable {X : Cx}
theorem toStr : XC X (.type "str") rToStr := ⟨c_str⟩
end R
def LET : List Nat := [97, 98, 99, 100, 101, 102, 103, 104, 105, 106, 107, 108, 109, 110, 111, 112, 113, 114, 115, 116, 117, 118, 119, 120, 121, 122]
def FIG : List Nat := [48, 49, 50, 51, 52, 53, 54, 55, 56, 57]
theorem let_eq : (("abcdefghijklmnopqrstuvwxyz" : Str)).cps.toList = LET := by decide +kernel
theorem fig_eq : (("0123456789" : Str)).cps.toList = FIG := by decide +kernel
theorem fig_iff (c : Nat) : c ∈ FIG ↔ 48 <= c /\ c <= 57 := by
  unfold FIG; simp only [List.mem_cons, List.not_mem_nil, or_false]
  omega
theorem dig_len : ∀ (k m : Nat), m < 10 ^ (k + 1) -> (Nat.toDigits 10 m).length <= k + 1
  | 0, m, h => by rw [Nat.toDigits_of_lt_base (by simpa using h)]; exact Znr _
  | k + 1, m, h => by
    by_cases hm : m < 10
    . rw [Nat.toDigits_of_lt_base hm]; simp
    . have h10 : m % 10 < 10 := Nat.mod_lt m (by decide)
      have t : Nat.toDigits 10 (m / 10) ++ Nat.toDigits 10 (m % 10) = Nat.toDigits 10 (10 * (m / 10) + m % 10) := Nat.toDigits_append_toDigits (by decide) (by omega) h10
      rw [Nat.div_add_mod] at t; rw [<- t, Zla, Nat.toDigits_of_lt_base h10]; have := dig_len k (m / 10) (by rw [Nat.pow_succ] at h; omega)
      simp
      omega
def numS (m : Nat) : Str := Str.ofString (toString ((m : Nat) : Int))
theorem numS_cps (m : Nat) : (numS m).cps.toList = (Nat.toDigits 10 m).map Char.toNat := W.KIN.signs_num m
theorem numS_digits (m : Nat) : NumText.AllDigits (numS m).cps.toList := by
  intro c hc; rw [numS_cps] at hc; obtain ⟨ch, hch, e⟩ := Zmm.mp hc
  have r := PyProof.Rows.digit_range (Nat.isDigit_of_mem_toDigits (by decide) (by decide) hch)
  rw [<- e]; exact r
theorem numS_val (m : Nat) : NumText.digitsVal (numS m).cps.toList = m := by rw [numS_cps, W.KIN.val_back]
theorem numS_len (m : Nat) : (numS m).length = (Nat.toDigits 10 m).length := by
  have : (numS m).cps.toList.length = (numS m).length := by simp [Str.length]
  rw [<- this, numS_cps, Zlm]
theorem numS_pos (m : Nat) : 1 <= (numS m).length := by rw [numS_len]; exact PySem.toDigits_len_ge 10 m
theorem numS_le {m k : Nat} (h : m < 10 ^ (k + 1)) : (numS m).length <= k + 1 := by rw [numS_len]; exact dig_len k m h
end L2
namespace L2
open PySem PySem.Spec PyProof.Rows
namespace R
variable {X : Cx}
theorem max (hc : X.calm = true) : XC X (.builtin "max") (fun vs H Q => match vs with | [.int i, .int j] => Q (.int (if j > i then j else i)) H | _ => False) := ⟨(call_max2 hc).imp fun vs H Q h => by
  split at h
  . rename_i i j
    exact ⟨i, j, rfl, h⟩
  . exact h.elim⟩
end R
end L2
namespace L2
open PySem PySem.Spec PyProof.Rows
def Tab (P : Params) : List DictEntry -> List (Str × Int) -> Prop
  | [], [] => True
  | e :: r, (x, i) :: q => (∃ t, e.key = .str x t) /\ e.hash = PyData.keyHash P x /\ (∃ t, e.val = .int i t) /\ Tab P r q
  | _, _ => False
namespace R
section
variable {X : Cx} {K : W.Frag} {P : Params} {e e1 k v o f : Expr} {te t1 tk tv td ty tx' : TE} {pos p2 apos cpos : Pos} {ks : List (Option Expr)} {vs : List Expr} {trs : List (TE × TE)}
theorem ktoList (hK : X.K = K := by rfl) : XC X (.type "list") (fun vs H Q => match vs with | [.ref p] => ∃ ys, (SqL K H p ys ∨ SqT K H p ys) /\ ∀ l, H l = none -> Q (.ref l) (upd H l (.lst ys)) | _ => False) := hK ▸ ⟨call_list_of.imp fun vs H Q h => by
  split at h
  . rename_i p
    obtain ⟨ys, hq, h⟩ := h
    exact ⟨p, ys, rfl, hq, h⟩
  . exact h.elim⟩
end
end R
end L2
namespace L2
open PySem PySem.Spec PyProof.Rows
def mCat : R2 := fun x y H Q => mR x fun l => mR y fun b => ∃ xs zs, H l = some (.lst xs) /\ H b = some (.lst zs) /\ xs.length + zs.length <= sizeLine /\ ∀ p, H p = none -> Q (.ref p) (upd H p (.lst (xs ++ zs)))
theorem R.cat {X : Cx} : XOp X (binaryOp .Add) mCat := ⟨op_cat.imp fun x y H Q h => by
  unfold mCat at h; rw [mR_eq] at h; obtain ⟨a, rfl, h⟩ := h
  rw [mR_eq] at h; obtain ⟨b, rfl, xs, zs, h⟩ := h
  exact ⟨a, b, xs, zs, rfl, rfl, h⟩⟩
end L2
namespace L2
open PySem PySem.Spec PyProof.Rows
theorem numS_small {m : Nat} (h0 : 0 < m) (h : m < 10) : (numS m).cps.toList = [48 + m] := by
  rw [numS_cps, Nat.toDigits_of_lt_base h]; have : ∀ m, m < 10 -> [Nat.digitChar m].map Char.toNat = [48 + m] := by decide
  exact this m h
theorem numS_big {m : Nat} (h : 10 <= m) : (numS m).cps.toList = (numS (m / 10)).cps.toList ++ [48 + m % 10] := by
  have h10 : m % 10 < 10 := Nat.mod_lt m (by decide)
  have t : Nat.toDigits 10 (m / 10) ++ Nat.toDigits 10 (m % 10) = Nat.toDigits 10 (10 * (m / 10) + m % 10) := Nat.toDigits_append_toDigits (by decide) (by omega) h10
  rw [Nat.div_add_mod] at t; rw [numS_cps, numS_cps, <- t, Zap, Nat.toDigits_of_lt_base h10]; congr 1
  have : ∀ m, m < 10 -> [Nat.digitChar m].map Char.toNat = [48 + m] := by decide
  exact this _ h10
theorem fig_at {i : Nat} (h : i < 10) : atI ("0123456789" : Str).cps.toList (i : Int) = some (48 + i) := by
  rw [fig_eq]; have : ∀ i : Nat, i < 10 -> FIG[i]? = some (48 + i) := by decide
  exact atI_nat (this i h)
end L2
namespace L2
open PySem PySem.Spec PyProof.Rows
section
variable {X : Cx}
theorem R.min (hc : X.calm = true) : XC X (.builtin "min") (fun vs H Q => match vs with | [.int i, .int j] => Q (.int (if j < i then j else i)) H | _ => False) := ⟨(call_min2 hc).imp fun vs H Q h => by
  split at h
  . exact ⟨_, _, rfl, h⟩
  . exact h.elim⟩
end
end L2
namespace L2
open PySem PySem.Spec PyProof.Rows
def nIs : Option Key -> Value -> Bool
  | none, .none => true
  | none, _ => false
  | some k, v => keyIs k v
theorem nIs_shape : ∀ {k : Option Key} {v : Value}, nIs k v = true -> (k = none /\ v = .none) ∨ ∃ j, k = some j /\ keyIs j v = true
  | none, v, h => by cases v <;> first | exact .inl ⟨rfl, rfl⟩ | exact absurd (show false = true from h) Bool.false_ne_true
  | some j, v, h => .inr ⟨j, rfl, h⟩
theorem key_none {j : Key} : keyIs j .none = false := by cases j <;> rfl
def noneH : Int := 4238894112
section
variable {prog : Program} {w : World} {A : Around} {E : Value -> Shared -> Prop} {s : Shared}
theorem hash_none {Q : Int -> Shared -> Prop} (h : Q noneH { s with toks := s.toks + 1 }) : wpAny (model prog w) A (PySem.pyHash .none) Q E s := by
  have hT : s.TypeIs Value.none "NoneType" := rfl
  unfold PySem.pyHash; refine wpAny_bind ?_
  rw [cRoomFor, if_neg (show ¬ ([Value.none].any Value.onHeap = true) from Bool.false_ne_true)]; refine wpAny_pure ?_
  refine wpAny_bind (wpAny_specialOf hT PySem.F.slot_NoneType_hash.lookup ?_)
  show wpAny (model prog w) A (if (some (Value.builtin "NoneType.__hash__") == some Value.none) = true then _ else _) Q E s
  rw [if_neg (show ¬ ((some (Value.builtin "NoneType.__hash__") == some Value.none) = true) from Bool.false_ne_true)]; refine wpAny_bind (wpAny_specialOf hT PySem.F.slot_NoneType_hash.lookup ?_)
  show wpAny (model prog w) A (callSpecialIfBoundUnlessNone? Value.none "__hash__" _ >>= _) Q E s
  refine wpAny_bind (wpAny_callSpecialIfBoundUnlessNone?_slot hT PySem.F.slot_NoneType_hash (wpAny_call_entry PySem.F.slot_NoneType_hash hT PySem.F.entry_NoneType_hash (show wpAny (model prog w) _ (do ret (← mkInt noneH)) _ _ s from wpAny_ret_mkInt ?_) (PySem.F.args_NoneType_hash_1 _)))
  show wpAny (model prog w) A (if (decide (-(2 : Int) ^ 63 <= noneH) && decide (noneH < 2 ^ 63)) = true then _ else _) Q E _
  rw [if_pos (by decide)]
  exact wpAny_pure h
end
def nKind (prog : Program) (w : World) : PySem.KeyKind prog w (Option Key) where
  is := nIs
  hash := fun k => match k with | none => noneH | some j => keyH w j
  inj := fun v a b ha hb => by
    rcases nIs_shape ha with ⟨rfl, rfl⟩ | ⟨i, rfl, h1⟩
    . rcases nIs_shape hb with ⟨rfl, _⟩ | ⟨j, rfl, h2⟩
      . rfl
      . rw [key_none] at h2; cases h2
    . rcases nIs_shape hb with ⟨rfl, rfl⟩ | ⟨j, rfl, h2⟩
      . rw [key_none] at h1; cases h1
      . rw [(mixKind prog w).inj v i j h1 h2]
  byValue := fun k v h => by
    rcases nIs_shape h with ⟨rfl, rfl⟩ | ⟨i, rfl, h1⟩
    . rfl
    . exact (mixKind prog w).byValue i v h1
  pyHash := fun {A E s k v Q} hv h => by
    rcases nIs_shape hv with ⟨rfl, rfl⟩ | ⟨i, rfl, h1⟩
    . exact hash_none h
    . exact (mixKind prog w).pyHash h1 h
  eqBool := fun {A E s a b u v Q} hu hv h => by
    rcases nIs_shape hu with ⟨rfl, rfl⟩ | ⟨i, rfl, h1⟩
    . rcases nIs_shape hv with ⟨rfl, rfl⟩ | ⟨j, rfl, h2⟩
      . exact SeqAt.EqAt.same _ _ _ _ _ (by simpa using h)
      . have h' : Q false s := by simpa using h
        rcases keyIs_shape h2 with ⟨n, t, rfl, rfl⟩ | ⟨x, t, rfl, rfl⟩
        . exact SeqAt.EqAt.none_int n t _ _ _ _ h'
        . exact SeqAt.EqAt.none_str x t _ _ _ _ h'
    . rcases nIs_shape hv with ⟨rfl, rfl⟩ | ⟨j, rfl, h2⟩
      . have h' : Q false s := by simpa using h
        rcases keyIs_shape h1 with ⟨n, t, rfl, rfl⟩ | ⟨x, t, rfl, rfl⟩
        . exact SeqAt.EqAt.int_none n t _ _ _ _ h'
        . exact SeqAt.EqAt.str_none x t _ _ _ _ h'
      . refine (mixKind prog w).eqBool h1 h2 ?_
        have e : decide (some i = some j) = decide (i = j) := by simp
        rw [<- e]; exact h
  «strs» := fun k x t v h => by
    rcases nIs_shape h with ⟨rfl, e⟩ | ⟨i, rfl, h1⟩
    . cases e
    . exact (mixKind prog w).strs i x t v h1
theorem map_none {prog : Program} {w : World} {h : Heap} {a : Addr} {f : Key -> Option Value} (m : h.MapOf (mixKind prog w) a f) : ∃ g : Option Key -> Option Value, h.MapOf (nKind prog w) a g /\ g none = none := by
  obtain ⟨o, es, ep, ho, hx, hd, hk, hf⟩ := m
  refine ⟨_, ⟨o, es, ep, ho, hx, hd, fun e he => ?_, fun k => rfl⟩, ?_⟩
  . obtain ⟨k, h1, h2⟩ := hk e he
    exact ⟨some k, h1, h2⟩
  . show findBy nIs es none = none
    unfold findBy; have : es.find? (fun e => nIs none e.key) = none := by
      rw [Array.find?_eq_none]; intro e he z; obtain ⟨k, h1, h2⟩ := hk e he
      rcases nIs_shape z with ⟨_, e1⟩ | ⟨_, e1, _⟩
      . rw [e1] at h1; have h1' : keyIs k .none = true := h1
        rw [key_none] at h1'; cases h1'
      . cases e1
    rw [this]; rfl
section
variable {X : Cx}
def mInD (neg : Bool) : R2 := fun x y H Q => mR y fun a => match x with
  | .non => (∃ kvs, H a = some (.dK kvs)) /\ Q (.bl neg) H
  | .str z => ∃ kvs, H a = some (.dK kvs) /\ Q (.bl (if neg then !(valV kvs (Sum.inr z)).isSome else (valV kvs (Sum.inr z)).isSome)) H
  | _ => False
theorem op_inD (neg : Bool) (hu : X.A.units + 1 < cLine) : OpR X (compareOp (if neg then .NotIn else .In)) (mInD neg) := by
  intro pins s σ H x y v u Q I rx ry h; unfold mInD at h; rw [mR_eq] at h; obtain ⟨a, rfl, h⟩ := h
  cases ry
  cases x with
  | non =>
    obtain ⟨⟨kvs, e⟩, q⟩ := h
    cases rx
    obtain ⟨z, hd, vs, rel, dd⟩ := dk_of I.hok e
    obtain ⟨g, hm, hg⟩ := map_none dd.mapOf
    cases neg
    . refine wpAny_in_of (knd := nKind X.prog X.w) (k := none) rfl hd hm ⟨.bl _, H, I.tok _, rfl, ?_⟩
      rw [hg]; exact q
    . refine wpAny_notIn_of (knd := nKind X.prog X.w) (k := none) rfl hd hm ⟨.bl _, H, I.tok _, rfl, ?_⟩
      rw [hg]; exact q
  | str z =>
    obtain ⟨kvs, e, q⟩ := h
    cases neg
    . exact d_in hu I (DGet.k (k := Sum.inr z) e) rx fun s' I' => ⟨.bl _, H, I', rfl, q⟩
    . exact d_notIn hu I (DGet.k (k := Sum.inr z) e) rx fun s' I' => ⟨.bl _, H, I', rfl, q⟩
  | _ => exact h.elim
theorem R.inD (hu : X.A.units + 1 < cLine) : XOp X (compareOp .In) (mInD false) := ⟨op_inD false hu⟩
end
end L2
namespace L2
open PySem PySem.Spec PyProof.Rows
section
variable {X : Cx} {o : Expr} {to : TE} {p pos apos cpos : Pos}
def rSetD : TSet := fun o i v H Q => ∃ a H', o = .ref a /\ DPut H a i v H' /\ Q H'
theorem set_dict (hu : X.A.units + 1 < cLine) : PSet X rSetD := by
  intro pins s σ H o i v ov iv u Q I ro ri rv h; obtain ⟨a, H', rfl, g, q⟩ := h
  cases ro
  exact d_setItem hu I g ri rv fun s' I' => ⟨H', I', q⟩
theorem R.setD (hu : X.A.units + 1 < cLine) : XSet X rSetD := ⟨set_dict hu⟩
end
end L2
namespace L2
open PySem PySem.Spec PyProof.Rows
theorem ints_vals : ∀ {vs : List Value} {ns : List Int}, IntsAre vs ns -> Vals (ns.map V.int) vs
  | _, _, .nil => .nil
  | _, _, .cons x t h => .cons ⟨t, rfl⟩ (ints_vals h)
end L2
theorem L2.bb_set : PySem.bootBuiltins "set" = some (.type "set") := by decide +kernel
namespace L2
open PySem PySem.Spec PyProof.Rows
section
variable {X : Cx}
def insL {α : Type} (xs : List α) (k : Nat) (x : α) : List α := xs.take k ++ [x] ++ xs.drop k
def rInsert : V -> List V -> Hp -> VK -> Prop := fun x vs H Q => ∃ (l : Addr) (xs : List V) (k : Nat) (y : V), x = .ref l /\ vs = [.int (k : Int), y] /\ H l = some (.lst xs) /\ k <= xs.length /\ xs.length < 1000 /\ Q .non (upd H l (.lst (insL xs k y)))
theorem fits_nat {k : Nat} (h : k < 1000) : ¬ (!Builtin.List.listFitsIndex (k : Int)) = true := by
  have e1 : -(2 ^ 63) <= (k : Int) := by omega
  have e2 : (k : Int) < 2 ^ 63 := by omega
  rw [fitsIndex_both e1 e2]; exact Bool.false_ne_true
theorem vals_take : ∀ {xs : List V} {its : List Value} (k : Nat), Vals xs its -> Vals (xs.take k) (its.take k)
  | _, _, 0, _ => by simp; exact .nil
  | _, _, k + 1, .nil => by simp; exact .nil
  | _, _, k + 1, .cons h t => by rw [List.take_succ_cons, List.take_succ_cons]; exact .cons h (vals_take k t)
theorem vals_drop : ∀ {xs : List V} {its : List Value} (k : Nat), Vals xs its -> Vals (xs.drop k) (its.drop k)
  | _, _, 0, h => by simpa using h
  | _, _, k + 1, .nil => by simp; exact .nil
  | _, _, k + 1, .cons h t => by rw [List.drop_succ_cons, List.drop_succ_cons]; exact vals_drop k t
theorem ins_at {s : Shared} {A : Around} {E : Value -> Shared -> Prop} {prog : Program} {w : World} {l : Addr} {its : List Value} {n : Nat} {k : Int} {t : Tok} {u2 : Value} {Q : Value -> Shared -> Prop} (e : s.heap.get? l = some { cls := .type "list", data := .seq its.toArray n }) (f1 : ¬ (!Builtin.List.listFitsIndex k) = true) (f2 : its.toArray.size <= sizeLine)
    (q : Q .none { s with heap := s.heap.update l (Obj.mapSeq fun xs => have k := if k < 0 then (k + (xs.size : Int)).toNat else min k.toNat xs.size; (xs.extract 0 k).push u2 ++ xs.extract k), toks := s.toks }) :
    wpAny (model prog w) A (call (.builtin "list.insert") [.ref l, .int k t, u2]) Q E s := by
  have M := AutoSeq1.list_insert_list_int_val_1 l its.toArray n k t u2 f1 f2
  exact call_meets PySem.F.slot_list_insert ⟨_, e, rfl⟩ PySem.F.entry_list_insert (PySem.F.args_list_insert_3 _ _ _) M ⟨e, q⟩
theorem mt_insert : MtM X "list.insert" rInsert := by
  intro pins s σ H x vs v us Q I rx rv h; obtain ⟨l, xs, k, y, rfl, rfl, hH, hk, hz, q⟩ := h
  cases rx
  obtain ⟨u1, u2, rfl, ru1, ru2⟩ := rv.two
  obtain ⟨t, rfl⟩ := ru1
  obtain ⟨z, its, n, r, hl, e⟩ := I.lstM hH
  have hlen : (insL xs k y).length = xs.length + 1 := by unfold insL; simp; omega
  have hv : Vals (insL xs k y) (insL its k u2) := by
    unfold insL; exact ((vals_take k r).append (.cons ru2 .nil)).append (vals_drop k r)
  have hle : (insL xs k y).length <= sizeLine := szl' (by rw [hlen]; omega)
  refine ins_at e (fits_nat (Znl hk hz)) (by rw [Zst, <- hl]; exact z) ?_
  refine ⟨.non, _, I.lset (its' := insL its k u2) hH e ?_ hv hle, rfl, q⟩
  have h0 : ¬ ((k : Int) < 0) := by omega
  have h1 : min (k : Int).toNat its.toArray.size = k := by rw [Zst, <- hl]; simp; omega
  simp only [h0, if_false, h1]
  unfold insL; simp
  exact Ztl (by simp)
theorem R.insert : XM X "list.insert" rInsert := ⟨mt_insert⟩
end
end L2
namespace L2
open PySem PySem.Spec PyProof.Rows
theorem lt_of_mem_take {l : List Nat} {p y : Nat} (h : y ∈ l.take p) : ∃ i, ∃ (hi : i < l.length), i < p /\ l[i] = y := by
  obtain ⟨i, hi, e⟩ := List.getElem_of_mem h
  rw [Zlk] at hi; refine ⟨i, by omega, by omega, ?_⟩
  rw [<- e, List.getElem_take]
theorem lt_of_mem_drop {l : List Nat} {p y : Nat} (h : y ∈ l.drop p) : ∃ i, ∃ (hi : i < l.length), p <= i /\ l[i] = y := by
  obtain ⟨i, hi, e⟩ := List.getElem_of_mem h
  rw [List.length_drop] at hi; refine ⟨p + i, by omega, by omega, ?_⟩
  rw [<- e, List.getElem_drop]
theorem getD_at {xs : Array Nat} {i d : Nat} (h : i < xs.size) : xs.getD i d = xs.toList[i]'(by simpa using h) := by
  simp [Array.getD, h]
def BelowIs (xs : Array Nat) (j r : Nat) : Prop := r <= xs.size /\ (∀ i (h : i < xs.toList.length), i < r -> xs.toList[i] < j) /\ ∀ i (h : i < xs.toList.length), r <= i -> j <= xs.toList[i]
theorem below_go {xs : Array Nat} (hr : xs.toList.Pairwise (· < ·)) (j : Nat) : ∀ (fuel lo hi : Nat), hi - lo <= fuel -> lo <= hi -> hi <= xs.size →
    (∀ i (h : i < xs.toList.length), i < lo -> xs.toList[i] < j) -> (∀ i (h : i < xs.toList.length), hi <= i -> j <= xs.toList[i]) -> BelowIs xs j (SetTable.below.go xs j fuel lo hi)
  | 0, lo, hi, hf, hl, hs, h1, h2 => by
    have e : lo = hi := by omega
    subst e; exact ⟨hs, h1, h2⟩
  | fuel + 1, lo, hi, hf, hl, hs, h1, h2 => by
    unfold SetTable.below.go; have hp := List.pairwise_iff_getElem.mp hr
    have hsz : xs.toList.length = xs.size := by simp
    split
    . rename_i hlt
      have hm : (lo + hi) / 2 < xs.size := by omega
      dsimp only; rw [getD_at hm]; split
      . rename_i hx
        refine below_go hr j fuel _ _ (by omega) (by omega) hs (fun i h hi' => ?_) h2
        rcases Nat.lt_or_ge i ((lo + hi) / 2) with q | q
        . exact Nat.lt_trans (hp i _ h (by omega) q) hx
        . have e : i = (lo + hi) / 2 := by omega
          subst e; exact hx
      . rename_i hx
        refine below_go hr j fuel _ _ (by omega) (by omega) (by omega) h1 (fun i h hi' => ?_)
        rcases Nat.lt_or_ge ((lo + hi) / 2) i with q | q
        . exact Znt (Nat.not_lt.mp hx) (Nat.le_of_lt (hp _ i (by omega) h q))
        . have e : i = (lo + hi) / 2 := by omega
          subst e; exact Nat.not_lt.mp hx
    . have e : lo = hi := by omega
      subst e; exact ⟨hs, h1, h2⟩
theorem below_is {xs : Array Nat} (hr : xs.toList.Pairwise (· < ·)) (j : Nat) : BelowIs xs j (SetTable.below xs j) :=
  below_go hr j _ 0 _ (by omega) (Nat.zero_le _) (Znr _) (fun i _ h => absurd h (Nat.not_lt_zero _)) (fun i h hi => by simp at h; omega)
theorem BelowIs.eq {xs : Array Nat} {j r k : Nat} (a : BelowIs xs j r) (b : BelowIs xs j k) : r = k := by
  have hsz : xs.toList.length = xs.size := by simp
  rcases Nat.lt_trichotomy r k with h | h | h
  . have := a.2.2 r (by have := b.1; omega) (Znr _)
    have := b.2.1 r (by have := b.1; omega) h
    omega
  . exact h
  . have := b.2.2 k (by have := a.1; omega) (Znr _)
    have := a.2.1 k (by have := a.1; omega) h
    omega
theorem below_next {xs : Array Nat} (hr : xs.toList.Pairwise (· < ·)) {k s : Nat} (hk : k <= xs.size) (hs : (k = 0 /\ s = 0) ∨ ∃ (h : k - 1 < xs.toList.length), 0 < k /\ s = xs.toList[k - 1] + 1) : SetTable.below xs s = k := by
  have hp := List.pairwise_iff_getElem.mp hr
  have hsz : xs.toList.length = xs.size := by simp
  refine (below_is hr s).eq ⟨hk, fun i h hi => ?_, fun i h hi => ?_⟩
  . rcases hs with ⟨e, _⟩ | ⟨h1, h2, rfl⟩
    . omega
    . rcases Nat.lt_or_ge i (k - 1) with q | q
      . exact Nat.lt_succ_of_lt (hp i _ h h1 q)
      . have e : i = k - 1 := by omega
        subst e; exact Nat.lt_succ_self _
  . rcases hs with ⟨e, rfl⟩ | ⟨h1, h2, rfl⟩
    . exact Nat.zero_le _
    . exact hp _ i h1 h (by omega)
theorem rise_put {xs : Array Nat} (hr : xs.toList.Pairwise (· < ·)) {j : Nat} (hn : xs[SetTable.below xs j]? ≠ some j) : (SetTable.insertAt xs (SetTable.below xs j) j).toList.Pairwise (· < ·) := by
  have hb := below_is hr j
  have hp := List.pairwise_iff_getElem.mp hr
  have hsz : xs.toList.length = xs.size := by simp
  rw [SetTable.toList_insertAt]; generalize hq : SetTable.below xs j = p at hb hn ⊢; have up : ∀ y ∈ xs.toList.drop p, j < y := fun y hy => by
    obtain ⟨i, hi, h1, rfl⟩ := lt_of_mem_drop hy
    have h2 := hb.2.2 i hi h1
    rcases Nat.lt_or_ge p i with q | q
    . have h3 := hb.2.2 p (by omega) (Znr _)
      have := hp p i (by omega) hi q
      omega
    . have e : i = p := by omega
      subst e; rcases Nat.lt_or_eq_of_le h2 with q' | q'
      . exact q'
      . refine absurd ?_ hn
        rw [<- Array.getElem?_toList, Zge hi, <- q']
  refine List.pairwise_append.mpr ⟨hr.sublist (List.take_sublist _ _), List.pairwise_cons.mpr ⟨up, hr.sublist (List.drop_sublist _ _)⟩, fun a ha b hb' => ?_⟩
  obtain ⟨i, hi, h1, rfl⟩ := lt_of_mem_take ha
  have h2 := hb.2.1 i hi h1
  rcases List.mem_cons.mp hb' with rfl | hb'
  . exact h2
  . exact Nat.lt_trans h2 (up b hb')
structure TabOk (b : Bool) (t : SetTable) (n : Nat) : Prop where
  fits : t.fits n = true
  led : t.led = b
  rise : t.place.toList.Pairwise (· < ·)
  nod : t.dummies = #[]
theorem has_nil (j : Nat) : SetTable.has #[] j = false := by simp [SetTable.has]
theorem tab_standIn {b : Bool} {t : SetTable} (hl : t.led = b) (n : Nat) : TabOk b (t.standIn n) n :=
  ⟨SetTable.standIn_fits t n, hl, by simpa [SetTable.standIn, Array.toList_range] using List.pairwise_lt_range, rfl⟩
theorem probe_go {t : SetTable} (hd : t.dummies = #[]) {hashAt : Nat -> Int} {h : Int} : ∀ (fuel : Nat) (p : SetTable.Probe) (j : Nat) (d : Option Nat), p.dummy = none -> SetTable.probe.go t hashAt h fuel p = some (.empty j d) -> d = none /\ t.place[SetTable.below t.place j]? ≠ some j
  | 0, p, j, d, _, e => by unfold SetTable.probe.go at e; cases e
  | fuel + 1, p, j, d, hp, e => by
    unfold SetTable.probe.go at e; have adv : (t.advance p).dummy = none := by unfold SetTable.advance; split <;> exact hp
    have hs : t.slot p.j = (if t.place[SetTable.below t.place p.j]? == some p.j then .live (SetTable.below t.place p.j) else .empty) := by
      unfold SetTable.slot; rw [hd, has_nil]; rfl
    rw [hs] at e; by_cases q : (t.place[SetTable.below t.place p.j]? == some p.j) = true
    . rw [if_pos q] at e; dsimp only at e
      split at e
      . cases e
      . exact probe_go hd fuel _ j d adv e
    . rw [if_neg q] at e; cases e
      exact ⟨hp, fun w => q (by rw [w]; simp)⟩
theorem freeSlot_free {t : SetTable} (hd : t.dummies = #[]) {h : Int} {j : Nat} {d : Bool} (e : t.freeSlot h = some (j, d)) : t.place[SetTable.below t.place j]? ≠ some j := by
  unfold SetTable.freeSlot at e; split at e
  . rename_i j' dm hq
    unfold SetTable.probe at hq; obtain ⟨rfl, hn⟩ := probe_go hd _ _ _ _ rfl hq
    cases e
    exact hn
  . cases e
theorem tab_new {b : Bool} {t : SetTable} {es : Array (Int × Value)} (T : TabOk b t es.size) (h : Int) (x : Value) : TabOk b (layNew t es h x).2.1 (layNew t es h x).1.size := by
  have hf := layNew_fits t es h x
  unfold layNew at hf ⊢
  split
  . rename_i slot wd hq
    rw [hq] at hf; dsimp only at hf ⊢
    unfold SetTable.orStandIn at hf ⊢
    split
    . rename_i hfit
      refine ⟨hfit, T.led, ?_, ?_⟩
      . exact rise_put T.rise (freeSlot_free T.nod hq)
      . show (if SetTable.has t.dummies slot then _ else t.dummies) = #[]
        rw [T.nod, has_nil]; rfl
    . exact tab_standIn (t := (t.put slot).1) T.led _
  . exact (by simpa using tab_standIn T.led (es.size + 1))
theorem fm_sub (owner : Array (Option Nat)) : ∀ l : List Nat, (l.filterMap fun j => ((owner.getD j none).map (j, ·)).map (·.1)).Sublist (l.filter fun j => (owner.getD j none).isSome)
  | [] => List.Sublist.refl _
  | j :: l => by
    have ih := fm_sub owner l
    cases e : owner.getD j none with
    | none => rw [List.filterMap_cons_none (by rw [e]; rfl), List.filter_cons_of_neg (by rw [e]; simp)]; exact ih
    | some k => rw [List.filterMap_cons_some (b := j) (by rw [e]; rfl), List.filter_cons_of_pos (by rw [e]; rfl)]; exact ih.cons₂ _
theorem tab_relay {b : Bool} {t : SetTable} {es : Array (Int × Value)} (T : TabOk b t es.size) (wanted : Nat) : TabOk b (relayAll t es wanted).2.1 (relayAll t es wanted).1.size := by
  have hf := relayAll_fits t es wanted
  unfold relayAll at hf ⊢
  split
  . rename_i t' order hq
    rw [hq] at hf; dsimp only at hf ⊢
    split
    . rename_i hc
      rw [if_pos hc] at hf; unfold SetTable.relaid SetTable.laid at hq; cases ho : SetTable.layClean (SetTable.sizeAbove wanted - 1) (es.map (·.1)) with
      | none => rw [ho] at hq; cases hq
      | some owner =>
        rw [ho] at hq; cases hq
        refine ⟨hf, T.led, ?_, rfl⟩
        dsimp only; rw [List.map_filterMap]; refine List.Pairwise.sublist (l₂ := List.range (SetTable.sizeAbove wanted - 1 + 1)) ?_ List.pairwise_lt_range
        refine List.Sublist.trans (l₂ := (List.range (SetTable.sizeAbove wanted - 1 + 1)).filter fun j => (owner.getD j none).isSome) ?_ List.filter_sublist
        exact fm_sub owner _
    . exact tab_standIn T.led _
  . exact tab_standIn T.led _
end L2
namespace L2
open PySem PySem.Spec PyProof.Rows
def vInt : Value -> Int
  | .int n _ => n
  | _ => 0
def EntI (e : Int × Value) : Prop := ∃ t, e = (hashInt (vInt e.2), .int (vInt e.2) t)
def SetG (b : Bool) (a : Addr) (ns : List Int) (h : Heap) : Prop :=
  ∃ o es ep t, h.get? a = some o /\ o.ExactSet /\ o.data = .set es ep t /\ (∀ e ∈ es.toList, EntI e) /\ (es.toList.map fun e => vInt e.2).Perm ns /\ TabOk b t es.size
section
variable {prog : Program} {w : World} {A : Around} {E : Value -> Shared -> Prop} {s : Shared}
theorem elems_of {es : List (Int × Value)} (h : ∀ e ∈ es, EntI e) : ElemsOf (intKind prog w) es := fun e he => by
  obtain ⟨t, q⟩ := h e he
  generalize vInt e.2 = n at q; subst q; exact ⟨⟨n, intKind_is prog w n t, rfl⟩, rfl⟩
theorem is_vint {e : Int × Value} (h : EntI e) {n : Int} : (intKind prog w).is n e.2 = (vInt e.2 == n) := by
  obtain ⟨t, q⟩ := h
  generalize e1 : vInt e.2 = m at q ⊢; subst q; show Value.isInt n (.int m t) = _
  simp [Value.isInt]
theorem set_stored {h : Heap} {a : Addr} {o : Obj} {es : Array (Int × Value)} {ep : Nat} {t : SetTable} (ho : h.get? a = some o) (hd : o.data = .set es ep t) (es' : Array (Int × Value)) (t' : SetTable) :
    (h.update a (Obj.putSet es' t')).get? a = some { o with data := .set es' (ep + 1) t' } := by
  have := Heap.get?_update_self (Obj.putSet es' t') ho (by rw [putSet_of es' t' hd]; rfl)
  rwa [putSet_of es' t' hd] at this
theorem tab_plain {b : Bool} {t : SetTable} {n : Nat} (T : TabOk b t n) : TabOk b { t with plain := false } n := ⟨T.fits, T.led, T.rise, T.nod⟩
theorem add_tail {b : Bool} {g : Bool -> Sem Unit} (hg : ∀ (c : Bool) (s₁ : Shared) (Q' : Unit -> Shared -> Prop), Q' () s₁ -> wpAny (model prog w) A (g c) Q' E s₁)
    {a : Addr} {o : Obj} {es : Array (Int × Value)} {ep : Nat} {t : SetTable} (ho : s.heap.get? a = some o) (hex : o.ExactSet) (hd : o.data = .set es ep t)
    {es1 : Array (Int × Value)} {t2 : SetTable} {ms : List Int} (he : ∀ e ∈ es1.toList, EntI e) (hp : (es1.toList.map fun e => vInt e.2).Perm ms) (hb : es1.size < scanBound) (T : TabOk b t2 es1.size) {wd : Bool} {R : Option Bool -> Shared -> Prop}
    (h : ∀ h', Heap.SameBut a s.heap h' -> SetG b a ms h' -> R (some true) { s with heap := h' }) :
    wpAny (model prog w) A (do
        storeSet a es1 t2
        if (!wd && t2.tooFull) = true then do
            g (relayAll t2 es1 (SetTable.grown es1.size)).2.2
            storeSet a (relayAll t2 es1 (SetTable.grown es1.size)).1 (relayAll t2 es1 (SetTable.grown es1.size)).2.1
            pure (some true)
          else pure (some true)) R E s := by
  refine wpAny_bind (wpAny_storeSet_of ho hd ?_ (fits_of_scanBound hb))
  have g1 := set_stored ho hd es1 t2
  have b1 := Heap.SameBut.update s.heap a (Obj.putSet es1 t2)
  split
  . have hq := relayAll_perm t2 es1 (SetTable.grown es1.size)
    have T3 := tab_relay T (SetTable.grown es1.size)
    generalize relayAll t2 es1 (SetTable.grown es1.size) = Rl at hq T3 ⊢; obtain ⟨es2, t3, gave⟩ := Rl
    dsimp only at hq T3 ⊢
    have hz : es2.size = es1.size := by rw [<- Array.length_toList, hq.length_eq, Array.length_toList]
    refine wpAny_bind (hg _ _ _ ?_)
    refine wpAny_bind (wpAny_storeSet_of g1 rfl ?_ (fits_of_scanBound (by rw [hz]; exact hb)))
    exact wpAny_pure (h _ (b1.trans (Heap.SameBut.update _ a _)) ⟨_, es2, _, t3, set_stored g1 rfl es2 t3, hex, rfl, fun e q => he e (hq.mem_iff.mp q), (hq.map _).trans hp, T3⟩)
  . exact wpAny_pure (h _ b1 ⟨_, es1, _, t2, g1, hex, rfl, he, hp, T⟩)
theorem add_set {b : Bool} {a : Addr} {ns : List Int} {n : Int} {tok : Tok} {Q : Bool -> Shared -> Prop} (G : SetG b a ns s.heap) (hb : ns.length + 1 < scanBound)
    (h : ∀ r h', Heap.SameBut a s.heap h' -> SetG b a (step_dedup ns n) h' -> Q r { s with heap := h' }) :
    wpAny (model prog w) A (setAddHashed a (.int n tok) ((intKind prog w).hash n)) Q E s := by
  obtain ⟨o, es, ep, t, ho, hex, hd, he, hp, T⟩ := G
  have hl : es.size = ns.length := by rw [<- hp.length_eq, Zlm, Array.length_toList]
  have hel : ElemsOf (intKind prog w) es.toList := elems_of he
  have hkey := intKind_is prog w n tok
  unfold setAddHashed setAddHashedIn; refine wpAny_holding (wpAny_bind (wpAny_setState_of ho hd T.fits ?_))
  dsimp only; rw [byScan_of (x := .int n tok) rfl (by omega) hel]
  simp only [↓reduceIte]
  unfold setAddByScan; refine wpAny_bind ?_
  refine wpAny_bind (wpAny_rule ?_)
  refine wpAny_bind (wpAny_setScan_of hkey ho hd T.fits hel ?_)
  cases hr : List.findIdx? (fun e => (intKind prog w).is n e.2) es.toList with
  | some j =>
    dsimp only; obtain ⟨hj, hpj, _⟩ := List.findIdx?_eq_some_iff_getElem.mp hr
    have hm : n ∈ ns := by
      rw [is_vint (he _ (List.getElem_mem hj))] at hpj; exact hp.mem_iff.mp (Zmm.mpr ⟨_, List.getElem_mem hj, by simpa using hpj⟩)
    have e1 : step_dedup ns n = ns := by unfold step_dedup; rw [if_pos (by simpa using hm)]
    refine wpAny_pure (wpAny_pure ?_)
    exact h false s.heap (Heap.SameBut.refl a s.heap) (e1.symm ▸ ⟨o, es, ep, t, ho, hex, hd, he, hp, T⟩)
  | none =>
    dsimp only; have hm : n ∉ ns := fun q => by
      obtain ⟨e, q1, q2⟩ := Zmm.mp (hp.mem_iff.mpr q)
      have := List.findIdx?_eq_none_iff.mp hr e q1
      rw [is_vint (he _ q1)] at this; simp [q2] at this
    have e1 : step_dedup ns n = ns ++ [n] := by unfold step_dedup; rw [if_neg (by simpa using hm)]
    rw [e1] at h; have hg : ∀ (c : Bool) {s₁ : Shared} {Q' : Unit -> Shared -> Prop}, Q' () s₁ -> wpAny (model prog w) A (match c with | true => rule "set.scan.the-table-gave-way" | false => pure ()) Q' E s₁ :=
      fun c s₁ Q' hq => by cases c <;> first | exact wpAny_pure hq | exact wpAny_rule hq
    have hq := layNew_perm t es ((intKind prog w).hash n) (.int n tok)
    have T1 := tab_new T ((intKind prog w).hash n) (.int n tok)
    generalize layNew t es ((intKind prog w).hash n) (.int n tok) = L at hq T1 ⊢; obtain ⟨es1, t1, wd, gave⟩ := L
    dsimp only at hq T1 ⊢
    rw [Array.toList_push] at hq; have he1 : ∀ e ∈ es1.toList, EntI e := fun e q => by
      rcases Zma.mp (hq.mem_iff.mp q) with q | q
      . exact he e q
      . rw [Zms] at q; subst q; exact ⟨tok, rfl⟩
    have hp1 : (es1.toList.map fun e => vInt e.2).Perm (ns ++ [n]) := (hq.map _).trans (by rw [Zap]; exact hp.append_right _)
    have hb1 : es1.size < scanBound := by
      have := hp1.length_eq
      simp at this
      omega
    refine wpAny_bind (hg _ ?_)
    split
    . refine wpAny_bind ?_
      rw [hashByValue_scannable 8 (x := .int n tok) rfl]; refine wpAny_pure ?_
      refine add_tail (b := b) ?_ ho hex hd he1 hp1 hb1 ?_ ?_
      . intro c s₁ Q' hq; cases c <;> first | exact wpAny_pure hq | exact wpAny_rule hq
      . split
        . exact T1
        . exact tab_plain T1
      . intro h' hsb hS'; dsimp only; exact wpAny_pure (h true h' hsb hS')
    . refine wpAny_bind (wpAny_pure ?_)
      simp only [↓reduceIte]
      refine add_tail (b := b) ?_ ho hex hd he1 hp1 hb1 T1 ?_
      . intro c s₁ Q' hq; cases c <;> first | exact wpAny_pure hq | exact wpAny_rule hq
      . intro h' hsb hS'; dsimp only; exact wpAny_pure (h true h' hsb hS')
end
end L2
namespace L2
open PySem PySem.Spec PyProof.Rows
theorem SetG.at {b : Bool} {a : Addr} {ns : List Int} {h h' : Heap} (G : SetG b a ns h) (k : ∀ o, h.get? a = some o -> h'.get? a = some o) : SetG b a ns h' :=
  let ⟨o, es, ep, t, ho, r⟩ := G; ⟨o, es, ep, t, k o ho, r⟩
section
variable {prog : Program} {w : World} {A : Around} {R : Result -> Shared -> Prop} {I : Addr} {fp wr : List Addr} {G : Array GenState -> Array GenState -> Prop} {n : Nat} {P : Nat -> Value -> Prop} {St : Nat -> Shared -> Prop}
theorem set_loop (b : Bool) (W : WalksS prog w A.in1 I fp wr G n P St) (S : Addr) (hSf : S ∉ fp) (val : Nat -> Int) (hval : ∀ i v, P i v -> ∃ t, v = .int (val i) t) (hb : n + 1 < scanBound) :
    ∀ (k i : Nat) (s : Shared), n - i = k -> i <= n -> St i s -> SetG b S (firstMet val i) s.heap →
      (∀ s', Moved (S :: wr) G s s' -> SetG b S (firstMet val n) s'.heap -> R (.ok (.ret .none)) s') →
      codeAny (model prog w) A (.builtin "set.update.loop" ⟨[.ref S, .ref I], []⟩) R s := by
  have hSw : S ∉ wr := fun h => hSf (W.sub _ h)
  have hsub : ∀ b ∈ wr, b ∈ S :: wr := fun b hb => Zmc _ hb
  intro k; induction k with
  | zero =>
    intro i s hk hi hst hS hR; have hin : i = n := by omega
    subst hin; refine codeAny_builtin F.entry_set_update_loop ?_
    rw [Around.under_plainId F.plain_set_update_loop _]; show wpAny _ A.in1 (pyNext (.ref I) >>= _) _ _ s
    refine wpAny_bind (W.done s _ _ hst fun s' hm => ?_)
    show wpAny _ A.in1 (ret Value.none) _ _ s'
    exact wpAny_pure (hR s' (hm.mono hsub) (hS.at fun o e => hm.heap S o hSw e))
  | succ k ih =>
    intro i s hk hi hst hS hR; have hlt : i < n := by omega
    refine codeAny_builtin F.entry_set_update_loop ?_
    rw [Around.under_plainId F.plain_set_update_loop _]; show wpAny _ A.in1 (pyNext (.ref I) >>= _) _ _ s
    refine wpAny_bind (W.item i s _ _ hlt hst fun v s' hP hst' hm => ?_)
    obtain ⟨t, rfl⟩ := hval i v hP
    show wpAny _ A.in1 (holding [Value.int (val i) t] (setAdd S (.int (val i) t)) >>= _) _ _ s'
    refine wpAny_bind (wpAny_holding ?_)
    unfold setAdd; refine wpAny_holding ?_
    refine wpAny_bind ((intKind prog w).pyHash (k := val i) (intKind_is _ _ _ _) ?_)
    refine add_set (b := b) (s := { s' with toks := s'.toks + 1 }) (hS.at fun o e => hm.heap S o hSw e) (by have := firstMet_length_le val i; omega) fun r h' hsb hS2 => ?_
    rw [<- firstMet_succ] at hS2; refine wpAny_pure ⟨plainId_quiet F.plain_set_update_loop _, ih (i + 1) _ (by omega) hlt (W.frame _ s' _ _ hst' (Nat.le_succ _) fun b hb o e => ?_) hS2 fun s'' hm'' hS'' => ?_⟩
    . rw [hsb.2 b (fun h : b = S => hSf (by rw [<- h]; exact hb))]; exact e
    . refine hR s'' (Moved.trans W.gtrans ((hm.mono hsub).then_heap (Nat.le_succ _) fun b o hb e => ?_) hm'') hS''
      rw [hsb.2 b (fun h : b = S => hb (by rw [h]; exact Zcs))]; exact e
end
section
variable {prog : Program} {w : World} {A : Around} {E : Value -> Shared -> Prop} {s : Shared}
def ledOf (w : World) : Bool := !w.params.followText "set-order"
def newSetO (b : Bool) : Obj := { cls := .type "set", dict := none, data := .set #[] 0 (.fresh 0 0 b) }
theorem set_new (a : Value) {Q₁ : Value -> Shared -> Prop} (h : Q₁ (.ref s.heap.objs.size) { s with heap := s.heap.push (newSetO (ledOf w)) }) :
    codeAny (model prog w) A (.call (.builtin "set.__new__") ⟨[.type "set", a], []⟩) (wants Q₁ E) s := by
  refine codeAny_of_tree ?_
  show wpAny _ A.in1 (do checkBuiltinCall "set.__new__" ⟨[.type "set", a], []⟩; again (.builtin "set.__new__" ⟨[.type "set", a], []⟩)) _ _ s
  refine wpAny_bind (wpAny_of_eq (PySem.F.newCall_set_1 a) (wpAny_pure ⟨plainId_quiet PySem.F.plain_set_new _, codeAny_builtin PySem.F.entry_set_new ?_⟩))
  rw [Around.under_plainId PySem.F.plain_set_new _]; unfold Builtin.«set.__new__» Builtin.Frozenset.newClass
  have hsub := sub_set_self
  obtain ⟨hp, g, d, tk, os⟩ := s
  dsimp only; wp_walk
  refine wpAny_askSetting (wpAny_pure ?_)
  dsimp only; simp only [newObj]
  refine wpAny_bind (wpAny_alloc (wpAny_pure ?_))
  exact wpAny_pure h
set_option maxHeartbeats 3200000 in
theorem call_setG {l : Addr} {items : Array Value} {ns : List Int} {Q : Value -> Shared -> Prop}
    (hh : A.handled = none) (hl : s.heap.IsList l items) (hi : IntsAre items.toList ns) (hb : items.size + 1 < scanBound)
    (h : ∀ (h' : Heap) (tk : Nat), SetG (ledOf w) s.heap.objs.size (firstMet (fun i => ns.getD i 0) items.size) h' →
      (∀ b o, b < s.heap.objs.size -> s.heap.get? b = some o -> h'.get? b = some o) -> Q (.ref s.heap.objs.size) { s with heap := h', toks := tk }) :
    wpAny (model prog w) A (call (.type "set") [.ref l]) Q E s := by
  obtain ⟨c, tl, hmro⟩ := PySem.F.called_set.mro
  have hmade := PySem.F.called_set.made
  have hsub := PySem.F.called_set.sub
  refine wpAny_call (codeAny_of_tree ?_)
  show wpAny _ _ (callAny (.type "set") _) _ _ _
  refine wpAny_pure ⟨Code.quiet_builtin _ (by decide +kernel), codeAny_builtin PySem.F.entry_type_call ?_⟩
  rw [Around.under_plain (weight_type_call_type "set" [.ref l] []) rfl]; have h1 := PySem.F.called_set.notType
  have h2 := PySem.F.called_set.canCreate
  have hct := PySem.F.typeCall_set_1 (.ref l)
  repeat (any_goals (first | assumption | wp_step))
  refine codeAny_mono (set_new (.ref l) (E := E) (Q₁ := fun obj s₁ => obj = .ref s.heap.objs.size /\ s₁ = { s with heap := s.heap.push (newSetO (ledOf w)) }) ⟨rfl, rfl⟩) fun r s₁ hr => ?_
  cases r with
  | error e => exact hr
  | ok fl =>
    cases fl with
    | ret obj =>
      obtain ⟨rfl, rfl⟩ := hr
      have hS : (s.heap.push (newSetO (ledOf w))).get? s.heap.objs.size = some (newSetO (ledOf w)) := Heap.get?_push_size _ rfl
      have hT : Shared.TypeIs { s with heap := s.heap.push (newSetO (ledOf w)) } (.ref s.heap.objs.size) "set" := ⟨_, hS, rfl⟩
      have hli := PySem.F.called_set.init.lookup
      have hbi := PySem.F.called_set.init.bind (.ref s.heap.objs.size)
      repeat (any_goals (first | assumption | wp_step))
      refine codeAny_mono (codeAny_call_builtin (R := wants (fun r s₂ => r = .none /\ ∃ h' tk, s₂ = { s with heap := h', toks := tk } ∧
          SetG (ledOf w) s.heap.objs.size (firstMet (fun i => ns.getD i 0) items.size) h' ∧
          (∀ b o, b < s.heap.objs.size -> s.heap.get? b = some o -> h'.get? b = some o)) E) PySem.F.called_set.init.plain PySem.F.entry_set_init (check_set_init_1 hT ?_)) fun r₂ s₂ hr₂ => ?_
      . obtain ⟨ol, hol, hcl, nl, hdl⟩ := hl
        obtain ⟨ocls, odict, odata, oslots⟩ := ol
        simp only at hcl hdl
        subst hcl; subst hdl
        have hol' : (s.heap.push (newSetO (ledOf w))).get? l = some { cls := .type "list", dict := odict, data := .seq items nl, slots := oslots } := Zpu _ hol
        have hsls := PySem.F.sub_list_set
        have hslf := PySem.F.sub_list_frozenset
        have hne : (Value.type "list" == Value.type "dict") = false := by decide
        have hl1 : (s.heap.push (newSetO (ledOf w))).IsList l items := ⟨_, hol', rfl, nl, rfl⟩
        unfold Builtin.«set.__init__» noKeywords Builtin.Frozenset.updateFrom
        generalize hPI : pyIter = PI; wp_walk
        subst hPI; refine wpAny_pyIter_list hl1 ?_
        refine wpAny_bind (wpAny_runValue ?_)
        have hlS : l < s.heap.objs.size := Heap.lt_size hol
        have hh3 : A.in1.in1.in1.handled = none := by simp [hh]
        have hneI : l ≠ (s.heap.push (newSetO (ledOf w))).objs.size := by
          rw [Heap.size_push]; exact Nat.ne_of_lt (Nat.lt_succ_of_lt hlS)
        have hSf : s.heap.objs.size ∉ [(s.heap.push (newSetO (ledOf w))).objs.size, l] := by
          rw [Heap.size_push]; simp only [List.mem_cons, Zms, List.not_mem_nil, or_false, not_or]; exact ⟨Nat.ne_of_lt (Nat.lt_succ_self _), Nat.ne_of_gt hlS⟩
        have hval : ∀ (i : Nat) (v : Value), items[i]? = some v -> ∃ t, v = .int ((fun i => ns.getD i 0) i) t := fun i v hv =>
          IntsAre.int_at hi i v (by rw [Array.getElem?_toList]; exact hv)
        refine set_loop (ledOf w) ((Walks.list hh3 _ l hneI items).toS) s.heap.objs.size
          hSf (fun i => ns.getD i 0) hval hb (items.size - 0) 0 _ (by omega) (Nat.zero_le _)
          ⟨⟨_, Heap.get?_push_size _ rfl, rfl, rfl⟩, (hl1.push _)⟩ ?hS0 ?hR
        case hS0 =>
          exact ⟨_, #[], 0, _, Zpu _ hS, ⟨rfl, rfl, rfl⟩, rfl, fun e he => by simp at he, .nil, ⟨rfl, rfl, .nil, rfl⟩⟩
        case hR =>
          intro s' hm hS'; obtain ⟨h', g', d', tk', os'⟩ := s'
          have eg : g' = s.gens := hm.gens
          have ed : d' = s.drawn := hm.drawn
          have eo : os' = s.os := hm.os
          subst eg; subst ed; subst eo
          show wpAny _ _ _ _ _ _
          refine wpAny_pure ?_
          show wpAny _ _ (ret Value.none) _ _ _
          refine wpAny_pure ⟨rfl, h', tk', rfl, hS', fun b o hb e => ?_⟩
          have hb1 : b ≠ s.heap.objs.size := Nat.ne_of_lt hb
          have hb2 : b ≠ (s.heap.push (newSetO (ledOf w))).objs.size := by
            rw [Heap.size_push]; exact Nat.ne_of_lt (Nat.lt_succ_of_lt hb)
          exact hm.heap b o (by simp only [List.mem_cons, Zms, List.not_mem_nil, or_false, not_or]; exact ⟨hb1, hb2⟩) (Zpu _ (Zpu _ e))
      . cases r₂ with
        | error e => exact hr₂
        | ok fl₂ =>
          cases fl₂ with
          | ret r =>
            obtain ⟨rfl, h', tk, rfl, hS', hk'⟩ := hr₂
            repeat (any_goals (first | assumption | wp_step))
            exact h _ _ hS' hk'
          | _ => exact hr₂.elim
    | _ => exact hr.elim
end
end L2
namespace L2
open PySem PySem.Spec PyProof.Rows
namespace St
theorem slot_next : Slot "set_iterator" "__next__" "set_iterator.__next__" :=
  .of (owner := "set_iterator") (n := "__next__") (by rw [typeLookup_type, builtinLookup_eq_fast]; kernel_rfl) (by decide +kernel) (by decide +kernel) (by decide +kernel)
    (by first | exact .inl (by decide +kernel) | exact .inr (by decide +kernel)) (by rw [isSubtype_type]; kernel_rfl)
theorem entry_next : entryFor table "set_iterator.__next__" = some Builtin.«set_iterator.__next__» := entryFor_of_tree (by kernel_rfl)
theorem args_next (a : Value) : argsOk "set_iterator.__next__" ⟨[a], []⟩ := by
  unfold argsOk; rw [signature?_of (id := "set_iterator.__next__") (n := "__next__".toList.reverse) (o := "set_iterator".toList.reverse) (by kernel_rfl) (by kernel_rfl : Manifest.owners.lookup _ = some Manifest.sig_set_iterator)]; kernel_rfl
theorem entry_iter : entryFor table "set.__iter__" = some Builtin.«frozenset.__iter__» := entryFor_alias (id' := "frozenset.__iter__") (by kernel_rfl) rfl (by decide +kernel) (by kernel_rfl)
end St
section
variable {prog : Program} {w : World} {A : Around} {E : Value -> Shared -> Prop} {s : Shared}
theorem choose_any {src : Source} {n : Nat} {Q : Nat -> Shared -> Prop} (hn : n ≠ 0) (h : ∀ i d, i < n -> Q i { s with drawn := d }) : wpAny (model prog w) A (choose src n) Q E s :=
  fun _ _ _ => ⟨hn, h _ _ (Nat.mod_lt _ (Nat.pos_of_ne_zero hn))⟩
theorem erase_perm {α : Type} : ∀ (l : List α) (i : Nat) (h : i < l.length), (l[i] :: l.eraseIdx i).Perm l
  | x :: l, 0, _ => by simp
  | x :: l, i + 1, h => by
    have := erase_perm l i (by simpa using h)
    simp only [List.getElem_cons_succ, List.eraseIdx_cons_succ]
    exact (List.Perm.swap _ _ _).trans (this.cons _)
theorem draw_order {α : Type} : ∀ (n : Nat) (xs : List α) (s : Shared) (Q : List α -> Shared -> Prop), xs.length = n -> (∀ ys d, ys.Perm xs -> Q ys { s with drawn := d }) -> wpAny (model prog w) A (drawOrder n xs) Q E s
  | 0, xs, s, Q, hl, h => by
    have e : xs = [] := List.length_eq_zero_iff.mp hl
    subst e; unfold drawOrder; exact wpAny_pure (h [] s.drawn .nil)
  | n + 1, [], s, Q, hl, h => by cases hl
  | n + 1, x :: xs, s, Q, hl, h => by
    unfold drawOrder; refine wpAny_bind (choose_any (by simp) fun i d hi => ?_)
    rw [Zge hi]; dsimp only; refine wpAny_bind (draw_order n _ _ _ (by rw [List.length_eraseIdx_of_lt hi, hl]; rfl) fun ys d' hp => wpAny_pure (h _ _ ?_))
    exact (hp.cons _).trans (erase_perm _ i hi)
theorem pick_go {α : Type} (next : Nat -> Nat) : ∀ (fuel k : Nat) (left : List α) (out : Array α), left.length = fuel -> ∃ ys : List α, ys.Perm left /\ (pickOrder.go next fuel k left out).toList = out.toList ++ ys
  | 0, k, left, out, hl => by
    have e : left = [] := List.length_eq_zero_iff.mp hl
    subst e; exact ⟨[], .nil, by unfold pickOrder.go; simp⟩
  | fuel + 1, k, left, out, hl => by
    unfold pickOrder.go; have hi : next k % left.length < left.length := Nat.mod_lt _ (by omega)
    rw [Zge hi]; dsimp only; obtain ⟨ys, hp, e⟩ := pick_go next fuel (k + 1) (left.eraseIdx (next k % left.length)) (out.push left[next k % left.length]) (by rw [List.length_eraseIdx_of_lt hi]; omega)
    exact ⟨left[next k % left.length] :: ys, (hp.cons _).trans (erase_perm _ _ hi), by rw [e]; simp⟩
theorem pick_perm {α : Type} (next : Nat -> Nat) (xs : Array α) : (pickOrder next xs).toList.Perm xs.toList := by
  obtain ⟨ys, hp, e⟩ := pick_go next xs.size 0 xs.toList #[] (by simp)
  unfold pickOrder; rw [e]; simpa using hp
def SetX (a : Addr) (es : Array (Int × Value)) (ep : Nat) (t : SetTable) (h : Heap) : Prop := ∃ o, h.get? a = some o /\ o.ExactSet /\ o.data = .set es ep t
def ItS (it a : Addr) (first : Value) (i n ep : Nat) (h : Heap) : Prop := ∃ o, h.get? it = some o /\ o.cls = .type "set_iterator" /\ o.data = .fields #[first, .int i 0, .ref a, .int n 0, .int ep 0]
theorem ItS.typeIs {it a : Addr} {first : Value} {i n ep : Nat} (x : ItS it a first i n ep s.heap) : s.TypeIs (.ref it) "set_iterator" := let ⟨o, ho, hc, _⟩ := x; ⟨o, ho, hc⟩
theorem next_slot {it a : Addr} {es : Array (Int × Value)} {ep : Nat} {t : SetTable} {slot i : Nat} {x : Value} {nx : Nat} {Q : Option Value -> Shared -> Prop}
    (hit : ItS it a (.int slot 0) i es.size ep s.heap) (hs : SetX a es ep t s.heap) (hf : t.fits es.size = true)
    (hn : ∀ (A : Around) (E : Value -> Shared -> Prop) (Q : Option (Value × Nat) -> Shared -> Prop), Q (some (x, nx)) s -> wpAny (model prog w) A (setNext a slot i ep) Q E s)
    (hQ : ∀ h', ItS it a (.int nx 0) (i + 1) es.size ep h' -> Heap.SameBut it s.heap h' -> Q (some x) { s with heap := h' }) :
    wpAny (model prog w) A (pyNext (.ref it)) Q E s := by
  obtain ⟨o, ho, hc, hd⟩ := id hit
  obtain ⟨os, hos, hex, hds⟩ := hs
  unfold pyNext; refine wpAny_bind (wpAny_attempt (wpAny_callSpecial?_slot (name := Str.ofString "__next__") hit.typeIs St.slot_next
    (wpAny_call_entry St.slot_next hit.typeIs St.entry_next ?_ (St.args_next _))))
  unfold Builtin.«set_iterator.__next__»
  refine wpAny_bind (wpAny_pure ?_)
  refine wpAny_bind (wpAny_fieldsOf ho hd ?_)
  dsimp only; refine wpAny_bind (wpAny_setEntries_of hos hds hf ?_)
  rw [if_neg (by simp)]
  simp only [Int.toNat_natCast]
  refine wpAny_bind (hn _ _ _ ?_)
  dsimp only; refine wpAny_bind (wpAny_setField ho hd (by simp) ?_)
  have ho1 := Heap.get?_update_self (Obj.mapFields (·.setIfInBounds 0 (rawInt nx))) ho (Obj.isFreed_of_fields (Obj.data_mapFields hd _))
  have hd1 := Obj.data_mapFields hd (·.setIfInBounds 0 (rawInt nx))
  refine wpAny_bind (wpAny_setField ho1 hd1 (by simp) ?_)
  have ho2 := Heap.get?_update_self (Obj.mapFields (·.setIfInBounds 1 (rawInt ((i : Int) + 1)))) ho1 (Obj.isFreed_of_fields (Obj.data_mapFields hd1 _))
  have hd2 := Obj.data_mapFields hd1 (·.setIfInBounds 1 (rawInt ((i : Int) + 1)))
  refine wpAny_pure ⟨_, rfl, wpAny_pure (hQ _ ⟨_, ho2, (Obj.cls_mapFields ..).trans ((Obj.cls_mapFields ..).trans hc), hd2.trans (by simp [rawInt])⟩ ((Heap.SameBut.update ..).trans (Heap.SameBut.update ..)))⟩
theorem stop_raised {it : Addr} {Q : Option Value -> Shared -> Prop} {Q' : Fin -> Shared -> Prop} (hh : A.handled = none) (hQ : ∀ h', Heap.ExtBut it s.heap h' -> Q none { s with heap := h' }) :
    wpAny (model prog w) A.in1 (do let e ← newExc (Value.type "StopIteration") []; raiseNew e) Q' (fun e s' => wpAny (model prog w) A (do if ← isInstance e (Value.type "StopIteration") then pure none else throw e) Q E s') s := by
  refine wpAny_bind ?_
  simp only [newExc, newTuple]
  refine wpAny_bind (wpAny_newObj_type ?_ (by size_fits))
  refine wpAny_bind (m := firstArgMember _ _) (wpAny_of_eq (a := Value.none) (by first | rfl | (simp only [firstArgMember]; rfl)) ?_)
  refine wpAny_newObj_type ?_ (by size_fits)
  simp only [raiseNew]
  refine wpAny_bind (wpAny_handled ?_)
  rw [show A.in1.handled = none from hh]; refine wpAny_bind (wpAny_pure (wpAny_throw ?_))
  refine wpAny_bind (wpAny_isInstance (T := "StopIteration") (b := true) ⟨_, Heap.get?_push_size _ rfl, rfl⟩ isSubtype_stop ?_)
  exact wpAny_pure (hQ _ (((Heap.SameBut.refl it s.heap).extBut.push _).push _))
theorem next_slot_end {it a : Addr} {es : Array (Int × Value)} {ep : Nat} {t : SetTable} {slot i : Nat} {Q : Option Value -> Shared -> Prop} (hh : A.handled = none)
    (hit : ItS it a (.int slot 0) i es.size ep s.heap) (hs : SetX a es ep t s.heap) (hf : t.fits es.size = true)
    (hn : ∀ (A : Around) (E : Value -> Shared -> Prop) (Q : Option (Value × Nat) -> Shared -> Prop), Q none s -> wpAny (model prog w) A (setNext a slot i ep) Q E s)
    (hQ : ∀ h', Heap.ExtBut it s.heap h' -> Q none { s with heap := h' }) :
    wpAny (model prog w) A (pyNext (.ref it)) Q E s := by
  obtain ⟨o, ho, hc, hd⟩ := id hit
  obtain ⟨os, hos, hex, hds⟩ := hs
  unfold pyNext; refine wpAny_bind (wpAny_attempt (wpAny_callSpecial?_slot (name := Str.ofString "__next__") hit.typeIs St.slot_next
    (wpAny_call_entry St.slot_next hit.typeIs St.entry_next ?_ (St.args_next _))))
  unfold Builtin.«set_iterator.__next__»
  refine wpAny_bind (wpAny_pure ?_)
  refine wpAny_bind (wpAny_fieldsOf ho hd ?_)
  dsimp only; refine wpAny_bind (wpAny_setEntries_of hos hds hf ?_)
  rw [if_neg (by simp)]
  simp only [Int.toNat_natCast]
  refine wpAny_bind (hn _ _ _ ?_)
  dsimp only; refine wpAny_bind (wpAny_setField ho hd (by simp) ?_)
  exact stop_raised (it := it) hh fun h' k => hQ h' fun b o hb e => k b o hb (by rw [(Heap.SameBut.update ..).2 b hb]; exact e)
theorem next_drawn {it a tp : Addr} {es : Array (Int × Value)} {ep : Nat} {t : SetTable} {ps : List Nat} {i p : Nat} {e : Int × Value} {Q : Option Value -> Shared -> Prop}
    (hit : ItS it a (.ref tp) i es.size ep s.heap) (htp : s.heap.IsTuple tp (ps.map fun p : Nat => rawInt p).toArray) (hs : SetX a es ep t s.heap) (hf : t.fits es.size = true)
    (hp : ps[i]? = some p) (he : es[p]? = some e)
    (hQ : ∀ h', ItS it a (.ref tp) (i + 1) es.size ep h' -> Heap.SameBut it s.heap h' -> Q (some e.2) { s with heap := h' }) :
    wpAny (model prog w) A (pyNext (.ref it)) Q E s := by
  obtain ⟨o, ho, hc, hd⟩ := id hit
  obtain ⟨os, hos, hex, hds⟩ := hs
  unfold pyNext; refine wpAny_bind (wpAny_attempt (wpAny_callSpecial?_slot (name := Str.ofString "__next__") hit.typeIs St.slot_next
    (wpAny_call_entry St.slot_next hit.typeIs St.entry_next ?_ (St.args_next _))))
  unfold Builtin.«set_iterator.__next__»
  refine wpAny_bind (wpAny_pure ?_)
  refine wpAny_bind (wpAny_fieldsOf ho hd ?_)
  dsimp only; refine wpAny_bind (wpAny_setEntries_of hos hds hf ?_)
  rw [if_neg (by simp)]
  obtain ⟨ot, hot, hct, nt, hdt⟩ := htp
  refine wpAny_bind (wpAny_seqItems hot hdt ?_)
  dsimp only; have e1 : (ps.map fun p : Nat => rawInt p).toArray[((i : Nat) : Int).toNat]? = some (.int p 0) := by
    simp [hp, rawInt]
  rw [e1]; dsimp only; unfold setNextDrawn; simp only [Int.toNat_natCast]
  refine wpAny_bind (wpAny_bind (wpAny_setState_of hos hds hf ?_))
  dsimp only; rw [if_neg (by simp), he]
  refine wpAny_pure ?_
  refine wpAny_bind (wpAny_setField ho hd (by simp) ?_)
  have ho1 := Heap.get?_update_self (Obj.mapFields (·.setIfInBounds 1 (rawInt ((i : Int) + 1)))) ho (Obj.isFreed_of_fields (Obj.data_mapFields hd _))
  have hd1 := Obj.data_mapFields hd (·.setIfInBounds 1 (rawInt ((i : Int) + 1)))
  exact wpAny_pure ⟨_, rfl, wpAny_pure (hQ _ ⟨_, ho1, (Obj.cls_mapFields ..).trans hc, hd1.trans (by simp [rawInt])⟩ (Heap.SameBut.update ..))⟩
theorem next_drawn_end {it a tp : Addr} {es : Array (Int × Value)} {ep : Nat} {t : SetTable} {ps : List Nat} {i : Nat} {Q : Option Value -> Shared -> Prop} (hh : A.handled = none)
    (hit : ItS it a (.ref tp) i es.size ep s.heap) (htp : s.heap.IsTuple tp (ps.map fun p : Nat => rawInt p).toArray) (hs : SetX a es ep t s.heap) (hf : t.fits es.size = true)
    (hp : ps[i]? = none) (hQ : ∀ h', Heap.ExtBut it s.heap h' -> Q none { s with heap := h' }) :
    wpAny (model prog w) A (pyNext (.ref it)) Q E s := by
  obtain ⟨o, ho, hc, hd⟩ := id hit
  obtain ⟨os, hos, hex, hds⟩ := hs
  unfold pyNext; refine wpAny_bind (wpAny_attempt (wpAny_callSpecial?_slot (name := Str.ofString "__next__") hit.typeIs St.slot_next
    (wpAny_call_entry St.slot_next hit.typeIs St.entry_next ?_ (St.args_next _))))
  unfold Builtin.«set_iterator.__next__»
  refine wpAny_bind (wpAny_pure ?_)
  refine wpAny_bind (wpAny_fieldsOf ho hd ?_)
  dsimp only; refine wpAny_bind (wpAny_setEntries_of hos hds hf ?_)
  rw [if_neg (by simp)]
  obtain ⟨ot, hot, hct, nt, hdt⟩ := htp
  refine wpAny_bind (wpAny_seqItems hot hdt ?_)
  dsimp only; have e1 : (ps.map fun p : Nat => rawInt p).toArray[((i : Nat) : Int).toNat]? = none := by
    simpa using hp
  rw [e1]; dsimp only; refine wpAny_bind (wpAny_setField ho hd (by simp) ?_)
  have ho1 := Heap.get?_update_self (Obj.mapFields (·.setIfInBounds 0 (rawInt 0))) ho (Obj.isFreed_of_fields (Obj.data_mapFields hd _))
  have hd1 := Obj.data_mapFields hd (·.setIfInBounds 0 (rawInt 0))
  refine wpAny_bind (wpAny_setField ho1 hd1 (by simp) ?_)
  exact stop_raised (it := it) hh fun h' k => hQ h' fun b o hb e => k b o hb (by rw [(Heap.SameBut.update ..).2 b hb, (Heap.SameBut.update ..).2 b hb]; exact e)
theorem next_text {a : Addr} {es : Array (Int × Value)} {ep : Nat} {t : SetTable} {slot i : Nat} {Q : Option (Value × Nat) -> Shared -> Prop} (hb : w.params.followText "set-order" = true) (hs : SetX a es ep t s.heap) (hf : t.fits es.size = true)
    (h : Q ((pickOrder (w.params.setOrder a ep) es).toList[i]?.map fun e => (e.2, slot)) s) : wpAny (model prog w) A (setNext a slot i ep) Q E s := by
  obtain ⟨os, hos, hex, hds⟩ := hs
  unfold setNext; refine wpAny_bind (wpAny_setState_of hos hds hf ?_)
  dsimp only; unfold setsByText; refine wpAny_bind (wpAny_bind (wpAny_askSetting (wpAny_pure ?_)))
  refine wpAny_ite_split (fun _ => ?_) (fun hab => absurd hb hab)
  rw [if_neg (by simp)]
  unfold setWalk; refine wpAny_bind (wpAny_bind (wpAny_setState_of hos hds hf ?_))
  dsimp only; unfold setsByText; refine wpAny_bind (wpAny_bind (wpAny_askSetting (wpAny_pure ?_)))
  refine wpAny_ite_split (fun _ => ?_) (fun hab => absurd hb hab)
  refine wpAny_bind (wpAny_askSetting (wpAny_pure (wpAny_pure ?_)))
  rw [<- Array.getElem?_toList]; exact h
theorem next_led {a : Addr} {es : Array (Int × Value)} {ep : Nat} {t : SetTable} {slot i : Nat} {Q : Option (Value × Nat) -> Shared -> Prop} (hb : w.params.followText "set-order" = false) (hs : SetX a es ep t s.heap) (hf : t.fits es.size = true)
    (hdr : (!t.plain && decide (es.size > 1)) = false) (hl : t.led = true)
    (h : Q (match es[SetTable.below t.place slot]?, t.place[SetTable.below t.place slot]? with | some (_, x), some j => some (x, j + 1) | _, _ => none) s) : wpAny (model prog w) A (setNext a slot i ep) Q E s := by
  obtain ⟨os, hos, hex, hds⟩ := hs
  unfold setNext; refine wpAny_bind (wpAny_setState_of hos hds hf ?_)
  dsimp only; unfold setsByText; refine wpAny_bind (wpAny_bind (wpAny_askSetting (wpAny_pure ?_)))
  refine wpAny_ite_split (fun hab => absurd (hb.symm.trans hab) Bool.false_ne_true) (fun _ => ?_)
  refine wpAny_ite_split (fun hab => absurd (show (!t.plain && decide (es.size > 1)) = true from hab) (by rw [hdr]; exact Bool.false_ne_true)) (fun _ => ?_)
  refine wpAny_bind (show wpAny _ _ (if (!t.led && !es.isEmpty) = true then unsupported "set:maker-not-led" else pure ()) _ _ _ from ?_)
  rw [hl, if_neg (by simp)]
  exact wpAny_pure (wpAny_pure h)
end
end L2
namespace L2
open PySem PySem.Spec PyProof.Rows
namespace St
theorem slot_self : Slot "set_iterator" "__iter__" "set_iterator.__iter__" :=
  .of (owner := "set_iterator") (n := "__iter__") (by rw [typeLookup_type, builtinLookup_eq_fast]; kernel_rfl) (by decide +kernel) (by decide +kernel) (by decide +kernel)
    (by first | exact .inl (by decide +kernel) | exact .inr (by decide +kernel)) (by rw [isSubtype_type]; kernel_rfl)
theorem entry_self : entryFor table "set_iterator.__iter__" = some Builtin.«dict_keyiterator.__iter__» := entryFor_alias (id' := "dict_keyiterator.__iter__") (by kernel_rfl) rfl (by decide +kernel) (by kernel_rfl)
theorem args_self (a : Value) : argsOk "set_iterator.__iter__" ⟨[a], []⟩ := by
  unfold argsOk; rw [signature?_of (id := "set_iterator.__iter__") (n := "__iter__".toList.reverse) (o := "set_iterator".toList.reverse) (by kernel_rfl) (by kernel_rfl : Manifest.owners.lookup _ = some Manifest.sig_set_iterator)]; kernel_rfl
end St
def itO (first : Value) (a : Addr) (n ep : Nat) : Obj := { cls := .type "set_iterator", data := .fields #[first, .int 0 0, .ref a, .int n 0, .int ep 0] }
section
variable {prog : Program} {w : World} {A : Around} {E : Value -> Shared -> Prop} {s : Shared}
theorem SetX.typeIs {a : Addr} {es : Array (Int × Value)} {ep : Nat} {t : SetTable} (hs : SetX a es ep t s.heap) : s.TypeIs (.ref a) "set" := let ⟨o, ho, hc, _⟩ := hs; ⟨o, ho, hc.1⟩
theorem iter_self {it a : Addr} {first : Value} {i n ep : Nat} {Q : Value -> Shared -> Prop} (hit : ItS it a first i n ep s.heap) (h : Q (.ref it) s) : wpAny (model prog w) A (pyIter (.ref it)) Q E s := by
  refine wpAny_pyIter_slot hit.typeIs St.slot_self (wpAny_call_entry St.slot_self hit.typeIs St.entry_self ?_ (St.args_self _))
  show wpAny _ _ (ret (.ref it)) _ _ s
  exact wpAny_pure ⟨_, rfl, "set_iterator", _, hit.typeIs, St.slot_next.lookup, h⟩
theorem iter_set {a : Addr} {es : Array (Int × Value)} {ep : Nat} {t : SetTable} {Q : Value -> Shared -> Prop} (hs : SetX a es ep t s.heap) (hf : t.fits es.size = true) (hz : es.size <= sizeLine)
    (h1 : (!w.params.followText "set-order" && (!t.plain && decide (es.size > 1))) = false -> Q (.ref s.heap.objs.size) { s with heap := s.heap.push (itO (.int 0 0) a es.size ep) })
    (h2 : (!w.params.followText "set-order" && (!t.plain && decide (es.size > 1))) = true -> ∀ (ps : List Nat) (d : Drawn), ps.Perm (List.range es.size) →
      Q (.ref (s.heap.push (seqObj "tuple" (ps.map fun p : Nat => rawInt p).toArray 0)).objs.size) { s with heap := (s.heap.push (seqObj "tuple" (ps.map fun p : Nat => rawInt p).toArray 0)).push (itO (.ref s.heap.objs.size) a es.size ep), drawn := d }) :
    wpAny (model prog w) A (pyIter (.ref a)) Q E s := by
  have hT := hs.typeIs
  obtain ⟨os, hos, hex, hds⟩ := hs
  refine wpAny_pyIter_slot hT PySem.F.slot_set_iter (wpAny_call_entry PySem.F.slot_set_iter hT St.entry_iter ?_ (PySem.F.args_set_iter_1 _))
  unfold Builtin.«frozenset.__iter__» Builtin.Frozenset.slot0
  refine wpAny_bind (wpAny_bind (m := slotArgs "__iter__" 0 _) (wpAny_pure ?_))
  refine wpAny_pure ?_
  unfold Builtin.Frozenset.sizeOf; refine wpAny_bind (wpAny_bind (wpAny_setEntries_of hos hds hf (wpAny_pure ?_)))
  unfold setDrawn; refine wpAny_bind (wpAny_bind (wpAny_setState_of hos hds hf ?_))
  dsimp only; unfold setsByText; refine wpAny_bind (wpAny_bind (wpAny_askSetting (wpAny_pure ?_)))
  refine wpAny_pure ?_
  refine wpAny_ite_split (fun hab => ?_) (fun hab => ?_)
  . refine wpAny_bind ?_
    refine draw_order es.size _ _ _ List.length_range fun ps d hp => ?_
    refine wpAny_bind (wpAny_newTuple ?_ (by rw [Zlm, hp.length_eq]; simpa using hz))
    refine wpAny_bind (wpAny_setEpoch_of (s := { s with heap := _, drawn := d }) (Zpu _ hos) hds hf ?_)
    refine wpAny_bind (wpAny_newObj_type (wpAny_pure ⟨_, rfl, "set_iterator", _, ⟨_, Heap.get?_push_size _ rfl, rfl⟩, St.slot_next.lookup, ?_⟩))
    exact h2 hab ps d hp
  . refine wpAny_bind (wpAny_pure ?_)
    refine wpAny_bind (wpAny_setEpoch_of hos hds hf ?_)
    refine wpAny_bind (wpAny_newObj_type (wpAny_pure ⟨_, rfl, "set_iterator", _, ⟨_, Heap.get?_push_size _ rfl, rfl⟩, St.slot_next.lookup, ?_⟩))
    exact h1 (Bool.eq_false_iff.mpr hab)
theorem ItS.at {it a : Addr} {first : Value} {i n ep : Nat} {h h' : Heap} (x : ItS it a first i n ep h) (k : ∀ o, h.get? it = some o -> h'.get? it = some o) : ItS it a first i n ep h' := let ⟨o, ho, r⟩ := x; ⟨o, k o ho, r⟩
theorem SetX.at {a : Addr} {es : Array (Int × Value)} {ep : Nat} {t : SetTable} {h h' : Heap} (x : SetX a es ep t h) (k : ∀ o, h.get? a = some o -> h'.get? a = some o) : SetX a es ep t h' := let ⟨o, ho, r⟩ := x; ⟨o, k o ho, r⟩
theorem walk_slots (hh : A.handled = none) {it a : Addr} (hne : a ≠ it) {es : Array (Int × Value)} {ep : Nat} {t : SetTable} (hf : t.fits es.size = true) (sl : Nat -> Nat) (ord : List (Int × Value)) (hl : ord.length = es.size)
    (hn : ∀ (i : Nat) (A : Around) (E : Value -> Shared -> Prop) (s : Shared) (Q : Option (Value × Nat) -> Shared -> Prop), i <= es.size -> SetX a es ep t s.heap -> Q (ord[i]?.map fun e => (e.2, sl (i + 1))) s -> wpAny (model prog w) A (setNext a (sl i) i ep) Q E s) :
    Walks prog w A it [it, a] [it] es.size (fun i v => ∃ e, ord[i]? = some e /\ v = e.2) (fun i h => ItS it a (.int (sl i) 0) i es.size ep h /\ SetX a es ep t h) where
  sub := fun b hb => by simp at hb; simp [hb]
  frame := fun _ _ _ st hk => ⟨st.1.at fun o e => hk it (by simp) o e, st.2.at fun o e => hk a (by simp) o e⟩
  item := fun i s Q E hi st hQ => by
    have he : ord[i]? = some (ord[i]'(by omega)) := Zge _
    refine next_slot st.1 st.2 hf (x := (ord[i]'(by omega)).2) (nx := sl (i + 1)) (fun A E Q h => hn i A E s Q (Nat.le_of_lt hi) st.2 (by rw [he]; exact h)) fun h' hit' hs' => ?_
    exact hQ _ h' s.toks ⟨_, he, rfl⟩ ⟨hit', st.2.at fun o e => hs'.extBut a o hne e⟩ fun b o hb e => hs'.extBut b o (fun h => hb (by simp [h])) e
  done := fun s Q E st hQ => by
    have he : ord[es.size]? = none := List.getElem?_eq_none (by omega)
    refine next_slot_end hh st.1 st.2 hf (fun A E Q h => hn es.size A E s Q (Znr _) st.2 (by rw [he]; exact h)) fun h' hs' => ?_
    exact hQ h' s.toks fun b o hb e => hs' b o (fun h => hb (by simp [h])) e
  self := fun i s Q E st hQ => iter_self st.1 hQ
theorem walk_drawn (hh : A.handled = none) {it a tp : Addr} (hne : a ≠ it) (hnt : tp ≠ it) {es : Array (Int × Value)} {ep : Nat} {t : SetTable} (hf : t.fits es.size = true) (ps : List Nat) (hp : ps.Perm (List.range es.size)) :
    Walks prog w A it [it, a, tp] [it] es.size (fun i v => ∃ e, (ps.filterMap (es[·]?))[i]? = some e /\ v = e.2) (fun i h => ItS it a (.ref tp) i es.size ep h /\ SetX a es ep t h /\ h.IsTuple tp (ps.map fun p : Nat => rawInt p).toArray) where
  sub := fun b hb => by simp at hb; simp [hb]
  frame := fun _ _ _ st hk => ⟨st.1.at fun o e => hk it (by simp) o e, st.2.1.at fun o e => hk a (by simp) o e, let ⟨o, e, r⟩ := st.2.2; ⟨o, hk tp (by simp) o e, r⟩⟩
  item := fun i s Q E hi st hQ => by
    have hlen : ps.length = es.size := by simpa using hp.length_eq
    have hpi : ps[i]? = some (ps[i]'(by omega)) := Zge _
    have hlt : ps[i]'(by omega) < es.size := List.mem_range.mp (hp.mem_iff.mp (List.getElem_mem _))
    have hfm : ∀ q : List Nat, (∀ x ∈ q, x < es.size) -> ∀ i : Nat, (q.filterMap (es[·]?))[i]? = q[i]?.bind (es[·]?) := by
      intro q; induction q with
      | nil => intro _ i; simp
      | cons x q ih =>
        intro hq i; have hx := hq x (by simp)
        rw [List.filterMap_cons_some (b := es[x]) (by simp [hx])]
        cases i with
        | zero => simp [hx]
        | succ i => simpa using ih (fun y hy => hq y (Zmc _ hy)) i
    refine next_drawn st.1 st.2.2 st.2.1 hf hpi (e := es[ps[i]'(by omega)]) (by simp [hlt]) fun h' hit' hs' => ?_
    refine hQ _ h' s.toks ⟨_, ?_, rfl⟩ ⟨hit', st.2.1.at fun o e => hs'.extBut a o hne e, let ⟨o, e, r⟩ := st.2.2; ⟨o, hs'.extBut tp o hnt e, r⟩⟩ fun b o hb e => hs'.extBut b o (fun h => hb (by simp [h])) e
    rw [hfm ps (fun x hx => List.mem_range.mp (hp.mem_iff.mp hx)), hpi]
    simp [hlt]
  done := fun s Q E st hQ => by
    have hlen : ps.length = es.size := by simpa using hp.length_eq
    refine next_drawn_end hh st.1 st.2.2 st.2.1 hf (List.getElem?_eq_none (by omega)) fun h' hs' => ?_
    exact hQ h' s.toks fun b o hb e => hs' b o (fun h => hb (by simp [h])) e
  self := fun i s Q E st hQ => iter_self st.1 hQ
end
end L2
namespace L2
open PySem PySem.Spec PyProof.Rows
section
variable {prog : Program} {w : World} {A : Around} {E : Value -> Shared -> Prop} {s : Shared}
theorem hint_set {a : Addr} {Q : Bool -> Shared -> Prop} (hT : s.TypeIs (.ref a) "set") (h : Q false s) : wpAny (model prog w) A (Builtin.List.listLengthHint (.ref a)) Q E s := by
  unfold Builtin.List.listLengthHint; refine wpAny_bind (wpAny_specialOf hT PySem.F.slot_set_len.lookup ?_)
  generalize hid : ("set.__len__" : String) = id0; wp_delta
  rw [show splitId id0 = some ("set", "__len__") from by subst hid; decide +kernel]
  subst hid; refine wpAny_bind (wpAny_isInstance (T := "set") (b := true) hT (by rw [isSubtype_type]; kernel_rfl) ?_)
  refine wpAny_ite_split (fun hab => absurd hab (by decide)) (fun _ => ?_)
  refine wpAny_ite_split (fun _ => ?_) (fun hab => absurd (by decide +kernel) hab)
  refine wpAny_bind (wpAny_typeOf hT ?_)
  exact wpAny_pure h
theorem items_ord {ord : List (Int × Value)} {acc : Array Value} {n : Nat} (hl : ord.length = n) (h : ItemsOf (fun i v => ∃ e, ord[i]? = some e /\ v = e.2) acc n) : acc.toList = ord.map (·.2) := by
  refine List.ext_getElem? fun i => ?_
  rw [Zgm]; cases e : acc[i]? with
  | none =>
    rw [Array.getElem?_toList, e]; have : acc.size <= i := by simpa using e
    rw [h.1] at this; rw [List.getElem?_eq_none (by omega)]
    rfl
  | some v =>
    obtain ⟨x, e1, rfl⟩ := h.2 i v e
    rw [Array.getElem?_toList, e, e1]; rfl
theorem extend_set {R : Result -> Shared -> Prop} (hh : A.handled = none) {a : Addr} {es : Array (Int × Value)} {ep : Nat} {t : SetTable} (hs : SetX a es ep t s.heap) (T : TabOk (ledOf w) t es.size) (hz : es.size <= sizeLine)
    (S : Addr) (hSa : S ≠ a) (res : Value) (c₀ : Nat) (hS : s.heap.get? S = some { cls := .type "list", data := .seq #[] c₀ })
    (hR : ∀ h' tk d acc' c' (ord : List (Int × Value)), ord.Perm es.toList -> acc'.toList = ord.map (·.2) -> (∀ b o, b ≠ S -> s.heap.get? b = some o -> h'.get? b = some o) -> h'.get? S = some { cls := .type "list", dict := none, data := .seq acc' c', slots := #[] } -> R (.ok (.ret res)) { s with heap := h', toks := tk, drawn := d }) :
    wpAny (model prog w) A.in1 (Builtin.List.listExtendWith (.ref S) (.ref a) res)
      (fun fin s' => match fin with | .done f => R (.ok f) s' | .again c' => c'.quiet = true /\ codeAny (model prog w) A c' R s') (fun e s' => R (.error e) s') s := by
  have hT := hs.typeIs
  obtain ⟨os, hos, hex, hds⟩ := id hs
  have hSl := Heap.lt_size hS
  have hal := Heap.lt_size hos
  have key : ∀ (it : Addr) (fp : List Addr) (P : Nat -> Value -> Prop) (St : Nat -> Heap -> Prop), Walks prog w A.in1 it fp [it] es.size P St -> (∀ acc, ItemsOf P acc es.size -> ∃ ord : List (Int × Value), ord.Perm es.toList /\ acc.toList = ord.map (·.2)) →
      ∀ (h : Heap) (c₁ tk : Nat) (d : Drawn), S ∉ fp -> s.heap.objs.size <= it -> St 0 h -> (∀ b o, b ≠ S -> s.heap.get? b = some o -> h.get? b = some o) →
      h.get? S = some { cls := .type "list", data := .seq #[] c₁ } -> codeAny (model prog w) A (.builtin "list.extend.loop" ⟨[.ref S, .ref it, res], []⟩) R { s with heap := h, toks := tk, drawn := d } := by
    intro it fp P St W hP h c₁ tk d hSf hit st hk hS₁; refine codeAny_extend_loopS W.toS hz S hSf res es.size 0 _ #[] c₁ rfl (Nat.zero_le _) st hS₁ (ItemsOf.nil _) fun s' acc' c' hm hS' hacc => ?_
    obtain ⟨ord, p1, p2⟩ := hP acc' hacc
    rw [Moved.eq_with hm]; refine hR s'.heap s'.toks d acc' c' ord p1 p2 (fun b o hb e => hm.heap b o (fun hmem => ?_) (hk b o hb e)) hS'
    rcases List.mem_cons.mp hmem with e' | hmem
    . exact hb e'
    . exact absurd (Heap.lt_size e) (by rw [Zms.mp hmem]; exact Nat.not_lt.mpr hit)
  unfold Builtin.List.listExtendWith; refine wpAny_bind (wpAny_typeOf (T := "set") hT ?_)
  have h1 : Builtin.List.listSameRef (.ref S) (.ref a) = false := by simp [Builtin.List.listSameRef, hSa]
  have h2 : (Value.type "set" == Value.type "list") = false := by decide
  have h3 : (Value.type "set" == Value.type "tuple") = false := by decide
  simp only [h1, h2, h3, Bool.or_false, Bool.false_eq_true, if_false]
  refine wpAny_bind (iter_set hs T.fits hz (fun hdr => ?_) fun hdr ps d hp => ?_)
  . have hSt : ∃ (sl : Nat -> Nat) (ord : List (Int × Value)), sl 0 = 0 /\ ord.Perm es.toList /\ ∀ (i : Nat) (A : Around) (E : Value -> Shared -> Prop) (s : Shared) (Q : Option (Value × Nat) -> Shared -> Prop), i <= es.size -> SetX a es ep t s.heap -> Q (ord[i]?.map fun e => (e.2, sl (i + 1))) s -> wpAny (model prog w) A (setNext a (sl i) i ep) Q E s := by
      cases hb : w.params.followText "set-order" with
      | true => exact ⟨fun _ => 0, _, rfl, pick_perm (w.params.setOrder a ep) es, fun i A E s Q _ hs h => next_text hb hs T.fits h⟩
      | false =>
        rw [hb] at hdr; have hl : t.led = true := by rw [T.led]; unfold ledOf; rw [hb]; rfl
        have hps : t.place.size = es.size := by
          have := T.fits
          simp only [SetTable.fits, Bool.and_eq_true, beq_iff_eq] at this
          exact this.1
        refine ⟨fun i => if i = 0 then 0 else t.place.getD (i - 1) 0 + 1, es.toList, rfl, .rfl, fun i A E s Q hi hs h => next_led hb hs T.fits hdr hl ?_⟩
        have e1 : SetTable.below t.place (if i = 0 then 0 else t.place.getD (i - 1) 0 + 1) = i := by
          refine below_next T.rise (by omega) ?_
          by_cases h0 : i = 0
          . exact .inl ⟨h0, by rw [if_pos h0]⟩
          . refine .inr ⟨by simp; omega, by omega, ?_⟩
            rw [if_neg h0, getD_at (by omega)]
        dsimp only; rw [e1]; rcases Nat.lt_or_ge i es.size with q | q
        . rw [Array.getElem?_toList, Array.getElem?_eq_getElem q] at h; rw [Array.getElem?_eq_getElem q, Array.getElem?_eq_getElem (by omega : i < t.place.size)]
          simp only [Option.map_some, Nat.add_sub_cancel, if_neg (Nat.succ_ne_zero i)] at h
          rw [getD_at (by omega), Array.getElem_toList] at h
          exact h
        . rw [Array.getElem?_toList, Array.getElem?_eq_none q] at h; rw [Array.getElem?_eq_none q]; exact h
    obtain ⟨sl, ord, e0, hp, hn⟩ := hSt
    have hlen : ord.length = es.size := by rw [hp.length_eq, Array.length_toList]
    have W := walk_slots (prog := prog) (w := w) (A := A.in1) hh (it := s.heap.objs.size) (Nat.ne_of_lt hal) T.fits sl ord hlen hn
    have hSf : S ∉ [s.heap.objs.size, a] := by
      simp only [List.mem_cons, List.not_mem_nil, or_false, not_or]
      exact ⟨Nat.ne_of_lt hSl, hSa⟩
    have st : ItS s.heap.objs.size a (.int (sl 0) 0) 0 es.size ep (s.heap.push (itO (.int 0 0) a es.size ep)) /\ SetX a es ep t (s.heap.push (itO (.int 0 0) a es.size ep)) :=
      ⟨⟨_, Heap.get?_push_size _ rfl, rfl, by rw [e0]; rfl⟩, hs.at fun o e => Zpu _ e⟩
    have K := key _ _ _ _ W fun acc hacc => ⟨ord, hp, items_ord hlen hacc⟩
    have hS₁ := Zpu (itO (.int 0 0) a es.size ep) hS
    refine wpAny_bind (wpAny_holding (hint_set (s := { s with heap := _ }) ⟨os, Zpu _ hos, hex.1⟩ ?_))
    refine wpAny_ite_split (fun _ => ?_) (fun _ => wpAny_pure ⟨plainId_quiet PySem.F.plain_extend_loop _, K _ c₀ _ s.drawn hSf (Znr _) st (fun b o _ e => Zpu _ e) hS₁⟩)
    refine wpAny_bind (wpAny_rule ?_)
    refine wpAny_bind ?_
    show wpAny _ _ (updateSeq S (·.push .none) >>= fun _ => updateSeq S (·.pop)) _ _ _
    refine wpAny_bind (wpAny_updateSeq hS₁ rfl ?_)
    have hS₂ := Heap.get?_update_self (Obj.mapSeq (·.push Value.none)) hS₁ rfl
    refine wpAny_updateSeq (hz := by seq_fits) hS₂ rfl ?_
    have hS₃ := Heap.get?_update_self (Obj.mapSeq (·.pop)) hS₂ rfl
    refine wpAny_pure ⟨plainId_quiet PySem.F.plain_extend_loop _, K _ _ _ s.drawn hSf (Znr _) ?_ (fun b o hb e => ?_) hS₃⟩
    . refine W.frame 0 _ _ st fun b hb o e => ?_
      have hbS : b ≠ S := fun h => hSf (h ▸ hb)
      exact (Heap.get?_update_other _ _ (Ne.symm hbS)).trans ((Heap.get?_update_other _ _ (Ne.symm hbS)).trans e)
    . exact (Heap.get?_update_other _ _ (Ne.symm hb)).trans ((Heap.get?_update_other _ _ (Ne.symm hb)).trans (Zpu _ e))
  . generalize hh1 : s.heap.push (seqObj "tuple" (ps.map fun p : Nat => rawInt p).toArray 0) = h1
    have hz1 : h1.objs.size = s.heap.objs.size + 1 := by rw [<- hh1, Heap.size_push]
    have htp : h1.get? s.heap.objs.size = some (seqObj "tuple" (ps.map fun p : Nat => rawInt p).toArray 0) := by rw [<- hh1]; exact Heap.get?_push_size _ rfl
    have up : ∀ b o, s.heap.get? b = some o -> h1.get? b = some o := fun b o e => by rw [<- hh1]; exact Zpu _ e
    have hlen : (ps.filterMap (es[·]?)).length = es.size := by
      have := (hp.filterMap (es[·]?)).length_eq
      rw [filterMap_getElem?_range, Array.length_toList] at this; exact this
    have hpo : (ps.filterMap (es[·]?)).Perm es.toList := (hp.filterMap (es[·]?)).trans (by rw [filterMap_getElem?_range])
    have W := walk_drawn (prog := prog) (w := w) (A := A.in1) hh (it := h1.objs.size) (a := a) (tp := s.heap.objs.size) (Nat.ne_of_lt (hz1 ▸ Nat.lt_succ_of_lt hal)) (Nat.ne_of_lt (hz1 ▸ Nat.lt_succ_self _)) T.fits (ep := ep) ps hp
    have hSf : S ∉ [h1.objs.size, a, s.heap.objs.size] := by
      simp only [List.mem_cons, List.not_mem_nil, or_false, not_or]
      exact ⟨Nat.ne_of_lt (hz1 ▸ Nat.lt_succ_of_lt hSl), hSa, Nat.ne_of_lt hSl⟩
    have st : ItS h1.objs.size a (.ref s.heap.objs.size) 0 es.size ep (h1.push (itO (.ref s.heap.objs.size) a es.size ep)) /\ SetX a es ep t (h1.push (itO (.ref s.heap.objs.size) a es.size ep)) /\ (h1.push (itO (.ref s.heap.objs.size) a es.size ep)).IsTuple s.heap.objs.size (ps.map fun p : Nat => rawInt p).toArray :=
      ⟨⟨_, Heap.get?_push_size _ rfl, rfl, rfl⟩, hs.at fun o e => Zpu _ (up _ _ e), ⟨_, Zpu _ htp, rfl, _, rfl⟩⟩
    have K := key _ _ _ _ W fun acc hacc => ⟨_, hpo, items_ord hlen hacc⟩
    have hS₁ := Zpu (itO (.ref s.heap.objs.size) a es.size ep) (up _ _ hS)
    refine wpAny_bind (wpAny_holding (hint_set (s := { s with heap := _, drawn := d }) ⟨os, Zpu _ (up _ _ hos), hex.1⟩ ?_))
    refine wpAny_ite_split (fun _ => ?_) (fun _ => wpAny_pure ⟨plainId_quiet PySem.F.plain_extend_loop _, K _ c₀ _ d hSf (hz1 ▸ Nat.le_succ _) st (fun b o _ e => Zpu _ (up _ _ e)) hS₁⟩)
    refine wpAny_bind (wpAny_rule ?_)
    refine wpAny_bind ?_
    show wpAny _ _ (updateSeq S (·.push .none) >>= fun _ => updateSeq S (·.pop)) _ _ _
    refine wpAny_bind (wpAny_updateSeq (s := { s with heap := _, drawn := d }) hS₁ rfl ?_)
    have hS₂ := Heap.get?_update_self (Obj.mapSeq (·.push Value.none)) hS₁ rfl
    refine wpAny_updateSeq (s := { s with heap := _, drawn := d }) (hz := by seq_fits) hS₂ rfl ?_
    have hS₃ := Heap.get?_update_self (Obj.mapSeq (·.pop)) hS₂ rfl
    refine wpAny_pure ⟨plainId_quiet PySem.F.plain_extend_loop _, K _ _ _ d hSf (hz1 ▸ Nat.le_succ _) ?_ (fun b o hb e => ?_) hS₃⟩
    . refine W.frame 0 _ _ st fun b hb o e => ?_
      have hbS : b ≠ S := fun h => hSf (h ▸ hb)
      exact (Heap.get?_update_other _ _ (Ne.symm hbS)).trans ((Heap.get?_update_other _ _ (Ne.symm hbS)).trans e)
    . exact (Heap.get?_update_other _ _ (Ne.symm hb)).trans ((Heap.get?_update_other _ _ (Ne.symm hb)).trans (Zpu _ (up _ _ e)))
end
end L2
namespace L2
open PySem PySem.Spec PyProof.Rows
section
variable {prog : Program} {w : World} {A : Around} {E : Value -> Shared -> Prop} {s : Shared}
theorem collect_set {R : List Value -> Shared -> Prop} (hh : A.handled = none) {a : Addr} {es : Array (Int × Value)} {ep : Nat} {t : SetTable} (hs : SetX a es ep t s.heap) (T : TabOk (ledOf w) t es.size) (hz : es.size <= sizeLine)
    (h : ∀ h' tk d (ord : List (Int × Value)), ord.Perm es.toList -> (∀ b o, s.heap.get? b = some o -> h'.get? b = some o) -> R (ord.map (·.2)) { s with heap := h', toks := tk, drawn := d }) :
    wpAny (model prog w) A (collect (.ref a)) R E s := by
  obtain ⟨os, hos, hex, hds⟩ := id hs
  have hal := Heap.lt_size hos
  unfold collect; refine wpAny_bind (wpAny_runValue (codeAny_builtin PySem.F.entry_proto_collect ?_))
  rw [Around.under_plainId PySem.F.plain_proto_collect _]; show wpAny _ A.in1 (newList [] >>= fun l => again (.builtin "list.__iadd__" ⟨[l, .ref a], []⟩)) _ _ s
  refine wpAny_bind (wpAny_newObj_type ?_)
  refine wpAny_pure ⟨plainId_quiet PySem.F.plain_list_iadd _, codeAny_builtin PySem.F.entry_list_iadd ?_⟩
  rw [Around.under_plainId PySem.F.plain_list_iadd _]; have hS₁ : (s.heap.push { cls := .type "list", data := .seq ([] : List Value).toArray }).get? s.heap.objs.size = some { cls := .type "list", data := .seq #[] } := Heap.get?_push_size _ rfl
  show wpAny _ A.in1 (Builtin.List.listExtendWith (.ref s.heap.objs.size) (.ref a) (.ref s.heap.objs.size)) _ _ _
  have key := extend_set (prog := prog) (A := A) (s := { s with heap := s.heap.push { cls := .type "list", data := .seq ([] : List Value).toArray } })
    (R := fun (q : Result) (s' : Shared) => ∃ (h' : Heap) (tk : Nat) (d : Drawn) (acc : Array Value) (c' : Nat) (ord : List (Int × Value)), q = .ok (.ret (.ref s.heap.objs.size)) /\ s' = { s with heap := h', toks := tk, drawn := d } /\ ord.Perm es.toList /\ acc.toList = ord.map (·.2) ∧
      (∀ b o, s.heap.get? b = some o -> h'.get? b = some o) /\ h'.get? s.heap.objs.size = some { cls := .type "list", dict := none, data := .seq acc c', slots := #[] })
    hh (hs.at fun o e => Zpu _ e) T hz s.heap.objs.size (Nat.ne_of_gt hal) (.ref s.heap.objs.size) 0 hS₁
    (fun h' tk d acc c' ord p1 p2 hk hS' => ⟨h', tk, d, acc, c', ord, rfl, rfl, p1, p2, fun b o e => hk b o (Nat.ne_of_lt (Heap.lt_size e)) (Zpu _ e), hS'⟩)
  refine wpAny_mono key (fun fin s' x => ?_) fun e s' x => ?_
  . cases fin with
    | done f =>
      obtain ⟨h', tk, d, acc, c', ord, e, rfl, p1, p2, hk, hS'⟩ := x
      cases e
      show wpAny _ A (load s.heap.objs.size >>= _) _ _ _
      refine wpAny_bind (wpAny_load (s := { s with heap := h', toks := tk, drawn := d }) hS' ?_)
      exact wpAny_pure (show R acc.toList _ from p2 ▸ h h' tk d ord p1 hk)
    | again c₁ =>
      refine ⟨x.1, codeAny_mono x.2 fun q s₂ y => ?_⟩
      obtain ⟨h', tk, d, acc, c', ord, rfl, rfl, p1, p2, hk, hS'⟩ := y
      show wpAny _ A (load s.heap.objs.size >>= _) _ _ _
      refine wpAny_bind (wpAny_load (s := { s with heap := h', toks := tk, drawn := d }) hS' ?_)
      exact wpAny_pure (show R acc.toList _ from p2 ▸ h h' tk d ord p1 hk)
  . obtain ⟨_, _, _, _, _, _, e', _⟩ := x
    cases e'
theorem ents_ints : ∀ {l : List (Int × Value)}, (∀ e ∈ l, EntI e) -> IntsAre (l.map (·.2)) (l.map fun e => vInt e.2)
  | [], _ => .nil
  | e :: l, h => by
    obtain ⟨t, q⟩ := h e (by simp)
    have ih := ents_ints fun x hx => h x (Zmc _ hx)
    rw [List.map_cons, List.map_cons]; generalize vInt e.2 = n at q ⊢; subst q; exact .cons n t ih
theorem sorted_set {a : Addr} {ns : List Int} {Q : Value -> Shared -> Prop} (hh : A.handled = none) (G : SetG (ledOf w) a ns s.heap) (h64 : ns.length < 64)
    (h : ∀ (h1 h' : Heap) (tk : Nat) (d : Drawn) (out : Array Value) (e : Nat) (ns' : List Int), (∀ b ob, s.heap.get? b = some ob -> h1.get? b = some ob) -> (∀ b ob, h1.get? b = some ob -> h'.get? b = some ob) -> h'.get? h1.objs.size = some (seqObj "list" out e) -> IntsAre out.toList ns' -> ns'.Perm ns -> ns'.Pairwise (· <= ·) -> Q (.ref h1.objs.size) { s with heap := h', toks := tk, drawn := d }) :
    wpAny (model prog w) A (call (.builtin "sorted") [.ref a]) Q E s := by
  obtain ⟨o, es, ep, t, ho, hex, hd, he, hp, T⟩ := G
  have hl : es.size = ns.length := by rw [<- hp.length_eq, Zlm, Array.length_toList]
  apply Calls.call_function_entry kind_sorted plain_sorted entry_sorted (args_sorted1 _)
  unfold Builtin.«sorted»
  apply wpAny_bind (m := checkCount "sorted" 1 1 _)
  apply wpAny_pure
  apply wpAny_bind
  refine collect_set (A := A.in1) hh ⟨o, ho, hex, hd⟩ T (by rw [hl]; exact Znt (Nat.le_of_lt h64) (by decide)) fun h1 tk d ord p1 k1 => ?_
  have hI := ents_ints fun e q => he e (p1.mem_iff.mp q)
  have hpo : (ord.map fun e => vInt e.2).Perm ns := (p1.map _).trans hp
  have hv : (ord.map (·.2)).length < 64 := by rw [Zlm, p1.length_eq, Array.length_toList, hl]; exact h64
  generalize ord.map (·.2) = vs at hI hv ⊢; apply wpAny_bind
  apply wpAny_newList
  . have g2 : (h1.push (seqObj "list" vs.toArray 0)).get? h1.objs.size = some (seqObj "list" vs.toArray 0) := Heap.get?_push_size _ rfl
    apply wpAny_bind
    apply wpAny_holding
    refine wpAny_call_entry (s := { s with heap := h1.push (seqObj "list" vs.toArray 0), toks := tk, drawn := d }) slot_list_sort ⟨_, g2, rfl⟩ entry_list_sort (list_sort_tree g2 hI hv fun out ns' a1 a2 a3 => ⟨_, rfl, wpAny_pure ⟨_, rfl, ?_⟩⟩) (args_list_sort _)
    obtain ⟨e, he⟩ := sortedHeap_at (out := out) g2
    refine h h1 _ _ _ _ e ns' k1 (fun b ob hb1 => ?_) he a1 (a2.trans hpo) a3
    have hlt := Heap.lt_size hb1
    rw [sortedHeap_old (Nat.ne_of_lt hlt) (by rw [size_push']; exact Nat.lt_succ_of_lt hlt)]
    exact Zpu _ hb1
  . exact Znt (Nat.le_of_lt hv) (by decide)
end
section
variable {X : Cx}
theorem setG_ok {P : Program} {w : World} {H : Hp} {h : Heap} {b : Bool} {a : Addr} {ns : List Int} (g : SetG b a ns h) : ObjOk P w H h a (.ext (SetG b a ns)) :=
  ⟨g, (let ⟨o, _, _, _, e, _⟩ := g; ⟨o, e⟩), fun _ _ g k => g.at fun o e => k _ e⟩
def mSetG (w : World) (K : W.Frag) : List V -> Hp -> VK -> Prop := fun vs H Q => match vs with
  | [.ref a] => ∃ ns : List Int, SqL K H a (ns.map V.int) /\ ns.length < 64 /\ ∀ l : Addr, H l = none -> Q (.ref l) (upd H l (.ext (SetG (ledOf w) l (firstMet (fun i => ns.getD i 0) ns.length))))
  | _ => False
theorem c_setG (hc : X.calm = true) : CallR X (.type "set") (mSetG X.w X.K) := by
  intro pins s σ H xs us Q I r h; unfold mSetG at h; split at h
  . rename_i a
    obtain ⟨ns, hq, h64, q⟩ := h
    obtain ⟨u, rfl, ru⟩ := vals1 r
    cases ru
    obtain ⟨its, r1, p1, _⟩ := I.list hq
    have hl := r1.length
    rw [Zlm] at hl; refine call_setG (I.ok.hd hc) p1.isList (by simpa using intsAre_of r1) (by rw [Zst]; exact Nat.lt_trans (show its.length + 1 < 100 by omega) (by decide)) fun h' tk hS hk => ?_
    have e1 : its.toArray.size = ns.length := by rw [Zst]; exact hl.symm
    rw [e1] at hS; exact ⟨.ref s.heap.objs.size, _, I.laid (a := s.heap.objs.size) (o := .ext (SetG (ledOf X.w) s.heap.objs.size (firstMet (fun i => ns.getD i 0) ns.length))) (h' := h') (t' := tk) (fun b ob e => hk b ob (Heap.lt_size e) e) (Znr _) (setG_ok hS), rfl, q _ (I.hok.fresh (Znr _))⟩
  . exact h.elim
theorem Inv.drw {pins : List (Addr × Obj)} {σ : List (Option V)} {H : Hp} {s : Shared} (I : Inv X pins σ H s) (d : Drawn) : Inv X pins σ H { s with drawn := d } :=
  ⟨I.ok, I.os, I.bare, I.base, I.loc, I.cell, I.free, I.freeC, I.pin, I.hok, I.len⟩
def mSortedG (w : World) : List V -> Hp -> VK -> Prop := fun vs H Q => match vs with
  | [.ref a] => ∃ ns : List Int, H a = some (.ext (SetG (ledOf w) a ns)) /\ ns.length < 64 /\ ∀ (l : Addr) (ns' : List Int), H l = none -> ns'.Perm ns -> ns'.Pairwise (· <= ·) -> Q (.ref l) (upd H l (.lst (ns'.map V.int)))
  | _ => False
theorem c_sortedG (hc : X.calm = true) : CallR X (.builtin "sorted") (mSortedG X.w) := by
  intro pins s σ H xs us Q I r h; unfold mSortedG at h; split at h
  . rename_i a
    obtain ⟨ns, e, h64, q⟩ := h
    obtain ⟨u, rfl, ru⟩ := vals1 r
    cases ru
    obtain ⟨G, _⟩ := (show ObjOk X.prog X.w H s.heap a (.ext (SetG (ledOf X.w) a ns)) from I.hok a _ e)
    refine sorted_set (I.ok.hd hc) G h64 fun h1 h' tk d out e ns' k1 k he hS hp hs => ?_
    have I1 := (I.kept (t' := s.toks) k1).drw d
    refine ⟨.ref h1.objs.size, _, I1.laid (t' := tk) (o := .lst (ns'.map V.int)) k (Znr _) ?_, rfl, q _ _ (I1.hok.fresh (Znr _)) hp hs⟩
    refine ⟨?_, out.toList, e, ints_vals hS, he⟩
    rw [Zlm, hp.length_eq]; exact Znt (Nat.le_of_lt h64) (by decide)
  . exact h.elim
theorem R.ksetG {K : W.Frag} {w : World} (hc : X.calm = true) (hw : X.w = w := by rfl) (hK : X.K = K := by rfl) : XC X (.type "set") (mSetG w K) := hK ▸ hw ▸ ⟨c_setG hc⟩
theorem R.ksortedG {w : World} (hc : X.calm = true) (hw : X.w = w := by rfl) : XC X (.builtin "sorted") (mSortedG w) := hw ▸ ⟨c_sortedG hc⟩
end
theorem dedup_mem : ∀ (xs acc : List Int), acc.Nodup -> (xs.foldl step_dedup acc).Nodup /\ ∀ x ∈ xs.foldl step_dedup acc, x ∈ acc ∨ x ∈ xs
  | [], acc, h => ⟨h, fun x q => .inl q⟩
  | y :: r, acc, h => by
    rw [List.foldl_cons]; by_cases q : y ∈ acc
    . have e : step_dedup acc y = acc := by unfold step_dedup; rw [if_pos (by simpa using q)]
      rw [e]; obtain ⟨h1, h2⟩ := dedup_mem r acc h
      exact ⟨h1, fun x hx => (h2 x hx).imp id (Zmc _)⟩
    . have e : step_dedup acc y = acc ++ [y] := by unfold step_dedup; rw [if_neg (by simpa using q)]
      rw [e]; obtain ⟨h1, h2⟩ := dedup_mem r (acc ++ [y]) (List.nodup_append.mpr ⟨h, by simp, fun a ha b hb => by rw [Zms.mp hb]; exact fun e => q (e ▸ ha)⟩)
      refine ⟨h1, fun x hx => ?_⟩
      rcases h2 x hx with w | w
      . rcases Zma.mp w with w | w
        . exact .inl w
        . exact .inr (by rw [Zms.mp w]; exact Zcs)
      . exact .inr (Zmc _ w)
theorem firstMet_set (ns : List Int) : (firstMet (fun i => ns.getD i 0) ns.length).Nodup /\ (firstMet (fun i => ns.getD i 0) ns.length).length <= ns.length /\ ∀ x ∈ firstMet (fun i => ns.getD i 0) ns.length, x ∈ ns := by
  have e : (List.range ns.length).map (fun i => ns.getD i 0) = ns := by
    refine List.ext_getElem (by simp) fun i h1 h2 => ?_
    simp [Zge h2]
  have := firstMet_length_le (fun i => ns.getD i 0) ns.length
  unfold firstMet at this ⊢
  rw [e] at this ⊢; obtain ⟨h1, h2⟩ := dedup_mem ns [] List.nodup_nil
  exact ⟨h1, this, fun x hx => (h2 x hx).resolve_left (by simp)⟩
end L2
namespace KL
open PySem L2
def top (i : Nat) : Stmt := PySem.Challenge.pw_oncedoor_k69_keys_of_places.main.body.getD i (.Pass ⟨0, 0, 0, 0⟩)
abbrev s_key_of : Stmt := top 2
abbrev s_law_deck : Stmt := top 4
abbrev s_law_draw : Stmt := top 5
abbrev s_law_unlike : Stmt := top 6
abbrev s_law_figures : Stmt := top 8
abbrev s_law_is_key : Stmt := top 9
abbrev s_law : Stmt := top 10
theorem sc_key_of : FnScope ["name", "number", "place"] ["name", "number", "place"] (defScope s_key_of) := ⟨rfl, rfl, rfl, by decide +kernel, rfl, by decide +kernel, by decide +kernel⟩
theorem sc_law_deck : FnScope ["_law_script"] ["_law_script"] (defScope s_law_deck) := ⟨rfl, rfl, rfl, by decide +kernel, rfl, by decide +kernel, by decide +kernel⟩
theorem sc_law_draw : FnScope ["_law_deck_here", "_law_many", "_law_cell", "_law_number"] ["_law_deck_here", "_law_many"] (defScope s_law_draw) := ⟨rfl, rfl, rfl, by decide +kernel, rfl, by decide +kernel, by decide +kernel⟩
theorem sc_law_unlike : FnScope ["_law_deck_here", "_law_signs", "_law_longest", "_law_many", "_law_word", "_law_size", "_law_at", "_law_first", "_law_ends"] ["_law_deck_here", "_law_signs", "_law_longest", "_law_many"] (defScope s_law_unlike) := ⟨rfl, rfl, rfl, by decide +kernel, rfl, by decide +kernel, by decide +kernel⟩
theorem sc_law_figures : FnScope ["_law_number", "_law_found"] ["_law_number"] (defScope s_law_figures) := ⟨rfl, rfl, rfl, by decide +kernel, rfl, by decide +kernel, by decide +kernel⟩
theorem sc_law_is_key : FnScope ["_law_text"] ["_law_text"] (defScope s_law_is_key) := ⟨rfl, rfl, rfl, by decide +kernel, rfl, by decide +kernel, by decide +kernel⟩
theorem sc_law : FnScope ["_law_script", "_law_deck_here", "_law_names", "_law_numbers", "_law_k", "_law_number", "_law_seen", "_law_name", "_law_place", "_law_found"] ["_law_script"] (defScope s_law) := ⟨rfl, rfl, rfl, by decide +kernel, rfl, by decide +kernel, by decide +kernel⟩
structure Txt (K : W.Frag) (mg : Str -> Option Value) : Prop where
  b_isinstance : mg "isinstance" = none
  b_str : mg "str" = none
  b_len : mg "len" = none
  b_sum : mg "sum" = none
  b_list : mg "list" = none
  b_range : mg "range" = none
  b_max : mg "max" = none
  b_min : mg "min" = none
  b_sorted : mg "sorted" = none
  b_set : mg "set" = none
structure Top (Pm : Params) (K : W.Frag) (mg : Str -> Option Value) : Prop where
  g_ENDS : ∃ a, mg "ENDS" = some (.ref a) /\ ∀ H, SqT K H a ([V.str ("a" : Str), V.str ("b" : Str)])
end KL
namespace KL
open PySem L2
section
variable {P : Program} {w : World} {K : W.Frag} {mg : Str -> Option Value} {base : Heap}
theorem ok_deck69 (T : Txt K mg) (D : DefAt K mg "_law_deck" s_law_deck ["_law_script"]) : Callee P w K mg base 1 "_law_deck" ["_law_script"] (spDeck K) := by
  refine D.go sc_law_deck (fun vs H Q E h => ?_) (fun f cdv A outer s H vs Q E hr h => ?_)
  . obtain ⟨a, ns, rfl, _⟩ := h; rfl
  . obtain ⟨a, ns, rfl, hS, q⟩ := h
    refine ⟨_, (R.sone (R.ret (R.lst (R.cons (R.callTy (R.ktoList (K := K)) rfl T.b_list bb_list (R.cons (R.sl (R.ksL (K := K)) (R.v 0) R.pn (R.ps R.int)) R.nil)) (R.cons (R.op R.add R.int (R.op R.mod (R.callB (R.ksum (K := K) rfl) rfl T.b_sum bb_sum (R.cons (R.sl (R.ksL (K := K)) (R.v 0) R.pn (R.ps R.int)) R.nil)) R.int)) (R.cons R.int R.nil)))))), ?_⟩
    have hc : cut (ns.map V.int) none (some 63) = (ns.take 63).map V.int := by rw [cut_map]; exact congrArg _ (cut_to ns 63)
    refine ⟨_, hS, fun p1 hp1 => ⟨_, .inl (SqL.of upd_same), fun b hb => ?_⟩⟩
    have s2 : Same H (upd (upd H p1 (.lst (cut (ns.map V.int) none (some 63)))) b (.lst (cut (ns.map V.int) none (some 63)))) := (same_upd hp1).trans (same_upd hb)
    have g2 : (upd (upd H p1 (.lst (cut (ns.map V.int) none (some 63)))) b (.lst (cut (ns.map V.int) none (some 63)))) b = some (.lst ((ns.take 63).map V.int)) := by rw [upd_same, hc]
    have hb0 : H b = none := (same_upd hp1).free hb
    show tCons _ _ _ (upd (upd H p1 (.lst (cut (ns.map V.int) none (some 63)))) b (.lst (cut (ns.map V.int) none (some 63)))) _
    generalize upd (upd H p1 (.lst (cut (ns.map V.int) none (some 63)))) b (.lst (cut (ns.map V.int) none (some 63))) = H2 at s2 g2; refine ⟨_, s2.seq hS, fun p2 hp2 => ⟨p2, ns.take 63, rfl, SqL.of (by rw [upd_same, hc]), by show (0 : Int) < 2147483629; decide, szl rfl, fun d hd => ?_⟩⟩
    have s4 : Same H (upd H2 p2 (.lst (cut (ns.map V.int) none (some 63)))) := s2.trans (same_upd hp2)
    have nbd : b ≠ d := ne_of_none ((same_upd hp2) _ _ g2) hd
    refine q d b _ (s4.free hd) hb0 ⟨ns.take 63, _, _, upd_same, ?_, ?_⟩ (s4.trans (same_upd hd))
    . rw [upd_ne nbd]; exact (same_upd hp2) _ _ g2
    . rw [Zlk]; exact Nat.min_le_left _ _
theorem ok_draw69 (D : DefAt K mg "_law_draw" s_law_draw ["_law_deck_here", "_law_many"]) :
    Callee P w K mg base 1 "_law_draw" ["_law_deck_here", "_law_many"] spDraw := by
  refine D.go sc_law_draw (fun vs H Q E h => ?_) (fun f cdv A outer s H vs Q E hr h => ?_)
  . obtain ⟨d, b, m, rfl, _⟩ := h; rfl
  . obtain ⟨d, b, m, rfl, dk, hm, hm2, q⟩ := h
    have hu := hr.units0
    obtain ⟨ns, s0, k0, h1, h2, h3⟩ := dk.ex
    have ndb : d ≠ b := ne_of h1 h2 (by
      intro z; injection z with z
      cases ns with
      | nil => cases z
      | cons z1 zs => injection z with z _; cases z)
    refine ⟨_, (R.scons (R.asg (R.op R.add (R.ix (R.kiL (K := K)) (R.v 0) R.int) R.int) (R.gsub (R.v 0) R.int R.setL)) (R.scons (R.set (i := 2) sc_law_draw.nd (R.ix (R.kiL (K := K)) (R.v 0) R.int)) (R.scons (R.ife (R.tcmp (R.kneNil (K := K) hu) (R.ix (R.kiL (K := K)) (R.v 0) R.int) (R.lst R.nil)) (R.scons (R.set (i := 2) sc_law_draw.nd (R.kbm (K := K) PySem.F.plainAttrs_list PySem.F.slot_list_pop PySem.F.type_list_pop R.popAt (R.ix (R.kiL (K := K)) (R.v 0) R.int) (R.cons R.int R.nil))) (R.sone (R.ife (R.tcmp R.ge (R.v 2) (R.op R.pow R.int R.int)) (R.scons (R.expr (R.kbm (K := K) PySem.F.plainAttrs_list PySem.F.slot_list_insert PySem.F.type_list_insert R.insert (R.ix (R.kiL (K := K)) (R.v 0) R.int) (R.cons R.int (R.cons (R.op R.fdiv (R.v 2) (R.v 1)) R.nil)))) (R.sone (R.ret (R.op R.mod (R.v 2) (R.v 1))))) R.snil))) R.snil) (R.scons (R.set (i := 3) sc_law_draw.nd (R.op R.mod (R.op R.add (R.op R.add (R.op R.mul (R.op R.mod (R.v 2) R.int) R.int) (R.op R.mul R.int (R.ix (R.kiL (K := K)) (R.v 0) R.int))) R.int) R.int)) (R.scons (R.set (i := 3) sc_law_draw.nd (R.op R.mod (R.op R.mul (R.v 3) (R.v 3)) R.int)) (R.sone (R.ret (R.op R.mod (R.op R.fdiv (R.op R.mod (R.op R.mul (R.v 3) (R.op R.add (R.v 3) R.int)) R.int) R.int) (R.v 1))))))))), ?_⟩
    refine ⟨_, SqL.of h1, _, rfl, d, _, 2, 2, rfl, rfl, h1, rfl, ?_⟩
    have g1 : (upd H d (.lst [.ref b, .int s0, .int (k0 + 1)])) d = some (.lst [.ref b, .int s0, .int (k0 + 1)]) := upd_same
    have g2 : (upd H d (.lst [.ref b, .int s0, .int (k0 + 1)])) b = some (.lst (ns.map V.int)) := by rw [upd_ne ndb.symm]; exact h2
    have kp1 : Kp d b H (upd H d (.lst [.ref b, .int s0, .int (k0 + 1)])) := fun c o e n1 n2 => by rw [upd_ne n1]; exact e
    show tSeq _ _ _ _ (upd H d (.lst [.ref b, .int s0, .int (k0 + 1)]))
    generalize upd H d (.lst [.ref b, .int s0, .int (k0 + 1)]) = H1 at g1 g2 kp1; refine ⟨_, SqL.of g1, _, rfl, ?_⟩
    dsimp only [gName]; refine cutS (t := tIfS _ _ _) (fun σ' H' => ∃ c : Int, σ' = [some (.ref d), some (.int m), some (.int c), none] /\ (∃ ns' : List Int, H' d = some (.lst [.ref b, .int s0, .int (k0 + 1)]) /\ H' b = some (.lst (ns'.map V.int)) /\ ns'.length <= 63) /\ Kp d b H H') (fun nx hnx => ?_) ?_
    . refine ⟨_, SqL.of g1, _, rfl, szl rfl, fun p hp => ⟨b, p, _, rfl, rfl, SqL.of (by rw [upd_ne (ne_of_none g2 hp)]; exact g2), SqL.of upd_same, ?_⟩⟩
      have e1 : (upd H1 p (.lst [])) d = some (.lst [.ref b, .int s0, .int (k0 + 1)]) := by rw [upd_ne (ne_of_none g1 hp)]; exact g1
      have e2 : (upd H1 p (.lst [])) b = some (.lst (ns.map V.int)) := by rw [upd_ne (ne_of_none g2 hp)]; exact g2
      have kp2 : Kp d b H (upd H1 p (.lst [])) := kp1.trans (.new hp)
      generalize upd H1 p (.lst []) = H2 at e1 e2 kp2; cases ns with
      | nil =>
        exact hnx _ _ ⟨_, rfl, ⟨[], e1, e2, h3⟩, kp2⟩
      | cons z ns =>
        have hl : ns.length + 1 <= 63 := by simpa using h3
        refine ⟨_, SqL.of e1, _, rfl, .inl ⟨rfl, _, SqL.of e2⟩, b, _, 0, 0, .int z, rfl, rfl, e2, by decide, by decide, by simp [seqIndex?], rfl, ?_⟩
        have f1 : (upd H2 b (.lst ((List.map V.int (z :: ns)).eraseIdx 0))) d = some (.lst [.ref b, .int s0, .int (k0 + 1)]) := by rw [upd_ne ndb]; exact e1
        have f2 : (upd H2 b (.lst ((List.map V.int (z :: ns)).eraseIdx 0))) b = some (.lst (ns.map V.int)) := by rw [upd_same]; rfl
        have kp3 : Kp d b H (upd H2 b (.lst ((List.map V.int (z :: ns)).eraseIdx 0))) := fun c o e n1 n2 => by rw [upd_ne n2]; exact kp2 c o e n1 n2
        dsimp only [gName]; generalize upd H2 b (.lst ((List.map V.int (z :: ns)).eraseIdx 0)) = H3 at f1 f2 kp3; refine ⟨⟨by decide, by decide, by decide⟩, ?_⟩
        refine if_b (fun _ => ?_) (fun _ => ?_)
        . refine ⟨_, SqL.of f1, _, rfl, .inl ⟨rfl, _, SqL.of f2⟩, ⟨hm, hm2⟩, b, _, 0, _, rfl, rfl, f2, Nat.zero_le _, Znl (m := 63) (by rw [Zlm]; omega) (by decide), hm, ?_⟩
          refine q _ _ (Int.emod_nonneg _ (by omega)) (Int.emod_lt_of_pos _ hm) ⟨z / m :: ns, s0, k0 + 1, by rw [upd_ne ndb]; exact f1, by rw [upd_same]; rfl, by simpa using hl⟩ fun c o e n1 n2 => by rw [upd_ne n2]; exact kp3 c o e n1 n2
        . exact hnx _ _ ⟨_, rfl, ⟨ns, f1, f2, by omega⟩, kp3⟩
    . rintro σ' H' ⟨c, rfl, ⟨ns', f1, f2, f3⟩, kp⟩
      refine ⟨by show (0 : Int) < _; decide, .inr ⟨by decide, by decide⟩, _, SqL.of f1, _, rfl, .inl ⟨by decide, by decide⟩, by show (0 : Int) < _; decide, ?_⟩
      generalize hx : (c % 2147483629 * 16807 + 69621 * (k0 + 1) + 7919) % 2147483629 = x; have hx0 : 0 <= x := by omega
      have hx1 : x < 2147483629 := by omega
      dsimp only [gName]; refine ⟨.inl ⟨by omega, by omega⟩, by show (0 : Int) < _; decide, ?_⟩
      generalize hy : x * x % 2147483587 = y; have hy0 : 0 <= y := by omega
      have hy1 : y < 2147483587 := by omega
      dsimp only [gName]; refine ⟨.inl ⟨by omega, by omega⟩, by show (0 : Int) < _; decide, ⟨by decide, by decide⟩, hm, ?_⟩
      exact q _ _ (Int.emod_nonneg _ (by omega)) (Int.emod_lt_of_pos _ hm) ⟨ns', s0, k0 + 1, f1, f2, f3⟩ kp
end
end KL
namespace KL
open PySem L2
section
variable {P : Program} {w : World} {K : W.Frag} {mg : Str -> Option Value} {base : Heap}
def kyL (z : List Nat) (m p : Nat) : List Nat := z ++ (numS m).cps.toList ++ [97 + p]
def spFigs : Sp := fun vs H Q _ => ∃ m : Nat, vs = [.int m] /\ 0 < m /\ m <= 999999 /\ Q (.str (numS m)) H
def spKeyOf : Sp := fun vs H Q _ => ∃ (z : List Nat) (m p : Nat), vs = [.str (tx z), .int m, .int p] /\ z.length <= 10 /\ m <= 999999 /\ p < 2 /\ Q (.str (tx (kyL z m p))) H
def spIsKeyT : Sp := fun vs H Q _ => ∃ z : List Nat, vs = [.str (tx z)] /\ 1 <= z.length /\ z.length <= 12 /\ (∀ c ∈ z, c ∈ LET ++ FIG) /\ ∀ H', Same H H' -> Q (.bl true) H'
theorem num_tx (m : Nat) : numS m = tx (numS m).cps.toList := tx_of _
theorem num_ln {m : Nat} (h : m <= 999999) : (numS m).cps.toList.length <= 6 := by
  have := numS_le (m := m) (k := 5) (by omega)
  have e : (numS m).cps.toList.length = (numS m).length := by simp [Str.length]
  omega
theorem ok_key (T : Txt K mg) (U : Top w.params K mg) (D : DefAt K mg "key_of" s_key_of ["name", "number", "place"]) : Callee P w K mg base 1 "key_of" ["name", "number", "place"] spKeyOf := by
  refine D.go sc_key_of (fun vs H Q E h => ?_) (fun f cdv A outer s H vs Q E hr h => ?_)
  . obtain ⟨z, m, p, rfl, _⟩ := h; rfl
  . obtain ⟨z, m, p, rfl, hz, hm, hp, q⟩ := h
    obtain ⟨aE, m_ENDS, tE⟩ := U.g_ENDS
    refine ⟨_, (R.sone (R.ret (R.op R.addS (R.op R.addS (R.v 0) (R.callTy R.toStr rfl T.b_str bb_str (R.cons (R.v 1) R.nil))) (R.ix (R.kiT (K := K)) (R.gR rfl m_ENDS) (R.v 2))))), ?_⟩
    have hl := num_ln hm
    have e1 : (numS m).length = (numS m).cps.toList.length := by simp [Str.length]
    refine ⟨⟨by omega, Int.lt_of_le_of_lt (by omega : (m : Int) <= 999999) (by decide)⟩, szl' (by show (tx z).length + (numS m).length <= 1000; rw [tx_len, e1]; omega), ?_⟩
    have q' : ∀ x : Str, x = tx [97 + p] -> Q (.str (tx z ++ numS m ++ x)) H := fun x hx => by
      rw [hx, num_tx m, tx_app, tx_app]; exact q
    have hw : (tx z ++ numS m).length <= 16 := by rw [num_tx m, tx_app, tx_len, Zla]; omega
    have e0 : ("a" : Str) = tx [97] := by decide +kernel
    have e2 : ("b" : Str) = tx [98] := by decide +kernel
    rcases (by omega : p = 0 ∨ p = 1) with rfl | rfl
    . refine ⟨_, tE H, .str ("a" : Str), rfl, szl' (by show (tx z ++ numS m).length + ("a" : Str).length <= 1000; rw [e0]; have := tx_len [97]; simp only [Zlc, List.length_nil] at this; omega), q' _ e0⟩
    . refine ⟨_, tE H, .str ("b" : Str), rfl, szl' (by show (tx z ++ numS m).length + ("b" : Str).length <= 1000; rw [e2]; have := tx_len [98]; simp only [Zlc, List.length_nil] at this; omega), q' _ e2⟩
theorem ok_figs (T : Txt K mg) (D : DefAt K mg "_law_figures" s_law_figures ["_law_number"]) : Callee P w K mg base 1 "_law_figures" ["_law_number"] spFigs := by
  refine D.go sc_law_figures (fun vs H Q E h => ?_) (fun f cdv A outer s H vs Q E hr h => ?_)
  . obtain ⟨m, rfl, _⟩ := h; rfl
  . obtain ⟨m, rfl, hm0, hm, q⟩ := h
    refine ⟨_, (R.scons (R.set (i := 1) sc_law_figures.nd R.str) (R.scons (R.while_ PassesOwn.never (R.tw (R.wor (R.tcmp R.gt (R.v 0) R.int) (R.wor1 (R.tcmp R.eq (R.v 1) R.str)))) (R.scons (R.set (i := 1) sc_law_figures.nd (R.op R.addS (R.ix R.iS R.str (R.op R.mod (R.v 0) R.int)) (R.v 1))) (R.sone (R.set (i := 0) sc_law_figures.nd (R.op R.fdiv (R.v 0) R.int))))) (R.sone (R.ret (R.v 1))))), ?_⟩
    have hl := num_ln hm
    show tWhile _ _ _ _ _
    refine ⟨fun k σ H5 => ∃ cs : List Nat, σ = [some (.int (k : Int)), some (.str (tx cs))] /\ H5 = H /\ k <= 999999 /\ (k = 0 -> cs = (numS m).cps.toList) /\ (0 < k -> (numS k).cps.toList ++ cs = (numS m).cps.toList), ⟨m, [], by rw [<- emp_eq]; rfl, rfl, hm, fun e => absurd hm0 (by omega), fun _ => List.append_nil _⟩, ?_⟩
    rintro k σ H5 ⟨cs, rfl, rfl, hk, h0, h1⟩
    show if decide ((0 : Int) < (k : Int)) = true then _ else _
    refine if_b (fun hb => ?_) (fun hb => ?_)
    . have hk0 : 0 < k := by have := of_decide_eq_true hb; omega
      have hcs : cs.length <= 6 := by
        have := congrArg List.length (h1 hk0)
        rw [Zla] at this; omega
      refine ⟨_, fun σ' H' h => h, ?_⟩
      refine ⟨(show (0 : Int) < 10 by decide), by decide +kernel, 48 + k % 10, ?_, szl' (by rw [tx_len, tx_len]; simp; omega), ⟨by decide, by decide⟩, ?_⟩
      . have e : ((k : Int) % 10) = ((k % 10 : Nat) : Int) := by omega
        rw [e]; exact fig_at (Nat.mod_lt k (by decide))
      . refine ⟨k / 10, by omega, [48 + k % 10] ++ cs, ?_, rfl, by omega, fun e => ?_, fun e => ?_⟩
        . rw [tx_app]; have : ((k : Int) / 10) = ((k / 10 : Nat) : Int) := by omega
          dsimp only; rw [this]; rfl
        . have hk10 : k < 10 := by omega
          have := h1 hk0
          rw [numS_small hk0 hk10] at this; have ek : k % 10 = k := Nat.mod_eq_of_lt hk10
          rw [ek]; exact this
        . have hk10 : 10 <= k := by omega
          have := h1 hk0
          rw [numS_big hk10] at this; rw [<- this]; simp
    . have hk0 : k = 0 := by have := of_decide_eq_false hb; omega
      subst hk0; have := h0 rfl
      subst this; have hne : decide (tx (numS m).cps.toList = ("" : Str)) = false := by
        rw [decide_eq_false_iff_not, emp_eq, tx_inj]; intro e; have := numS_pos m
        have e1 : (numS m).cps.toList.length = (numS m).length := by simp [Str.length]
        rw [e] at e1; simp at e1
        omega
      show if decide (tx (numS m).cps.toList = ("" : Str)) = true then _ else _
      refine if_f hne ?_
      show Q (.str (tx (numS m).cps.toList)) _
      rw [<- num_tx]; exact q
theorem ok_iskey (T : Txt K mg) (D : DefAt K mg "_law_is_key" s_law_is_key ["_law_text"]) : Callee P w K mg base 1 "_law_is_key" ["_law_text"] spIsKeyT := by
  refine D.go sc_law_is_key (fun vs H Q E h => ?_) (fun f cdv A outer s H vs Q E hr h => ?_)
  . obtain ⟨z, rfl, _⟩ := h; rfl
  . obtain ⟨z, rfl, h1, h2, ha, q⟩ := h
    have hu := hr.units0
    refine ⟨_, (R.scons (R.ife (R.tw (R.wor (R.tnot (R.val (R.isi .str (R.v 0) rfl T.b_isinstance rfl T.b_str bb_str))) (R.wor (R.tcmp R.lt (R.callB R.lenS rfl T.b_len bb_len (R.cons (R.v 0) R.nil)) R.int) (R.wor1 (R.tcmp R.gt (R.callB R.lenS rfl T.b_len bb_len (R.cons (R.v 0) R.nil)) R.int))))) (R.sone (R.ret R.bl)) R.snil) (R.sone (R.ret (R.cmp (R.keqNil (K := K) hu) (R.comp rfl (js := [none]) (N := ["_law_sign"]) (CompScope.by (defScope s_law_is_key) ["_law_text"] rfl rfl (by decide +kernel)) (gown_name rfl) (R.wS (R.v 0)) (fun C s₂ H₂ fp => ⟨(R.gn (i := 0) (show (["_law_sign"] : List Str).Nodup by decide +kernel)), (R.ts1 (R.tcmp R.notInS (R.v 0) R.str)), (R.v 0)⟩)) (R.lst R.nil))))), ?_⟩
    have hz : (tx z).length = z.length := tx_len z
    have ek : ("abcdefghijklmnopqrstuvwxyz0123456789" : Str).cps.toList = LET ++ FIG := by decide +kernel
    refine ⟨.str, trivial, ?_⟩
    refine ⟨szl' (by omega), ?_⟩
    show if decide ((((tx z).length : Nat) : Int) < 1) = true then _ else _
    refine if_f (decide_eq_false (by omega)) ?_
    refine ⟨szl' (by omega), ?_⟩
    show if decide ((12 : Int) < (((tx z).length : Nat) : Int)) = true then _ else _
    refine if_f (decide_eq_false (by omega)) ?_
    refine ⟨tx z, rfl, comp_str (by omega) (fun c => !decide (c ∈ LET ++ FIG)) (fun c => .str (tx [c])) (fun c ys N hv ht hf => ?_) ?_⟩
    . refine ⟨c, rfl, ?_⟩
      show if (!decide (c ∈ ("abcdefghijklmnopqrstuvwxyz0123456789" : Str).cps.toList)) = true then _ else _
      rw [ek]; exact if_b (fun h => ht h) (fun h => hf h)
    . intro p hp; refine ⟨szl rfl, fun p2 hp2 => ⟨p, p2, _, rfl, rfl, SqL.of (at_upd upd_same hp2), SqL.of upd_same, ?_⟩⟩
      have h5 := q (upd _ p2 (.lst [])) ((same_upd hp).trans (same_upd hp2))
      show Q (.bl (List.map _ _).isEmpty) _
      rw [List.isEmpty_map]; have e : ((tx z).cps.toList.filter fun c => !decide (c ∈ LET ++ FIG)) = [] := by
        rw [List.filter_eq_nil_iff]; intro c hc; have := ha c (by simpa using hc)
        simp [this]
      rw [e] at h5 ⊢; exact h5
end
end KL
namespace KL
open PySem L2
section
variable {P : Program} {w : World} {K : W.Frag} {mg : Str -> Option Value} {base : Heap}
def Nm5 (z : List Nat) : Prop := 1 <= z.length /\ z.length <= 5 /\ ∀ c ∈ z, c ∈ LET
def spUnlike : Sp := fun vs H Q _ => ∃ (d b : Addr) (m : Nat), vs = [.ref d, .str ("abcdefghijklmnopqrstuvwxyz" : Str), .int 5, .int m] /\ Dk H d b /\ 1 <= m /\ m <= 5 /\ ∀ (l : Addr) (zs : List (List Nat)) (H' : Hp), zs.Nodup -> (∀ z ∈ zs, Nm5 z) -> zs.length <= 5 -> H' l = some (.lst (zs.map fun z => V.str (tx z))) -> l ≠ d -> l ≠ b -> Dk H' d b -> Kp d b H H' -> Q (.ref l) H'
theorem cut_both {α : Type} (xs : List α) {i j : Nat} (hi : i <= xs.length) (hj : j <= xs.length) : cut xs (some (i : Int)) (some (j : Int)) = (xs.drop i).take (j - i) := by
  unfold cut; rw [HT.sIx_nat, HT.sIx_nat, Nat.min_eq_left hi, Nat.min_eq_left hj]
def nth26 (ts : List Nat) (a sz f k : Nat) : List Nat := ts.take a ++ [LET.getD ((f + k) % 26) 0] ++ (ts.drop (a + 1)).take (sz - (a + 1))
theorem let_inj : ∀ i < 26, ∀ j < 26, LET.getD i 0 = LET.getD j 0 -> i = j := by decide +kernel
theorem nth_inj {ts : List Nat} {a sz f k k' : Nat} (h : nth26 ts a sz f k = nth26 ts a sz f k') (hk : k < 5) (hk' : k' < 5) : k = k' := by
  unfold nth26 at h; have h1 := List.append_inj_left' h rfl
  have h2 := List.append_inj_right' h1 rfl
  have h3 : LET.getD ((f + k) % 26) 0 = LET.getD ((f + k') % 26) 0 := by injection h2
  have := let_inj _ (Nat.mod_lt _ (by decide)) _ (Nat.mod_lt _ (by decide)) h3
  omega
theorem let_get {i : Nat} (h : i < 26) : LET.getD i 0 ∈ LET /\ LET[i]? = some (LET.getD i 0) := by
  have hl : LET.length = 26 := rfl
  have e : LET[i]? = some (LET[i]'(by omega)) := Zge _
  have e2 : LET.getD i 0 = LET[i]'(by omega) := by rw [List.getD_eq_getElem?_getD, e]; rfl
  exact ⟨e2 ▸ List.getElem_mem _, e2 ▸ e⟩
theorem nth_nm {ts : List Nat} {a sz f k : Nat} (hl : ts.length = 5) (ht : ∀ c ∈ ts, c ∈ LET) (ha : a < sz) (hs : sz <= 5) : Nm5 (nth26 ts a sz f k) := by
  have e : (nth26 ts a sz f k).length = sz := by
    unfold nth26; simp [hl]
    omega
  refine ⟨by omega, by omega, fun c hc => ?_⟩
  unfold nth26 at hc; rcases Zma.mp hc with hc | hc
  . rcases Zma.mp hc with hc | hc
    . exact ht c (List.mem_of_mem_take hc)
    . rw [Zms.mp hc]; exact (let_get (Nat.mod_lt _ (by decide))).1
  . exact ht c (List.mem_of_mem_drop (List.mem_of_mem_take hc))
theorem ok_unlike (T : Txt K mg) (cLdraw : Callee P w K mg base 1 "_law_draw" ["_law_deck_here", "_law_many"] spDraw) (D : DefAt K mg "_law_unlike" s_law_unlike ["_law_deck_here", "_law_signs", "_law_longest", "_law_many"]) :
    Callee P w K mg base 2 "_law_unlike" ["_law_deck_here", "_law_signs", "_law_longest", "_law_many"] spUnlike := by
  refine D.go sc_law_unlike (fun vs H Q E h => ?_) (fun f cdv A outer s H vs Q E hr h => ?_)
  . obtain ⟨d, b, m, rfl, _⟩ := h; rfl
  . obtain ⟨d, b, m, rfl, dk, hm1, hm5, q⟩ := h
    have hLdraw := hr
    have e26 : (("abcdefghijklmnopqrstuvwxyz" : Str).length : Int) = 26 := by decide +kernel
    refine ⟨_, (R.scons (R.set (i := 4) sc_law_unlike.nd (R.kbm (K := K) PySem.F.plainAttrs_str PySem.F.slot_str_join PySem.F.type_str_join (R.kjoin (K := K)) R.str (R.cons (R.comp rfl (js := [none, some 0, some 1]) (N := ["_law_k", "_law_deck_here", "_law_signs"]) (CompScope.by (defScope s_law_unlike) ["_law_deck_here", "_law_signs", "_law_longest", "_law_many", "_law_word", "_law_size", "_law_at", "_law_first", "_law_ends"] rfl rfl (by decide +kernel)) (gown_name rfl) (R.range1 rfl T.b_range (R.cons (R.v 2) R.nil)) (fun C s₂ H₂ fp => ⟨(R.gn (i := 0) (show (["_law_k", "_law_deck_here", "_law_signs"] : List Str).Nodup by decide +kernel)), R.ts0, (R.ix R.iS (R.v 2) (R.fn cLdraw hLdraw rfl (R.cons (R.v 1) (R.cons (R.callB R.lenS rfl T.b_len bb_len (R.cons (R.v 2) R.nil)) R.nil))))⟩)) R.nil))) (R.scons (R.ife (R.tcmp R.eq (R.fn cLdraw hLdraw rfl (R.cons (R.v 0) (R.cons R.int R.nil))) R.int) (R.sone (R.ret (R.comp rfl (js := [none, some 4]) (N := ["_law_k", "_law_word"]) (CompScope.by (defScope s_law_unlike) ["_law_deck_here", "_law_signs", "_law_longest", "_law_many", "_law_word", "_law_size", "_law_at", "_law_first", "_law_ends"] rfl rfl (by decide +kernel)) (gown_name rfl) (R.range1 rfl T.b_range (R.cons (R.v 3) R.nil)) (fun C s₂ H₂ fp => ⟨(R.gn (i := 0) (show (["_law_k", "_law_word"] : List Str).Nodup by decide +kernel)), R.ts0, (R.sl R.sS (R.v 1) R.pn (R.ps (R.op R.add (R.v 0) R.int)))⟩)))) R.snil) (R.scons (R.set (i := 5) sc_law_unlike.nd (R.op R.add R.int (R.fn cLdraw hLdraw rfl (R.cons (R.v 0) (R.cons (R.v 2) R.nil))))) (R.scons (R.set (i := 6) sc_law_unlike.nd (R.fn cLdraw hLdraw rfl (R.cons (R.v 0) (R.cons (R.v 5) R.nil)))) (R.scons (R.set (i := 7) sc_law_unlike.nd (R.fn cLdraw hLdraw rfl (R.cons (R.v 0) (R.cons (R.callB R.lenS rfl T.b_len bb_len (R.cons (R.v 1) R.nil)) R.nil)))) (R.scons (R.set (i := 8) sc_law_unlike.nd (R.tup (R.cons (R.sl R.sS (R.v 4) R.pn (R.ps (R.v 6))) (R.cons (R.sl R.sS (R.v 4) (R.ps (R.op R.add (R.v 6) R.int)) (R.ps (R.v 5))) R.nil)))) (R.sone (R.ret (R.comp rfl (js := [none, some 1, some 7, some 8]) (N := ["_law_k", "_law_signs", "_law_first", "_law_ends"]) (CompScope.by (defScope s_law_unlike) ["_law_deck_here", "_law_signs", "_law_longest", "_law_many", "_law_word", "_law_size", "_law_at", "_law_first", "_law_ends"] rfl rfl (by decide +kernel)) (gown_name rfl) (R.range1 rfl T.b_range (R.cons (R.v 3) R.nil)) (fun C s₂ H₂ fp => ⟨(R.gn (i := 0) (show (["_law_k", "_law_signs", "_law_first", "_law_ends"] : List Str).Nodup by decide +kernel)), R.ts0, (R.op R.addS (R.op R.addS (R.ix (R.kiT (K := K)) (R.v 3) R.int) (R.ix R.iS (R.v 1) (R.op R.mod (R.op R.add (R.v 2) (R.v 0)) (R.callB R.lenS rfl T.b_len bb_len (R.cons (R.v 1) R.nil))))) (R.ix (R.kiT (K := K)) (R.v 3) R.int))⟩)))))))))), ?_⟩
    refine cutS (t := tAsg _ _) (fun σ' H' => ∃ ts : List Nat, σ' = [some (.ref d), some (.str ("abcdefghijklmnopqrstuvwxyz" : Str)), some (.int 5), some (.int m), some (.str (tx ts)), none, none, none, none] /\ ts.length = 5 /\ (∀ c ∈ ts, c ∈ LET) /\ Dk H' d b /\ Kp d b H H') (fun nx hnx => ?_) ?_
    . refine ⟨rfl, 5, rfl, by decide, by decide, ?_⟩
      refine comp_seq (seq_range 0 5) (by decide) (fun i ys H' => Dk H' d b /\ Kp d b H H' /\ ∃ ts : List Nat, ys = ts.map (fun c => V.str (tx [c])) /\ ts.length = i /\ ∀ c ∈ ts, c ∈ LET) (fun i ys H' ⟨_, _, ts, e, e2, _⟩ => ⟨trivial, by rw [e, Zlm, e2]; exact Znr _⟩) ⟨dk, .refl, [], rfl, rfl, (fun _ h => nomatch h)⟩ (fun i x ys H' hx ⟨Di, kpi, ts, e, e2, e3⟩ => ?_) (fun ys H' ⟨Di, kpi, ts, e, e2, e3⟩ => ?_)
      . refine ⟨by decide +kernel, d, b, _, rfl, Di, by decide +kernel, by decide +kernel, fun r2 H'' r20 r21 Dj kpj => ⟨by decide +kernel, ?_⟩⟩
        obtain ⟨c, hc, hm⟩ := atI_some (xs := ("abcdefghijklmnopqrstuvwxyz" : Str).cps.toList) r20 (by
          have : (("abcdefghijklmnopqrstuvwxyz" : Str).cps.toList.length : Int) = ("abcdefghijklmnopqrstuvwxyz" : Str).length := by decide +kernel
          rw [this]; exact r21)
        rw [let_eq] at hm; refine ⟨c, hc, Dj, kpi.trans kpj, ts ++ [c], by rw [e, Zap]; rfl, by rw [Zla, e2]; rfl, fun c' hc' => ?_⟩
        rcases Zma.mp hc' with h | h
        . exact e3 c' h
        . rw [Zms.mp h]; exact hm
      . intro p hp; have hts : ts.length = 5 := by rw [e2]; rfl
        refine ⟨_, p, ts.map (fun c => tx [c]), rfl, rfl, SqL.of (by rw [upd_same, e, List.map_map]; rfl), ?_, ?_⟩
        . rw [sum_ones, Zlm, emp_eq, tx_len]; simp; omega
        . refine hnx _ _ ⟨ts, ?_, hts, e3, Di.new hp, kpi.trans (.new hp)⟩
          rw [emp_eq, join_signs]; rfl
    . rintro σ' H1 ⟨ts, rfl, hts, hlet, D1, k1⟩
      have hcl : (tx ts).cps.toList = ts := by simp
      refine ⟨d, b, 3, rfl, D1, by decide, by decide, fun r H2 r0 r1 D2 k2 => ?_⟩
      refine if_b (fun _ => ?_) (fun _ => ?_)
      . refine ⟨m, rfl, by omega, by omega, ?_⟩
        have em : ((m : Int)).toNat = m := by omega
        refine comp_seq (seq_range 0 (m : Int).toNat) (by simp [rangeV]; omega) (fun i ys H' => ys = ((List.range i).map fun k => ts.take (k + 1)).map (fun z => V.str (tx z)) /\ H' = H2) (fun i ys H' ⟨e, _⟩ => ⟨trivial, by rw [e]; simp⟩) ⟨rfl, rfl⟩ (fun i x ys H' hx ⟨e, e2⟩ => ?_) (fun ys H' ⟨e, e2⟩ => ?_)
        . subst e2; have ex : x = .int ((i : Nat) : Int) := by
            have := hx
            unfold rangeV at this; rw [Zgm] at this; cases hh : (List.range (m : Int).toNat)[i]? with
            | none => rw [hh] at this; cases this
            | some y =>
              rw [hh] at this; obtain ⟨h1, h2⟩ := Zgs.mp hh
              rw [List.getElem_range] at h2; cases this
              rw [<- h2]; simp
          subst ex; refine ⟨szl' (by rw [tx_len]; omega), ?_, rfl⟩
          rw [hcl, show ((i : Nat) : Int) + 1 = ((i + 1 : Nat) : Int) by omega, cut_to, e, List.range_succ, Zap, Zap]
          rfl
        . subst e2; intro p hp; have hlen : (rangeV 0 (m : Int).toNat).length = m := by simp [rangeV]
          rw [hlen] at e; have hd := D2.ne hp
          refine q p ((List.range m).map fun k => ts.take (k + 1)) _ ?_ ?_ (by simpa using hm5) (by rw [upd_same, e]) hd.1 hd.2 (D2.new hp) ((k1.trans k2).trans (.new hp))
          . show List.Pairwise (· ≠ ·) _
            rw [List.pairwise_map]; refine List.Pairwise.imp_of_mem (fun {x y} hx hy hne exy => hne ?_) List.nodup_range
            have hx' := List.mem_range.mp hx
            have hy' := List.mem_range.mp hy
            have := congrArg List.length exy
            rw [Zlk, Zlk, hts] at this; omega
          . intro z hz; obtain ⟨k, hk, rfl⟩ := Zmm.mp hz
            have hk' := List.mem_range.mp hk
            exact ⟨by rw [Zlk, hts]; omega, by rw [Zlk, hts]; omega, fun c hc => hlet c (List.mem_of_mem_take hc)⟩
      . refine ⟨d, b, 5, rfl, D2, by decide, by decide, fun r5 H3 s0 s1 D3 k3 => ?_⟩
        dsimp only [gName]; refine ⟨d, b, 1 + r5, rfl, D3, by omega, by omega, fun ra H4 a0 a1 D4 k4 => ?_⟩
        dsimp only [gName]; refine ⟨by decide +kernel, d, b, _, rfl, D4, by decide +kernel, by decide +kernel, fun rf H5 f0 f1 D5 k5 => ?_⟩
        rw [e26] at f1; dsimp only [gName]; obtain ⟨a, rfl⟩ : ∃ a : Nat, ra = a := ⟨ra.toNat, by omega⟩
        obtain ⟨z5, rfl⟩ : ∃ z : Nat, r5 = z := ⟨r5.toNat, by omega⟩
        obtain ⟨fz, rfl⟩ : ∃ z : Nat, rf = z := ⟨rf.toNat, by omega⟩
        refine ⟨szl' (by rw [tx_len]; omega), szl' (by rw [tx_len]; omega), szl rfl, fun tp htp => ?_⟩
        have g5 : (upd H5 tp (.tup [.str (tx (cut (tx ts).cps.toList none (some (a : Int)))), .str (tx (cut (tx ts).cps.toList (some ((a : Int) + 1)) (some (1 + (z5 : Int)))))])) tp = some (.tup [.str (tx (ts.take a)), .str (tx ((ts.drop (a + 1)).take (z5 + 1 - (a + 1))))]) := by
          rw [upd_same, hcl, cut_to, show (a : Int) + 1 = ((a + 1 : Nat) : Int) by omega, show 1 + (z5 : Int) = ((z5 + 1 : Nat) : Int) by omega, cut_both ts (by omega) (by omega)]
        have k6 : Kp d b H (upd H5 tp (.tup [.str (tx (cut (tx ts).cps.toList none (some (a : Int)))), .str (tx (cut (tx ts).cps.toList (some ((a : Int) + 1)) (some (1 + (z5 : Int)))))])) := ((((k1.trans k2).trans k3).trans k4).trans k5).trans (.new htp)
        have D6 := D5.new (o := .tup [.str (tx (cut (tx ts).cps.toList none (some (a : Int)))), .str (tx (cut (tx ts).cps.toList (some ((a : Int) + 1)) (some (1 + (z5 : Int)))))]) htp
        dsimp only [gName]; generalize upd H5 tp (.tup [.str (tx (cut (tx ts).cps.toList none (some (a : Int)))), .str (tx (cut (tx ts).cps.toList (some ((a : Int) + 1)) (some (1 + (z5 : Int)))))]) = H6 at g5 k6 D6; refine ⟨m, rfl, by omega, by omega, ?_⟩
        refine comp_seq (seq_range 0 (m : Int).toNat) (by simp [rangeV]; omega) (fun i ys H' => ys = ((List.range i).map fun k => nth26 ts a (z5 + 1) fz k).map (fun z => V.str (tx z)) /\ H' = H6) (fun i ys H' ⟨e, _⟩ => ⟨trivial, by rw [e]; simp⟩) ⟨rfl, rfl⟩ (fun i x ys H' hx ⟨e, e2⟩ => ?_) (fun ys H' ⟨e, e2⟩ => ?_)
        . subst e2; have hi5 : i < m := by
            have := (Zgs.mp hx).1
            simp [rangeV] at this
            omega
          have ex : x = .int ((i : Nat) : Int) := by
            have := hx
            unfold rangeV at this; rw [Zgm] at this; cases hh : (List.range (m : Int).toNat)[i]? with
            | none => rw [hh] at this; cases this
            | some y =>
              rw [hh] at this; obtain ⟨h1, h2⟩ := Zgs.mp hh
              rw [List.getElem_range] at h2; cases this
              rw [<- h2]; simp
          subst ex; have hL := let_get (Nat.mod_lt (fz + i) (by decide : 0 < 26))
          have t1 : (tx (ts.take a)).length <= 5 := by rw [tx_len, Zlk]; omega
          have t2 : (tx ((ts.drop (a + 1)).take (z5 + 1 - (a + 1)))).length <= 5 := by rw [tx_len, Zlk, List.length_drop]; omega
          refine ⟨_, SqT.of g5, _, rfl, by decide +kernel, by rw [e26]; show (0 : Int) < 26; decide, by decide +kernel, LET.getD ((fz + i) % 26) 0, ?_, szl' (by have := tx_len [LET.getD ((fz + i) % 26) 0]; simp only [Zlc, List.length_nil] at this; omega), _, SqT.of g5, _, rfl, szl' ?_, ?_, rfl⟩
          . rw [e26, let_eq, show ((fz : Int) + (i : Int)) % 26 = (((fz + i) % 26 : Nat) : Int) by omega]
            exact atI_nat hL.2
          . rw [tx_app, tx_len, Zla, Zlk]; simp only [Zlc, List.length_nil]
            omega
          . rw [e, List.range_succ, Zap, Zap, tx_app, tx_app]; rfl
        . subst e2; intro p hp; have hlen : (rangeV 0 (m : Int).toNat).length = m := by simp [rangeV]
          rw [hlen] at e; have hd := D6.ne hp
          refine q p ((List.range m).map fun k => nth26 ts a (z5 + 1) fz k) _ ?_ ?_ (by simpa using hm5) (by rw [upd_same, e]) hd.1 hd.2 (D6.new hp) (k6.trans (.new hp))
          . show List.Pairwise (· ≠ ·) _
            rw [List.pairwise_map]; refine List.Pairwise.imp_of_mem (fun {x y} hx hy hne exy => hne ?_) List.nodup_range
            have hx' := List.mem_range.mp hx
            have hy' := List.mem_range.mp hy
            exact nth_inj exy (by omega) (by omega)
          . intro z hz; obtain ⟨k, hk, rfl⟩ := Zmm.mp hz
            exact nth_nm hts hlet (by omega) (by omega)
end
end KL
namespace KL
open PySem L2
section
variable {P : Program} {w : World} {K : W.Frag} {mg : Str -> Option Value} {base : Heap}
def spLaw (K : W.Frag) : Sp := fun vs H Q _ => ∃ (a : Addr) (ns : List Int), vs = [.ref a] /\ SqL K H a (ns.map V.int) /\ ns.length <= 63 /\ ∀ H', Q (.bl true) H'
def SeenK (D : List Nat -> Nat -> Nat -> Prop) (kvs : List (Key × V)) : Prop := ∀ k, (valV kvs k).isSome = true -> ∃ z n p, D z n p /\ Nm5 z /\ p < 2 /\ k = Sum.inr (tx (kyL z n p))
theorem dig_let {c : Nat} (h : 48 <= c /\ c <= 57) : c ∉ LET := by
  intro hc; have : ∀ x ∈ LET, 97 <= x := by decide
  have := this c hc
  omega
theorem ky_inj {z z' : List Nat} {n n' p p' : Nat} (hz : ∀ c ∈ z, c ∈ LET) (hz' : ∀ c ∈ z', c ∈ LET) (h : kyL z n p = kyL z' n' p') : z = z' /\ n = n' /\ p = p' := by
  unfold kyL at h; have h1 := List.append_inj_left' h rfl
  have h2 := List.append_inj_right' h rfl
  have fl : ∀ (y : List Nat) (m : Nat), (∀ c ∈ y, c ∈ LET) -> (y ++ (numS m).cps.toList).filter (fun c => decide (c ∈ LET)) = y := fun y m hy => by
    rw [List.filter_append, List.filter_eq_self.mpr (fun c hc => decide_eq_true (hy c hc)), List.filter_eq_nil_iff.mpr (fun c hc => by simpa using dig_let (numS_digits m c hc)), List.append_nil]
  have e : z = z' := by rw [<- fl z n hz, <- fl z' n' hz', h1]
  subst e; have h3 := List.append_cancel_left h1
  refine ⟨rfl, ?_, by injection h2 with h2; omega⟩
  rw [<- numS_val n, <- numS_val n', h3]
theorem SeenK.no {D : List Nat -> Nat -> Nat -> Prop} {kvs : List (Key × V)} (h : SeenK D kvs) {z : List Nat} {n p : Nat} (hz : ∀ c ∈ z, c ∈ LET) (hn : ¬ D z n p) : (valV kvs (Sum.inr (tx (kyL z n p)))).isSome = false := by
  rw [Bool.eq_false_iff]; intro q; obtain ⟨z', n', p', hd, hm, _, e⟩ := h _ q
  injection e with e
  obtain ⟨rfl, rfl, rfl⟩ := ky_inj hz hm.2.2 (tx_inj.mp e)
  exact hn hd
theorem SeenK.put {D D' : List Nat -> Nat -> Nat -> Prop} {kvs : List (Key × V)} (h : SeenK D kvs) {z : List Nat} {n p : Nat} {v : V} (hm : Nm5 z) (hp : p < 2) (h1 : ∀ a b c, D a b c -> D' a b c) (h2 : D' z n p) : SeenK D' (putK kvs (Sum.inr (tx (kyL z n p))) v) := fun k q => by
  rw [valV_put] at q; by_cases e : k = Sum.inr (tx (kyL z n p))
  . exact ⟨z, n, p, h2, hm, hp, e⟩
  . rw [if_neg e] at q; obtain ⟨z', n', p', a, r⟩ := h k q
    exact ⟨z', n', p', h1 _ _ _ a, r⟩
theorem SeenK.imp {D D' : List Nat -> Nat -> Nat -> Prop} {kvs : List (Key × V)} (h : SeenK D kvs) (h1 : ∀ a b c, D a b c -> D' a b c) : SeenK D' kvs := fun k q => by
  obtain ⟨z', n', p', a, r⟩ := h k q
  exact ⟨z', n', p', h1 _ _ _ a, r⟩
theorem six {r : Int} (h0 : 0 <= r) (h1 : r < 6) : r = 0 ∨ r = 1 ∨ r = 2 ∨ r = 3 ∨ r = 4 ∨ r = 5 := by omega
theorem ok_law (T : Txt K mg) (cLdeck : Callee P w K mg base 1 "_law_deck" ["_law_script"] (spDeck K)) (cLdraw : Callee P w K mg base 1 "_law_draw" ["_law_deck_here", "_law_many"] spDraw)
    (cLunlike : Callee P w K mg base 2 "_law_unlike" ["_law_deck_here", "_law_signs", "_law_longest", "_law_many"] spUnlike) (cLfigures : Callee P w K mg base 1 "_law_figures" ["_law_number"] spFigs)
    (cLis_key : Callee P w K mg base 1 "_law_is_key" ["_law_text"] spIsKeyT) (c_key_of : Callee P w K mg base 1 "key_of" ["name", "number", "place"] spKeyOf)
    {f : Addr} {fd : FuncData} (F : Fun K "law" "law" s_law f fd) : FnOk P w K mg base CX0 4 f fd ["_law_script"] (spLaw K) := by
  refine F.go sc_law (fun vs H Q E h => ?_) (fun cdv A outer s H vs Q E hr h => ?_)
  . obtain ⟨a, ns, rfl, _⟩ := h; rfl
  . obtain ⟨a, ns, rfl, hS, hlen, q⟩ := h
    have hLdeck : Room 1 _ := hr.mono (by decide)
    have hLdraw : Room 1 _ := hr.mono (by decide)
    have hLunlike : Room 2 _ := hr.mono (by decide)
    have hLfigures : Room 1 _ := hr.mono (by decide)
    have hLis_key : Room 1 _ := hr.mono (by decide)
    have hr_key_of : Room 1 _ := hr.mono (by decide)
    have hu1 := hu_of hr
    refine ⟨_, (R.scons (R.set (i := 1) sc_law.nd (R.fn cLdeck hLdeck rfl (R.cons (R.v 0) R.nil))) (R.scons (R.set (i := 2) sc_law.nd (R.fn cLunlike hLunlike rfl (R.cons (R.v 1) (R.cons R.str (R.cons R.int (R.cons (R.op R.add R.int (R.fn cLdraw hLdraw rfl (R.cons (R.v 1) (R.cons R.int R.nil)))) R.nil)))))) (R.scons (R.set (i := 3) sc_law.nd (R.lst (R.cons R.int (R.cons R.int R.nil)))) (R.scons (R.for_ PassesOwn.never rfl (R.range1 rfl T.b_range (R.cons (R.op R.add R.int (R.fn cLdraw hLdraw rfl (R.cons (R.v 1) (R.cons R.int R.nil)))) R.nil)) (R.gn (i := 4) sc_law.nd) (R.scons (R.set (i := 5) sc_law.nd (R.op R.add R.int (R.fn cLdraw hLdraw rfl (R.cons (R.v 1) (R.cons (R.ix (R.kiL (K := K)) (R.lst (R.cons R.int (R.cons R.int (R.cons R.int (R.cons R.int (R.cons R.int (R.cons R.int R.nil))))))) (R.fn cLdraw hLdraw rfl (R.cons (R.v 1) (R.cons R.int R.nil)))) R.nil))))) (R.sone (R.set (i := 3) sc_law.nd (R.op R.cat (R.v 3) (R.lst (R.cons (R.v 5) (R.cons (R.callB (R.max rfl) rfl T.b_max bb_max (R.cons R.int (R.cons (R.op R.fdiv (R.v 5) R.int) R.nil))) (R.cons (R.callB (R.min rfl) rfl T.b_min bb_min (R.cons R.int (R.cons (R.op R.add (R.op R.mul R.int (R.v 5)) R.int) R.nil))) (R.cons (R.callB (R.min rfl) rfl T.b_min bb_min (R.cons R.int (R.cons (R.op R.add (R.v 5) R.int) R.nil))) R.nil)))))))))) (R.scons (R.set (i := 6) sc_law.nd R.dnew) (R.scons (R.for_ PassesOwn.never rfl (R.kwL (K := K) (R.v 2)) (R.gn (i := 7) sc_law.nd) (R.sone (R.for_ PassesOwn.never rfl (R.kwL (K := K) (R.callB (R.ksortedG rfl) rfl T.b_sorted bb_sorted (R.cons (R.callTy (R.ksetG (K := K) rfl) rfl T.b_set bb_set (R.cons (R.v 3) R.nil)) R.nil))) (R.gn (i := 5) sc_law.nd) (R.sone (R.for_ PassesOwn.never rfl (R.range1 rfl T.b_range (R.cons R.int R.nil)) (R.gn (i := 8) sc_law.nd) (R.scons (R.set (i := 9) sc_law.nd (R.fn c_key_of hr_key_of rfl (R.cons (R.v 7) (R.cons (R.v 5) (R.cons (R.v 8) R.nil))))) (R.scons (R.ife (R.tw (R.wor (R.tcmp R.ne (R.v 9) (R.op R.addS (R.op R.addS (R.v 7) (R.fn cLfigures hLfigures rfl (R.cons (R.v 5) R.nil))) (R.ix R.iS R.str (R.v 8)))) (R.wor (R.tnot (R.val (R.fn cLis_key hLis_key rfl (R.cons (R.v 9) R.nil)))) (R.wor1 (R.tcmp (R.inD hu1) (R.v 9) (R.v 6)))))) (R.sone (R.ret R.bl)) R.snil) (R.scons (R.asg R.bl (R.gsub (R.v 6) (R.v 9) (R.setD hu1))) (R.sone (R.ife (R.tcmp R.ne (R.fn c_key_of hr_key_of rfl (R.cons (R.v 7) (R.cons (R.v 5) (R.cons (R.v 8) R.nil)))) (R.v 9)) (R.sone (R.ret R.bl)) R.snil)))))))))) (R.sone (R.ret R.bl)))))))), ?_⟩
    refine ⟨a, ns, rfl, hS, fun d b H1 nd nb D1 s1 => ?_⟩
    dsimp only [gName]; refine ⟨d, b, 5, rfl, D1, by decide, by decide, fun r H2 r0 r1 D2 k2 => ?_⟩
    obtain ⟨r, rfl⟩ : ∃ z : Nat, r = z := ⟨r.toNat, by omega⟩
    have e1 : (1 : Int) + (r : Int) = ((1 + r : Nat) : Int) := by omega
    refine ⟨d, b, 1 + r, by rw [<- e1], D2, by omega, by omega, fun l zs H3 zn zm zl gl ld lb D3 k3 => ?_⟩
    dsimp only [gName]; refine ⟨szl rfl, fun p hp => ?_⟩
    dsimp only [gName]; refine cutS (t := tFor _ _ _) (fun σ' H' => ∃ (ln : Addr) (ms : List Int) (o4 o5 : Option V), σ' = [some (.ref a), some (.ref d), some (.ref l), some (.ref ln), o4, o5, none, none, none, none] /\ H' ln = some (.lst (ms.map V.int)) /\ ms.length <= 38 /\ (∀ x ∈ ms, 1 <= x /\ x <= 999999) /\ H' l = some (.lst (zs.map fun z => V.str (tx z)))) (fun nx hnx => ?_) ?_
    . refine ⟨d, b, 9, rfl, D3.new hp, by decide, by decide, fun r9 H4 t0 t1 D4 k4 => ⟨1 + r9, rfl, by omega, by omega, ?_⟩⟩
      have hpd := D3.ne hp
      refine for_seq (seq_range 0 (1 + r9).toNat) (fun i σ' H' => ∃ (ln : Addr) (ms : List Int) (o4 o5 : Option V), σ' = [some (.ref a), some (.ref d), some (.ref l), some (.ref ln), o4, o5, none, none, none, none] /\ H' ln = some (.lst (ms.map V.int)) /\ ln ≠ d /\ ln ≠ b /\ ms.length = 2 + 4 * i /\ (∀ x ∈ ms, 1 <= x /\ x <= 999999) /\ H' l = some (.lst (zs.map fun z => V.str (tx z))) /\ Dk H' d b) (fun _ _ _ _ => trivial)
        ⟨p, [1, 999999], _, _, rfl, k4 p _ upd_same hpd.1 hpd.2, hpd.1, hpd.2, rfl, by decide, k4 l _ (at_upd gl hp) ld lb, D4⟩ ?_ ?_
      . rintro i x σ' H5 hx ⟨ln, ms, o4, o5, rfl, g1, nd1, nb1, hml, hmb, gl5, D5⟩
        dsimp only [gName]; refine cutS (t := tAsg _ _) (fun σ' H' => ∃ (n : Int) (o4 : Option V), σ' = [some (.ref a), some (.ref d), some (.ref l), some (.ref ln), o4, some (.int n), none, none, none, none] /\ 1 <= n /\ n <= 999999 /\ H' ln = some (.lst (ms.map V.int)) /\ H' l = some (.lst (zs.map fun z => V.str (tx z))) /\ Dk H' d b) (fun nx' hnx' => ?_) ?_
        . refine ⟨szl rfl, fun p2 hp2 => ⟨d, b, 6, rfl, D5.new hp2, by decide, by decide, fun r6 H6 u0 u1 D6 k6 => ?_⟩⟩
          have hp2d := D5.ne hp2
          have gp := k6 p2 _ upd_same hp2d.1 hp2d.2
          have g2 := k6 ln _ (at_upd g1 hp2) nd1 nb1
          have gl6 := k6 l _ (at_upd gl5 hp2) ld lb
          rcases six u0 u1 with rfl | rfl | rfl | rfl | rfl | rfl
          all_goals exact ⟨_, SqL.of gp, _, rfl, d, b, _, rfl, D6, by decide, by decide, fun r7 H7 w0 w1 D7 k7 => hnx' _ _ ⟨1 + r7, _, rfl, by omega, by omega, k7 ln _ g2 nd1 nb1, k7 l _ gl6 ld lb, D7⟩⟩
        . rintro σ' H6 ⟨n, o4, rfl, n1, n2, g2, gl6, D6⟩
          refine ⟨⟨by decide, by decide⟩, .inl ⟨by decide, by decide⟩, szl rfl, fun p3 hp3 => ⟨_, _, at_upd g2 hp3, upd_same, ?_, fun p4 hp4 => ?_⟩⟩
          . exact Znt (m := 1000) (by simp [hml]; have := (Zgs.mp hx).1; simp [rangeV] at this; omega) (by decide)
          . have D7 := (D6.new (o := .lst [.int n, .int (if n / 10 > 1 then n / 10 else 1), .int (if 10 * n + 1 < 999999 then 10 * n + 1 else 999999), .int (if n + 1 < 999999 then n + 1 else 999999)]) hp3)
            have hd4 := D7.ne hp4
            refine ⟨p4, ms ++ [n, (if n / 10 > 1 then n / 10 else 1), (if 10 * n + 1 < 999999 then 10 * n + 1 else 999999), (if n + 1 < 999999 then n + 1 else 999999)], _, _, rfl, by rw [upd_same, Zap]; rfl, hd4.1, hd4.2, by rw [Zla, hml]; simp; omega, fun x hx => ?_, at_upd (at_upd gl6 hp3) hp4, D7.new hp4⟩
            rcases Zma.mp hx with hx | hx
            . exact hmb x hx
            . simp only [List.mem_cons, List.not_mem_nil, or_false] at hx
              rcases hx with rfl | rfl | rfl | rfl
              . exact ⟨n1, n2⟩
              . split <;> omega
              . split <;> omega
              . split <;> omega
      . rintro σ' H5 ⟨ln, ms, o4, o5, rfl, g1, nd1, nb1, hml, hmb, gl5, D5⟩
        refine hnx _ _ ⟨ln, ms, o4, o5, rfl, g1, ?_, hmb, gl5⟩
        rw [hml]; simp [rangeV]
        omega
    . rintro σ' H4 ⟨ln, ms, o4, o5, rfl, g1, hml, hmb, gl4⟩
      refine fun ps hps => ?_
      have gs : (upd H4 ps (.dK [])) ps = some (.dK []) := upd_same
      have g2 : (upd H4 ps (.dK [])) ln = some (.lst (ms.map V.int)) := at_upd g1 hps
      have gl5 : (upd H4 ps (.dK [])) l = some (.lst (zs.map fun z => V.str (tx z))) := at_upd gl4 hps
      dsimp only [gName]; generalize upd H4 ps (.dK []) = H5 at gs g2 gl5; refine ⟨l, rfl, ⟨_, SqL.of gl5⟩, for_seq (seq_list K l (zs.map fun z => V.str (tx z))) (fun i σ' H' => ∃ (kvs : List (Key × V)) (o4 o5 o7 o8 o9 : Option V), σ' = [some (.ref a), some (.ref d), some (.ref l), some (.ref ln), o4, o5, some (.ref ps), o7, o8, o9] /\ H' ps = some (.dK kvs) /\ kvs.length <= 80 * i /\ SeenK (fun z _ _ => z ∈ zs.take i) kvs /\ H' ln = some (.lst (ms.map V.int)) /\ H' l = some (.lst (zs.map fun z => V.str (tx z)))) (fun i σ' H' ⟨_, _, _, _, _, _, _, _, _, _, _, e⟩ => SqL.of e)
        ⟨[], _, _, _, _, _, rfl, gs, Nat.zero_le _, (fun k q => nomatch q), g2, gl5⟩ ?_ ?_⟩
      . rintro i x σ' H6 hx ⟨kvs, o4, o5, o7, o8, o9, rfl, gs6, hk6, sn6, g6, gl6⟩
        rw [Zgm] at hx; cases hz : zs[i]? with
        | none => rw [hz] at hx; cases hx
        | some z =>
          rw [hz] at hx; cases hx
          have hzm : z ∈ zs := Zmg hz
          have hN := zm z hzm
          have hil : i < zs.length := (Zgs.mp hz).1
          have hzi : z ∉ zs.take i := fun q => by
            obtain ⟨j, hj, e⟩ := List.getElem_of_mem q
            rw [Zlk] at hj; rw [List.getElem_take] at e; have h2 := (Zgs.mp hz).2
            have := (List.pairwise_iff_getElem.mp zn) j i (by omega) hil (by omega)
            exact this (e.trans h2.symm)
          obtain ⟨f1, f2, f3⟩ := PyProof.Rows.firstMet_length_le (fun i => ms.getD i 0) ms.length |> fun _ => firstMet_set ms
          dsimp only [gName]; refine ⟨ms, SqL.of g6, by omega, fun ls hls => ⟨_, upd_same, by omega, fun lt ns' hlt hperm _ => ⟨lt, rfl, ⟨_, SqL.of upd_same⟩, ?_⟩⟩⟩
          have gs7 := at_upd (u := HO.lst (ns'.map V.int)) (at_upd gs6 hls) hlt
          have g7 := at_upd (u := HO.lst (ns'.map V.int)) (at_upd g6 hls) hlt
          have gl7 := at_upd (u := HO.lst (ns'.map V.int)) (at_upd gl6 hls) hlt
          have hnb : ∀ x ∈ ns', 1 <= x /\ x <= 999999 := fun x hx => hmb x (f3 x (hperm.mem_iff.mp hx))
          have hnn : ns'.Nodup := hperm.nodup_iff.mpr f1
          have hnl : ns'.length <= 38 := by rw [hperm.length_eq]; omega
          refine for_seq (seq_list K lt (ns'.map V.int)) (fun j σ' H' => ∃ (kvs : List (Key × V)) (o4 o5 o8 o9 : Option V), σ' = [some (.ref a), some (.ref d), some (.ref l), some (.ref ln), o4, o5, some (.ref ps), some (.str (tx z)), o8, o9] /\ H' ps = some (.dK kvs) /\ kvs.length <= 80 * i + 2 * j /\ SeenK (fun y n _ => y ∈ zs.take i ∨ (y = z /\ (n : Int) ∈ ns'.take j)) kvs /\ H' ln = some (.lst (ms.map V.int)) /\ H' l = some (.lst (zs.map fun z => V.str (tx z))) /\ H' lt = some (.lst (ns'.map V.int))) (fun i σ' H' ⟨_, _, _, _, _, _, _, _, _, _, _, e⟩ => SqL.of e)
            ⟨kvs, _, _, _, _, rfl, gs7, by omega, sn6.imp (fun _ _ _ h => .inl h), g7, gl7, upd_same⟩ ?_ ?_
          . rintro j x σ' H7 hx ⟨kvs, o4, o5, o8, o9, rfl, gs8, hk8, sn8, g8, gl8, gt8⟩
            rw [Zgm] at hx; cases hn : ns'[j]? with
            | none => rw [hn] at hx; cases hx
            | some y =>
              rw [hn] at hx; cases hx
              have hyb := hnb y (Zmg hn)
              have hjl : j < ns'.length := (Zgs.mp hn).1
              have hyj : y ∉ ns'.take j := fun q => by
                obtain ⟨j', hj, e⟩ := List.getElem_of_mem q
                rw [Zlk] at hj; rw [List.getElem_take] at e; have h2 := (Zgs.mp hn).2
                have := (List.pairwise_iff_getElem.mp hnn) j' j (by omega) hjl (by omega)
                exact this (e.trans h2.symm)
              obtain ⟨n, rfl⟩ : ∃ n : Nat, y = n := ⟨y.toNat, by omega⟩
              have hn1 : 0 < n := by omega
              have hn2 : n <= 999999 := by omega
              dsimp only [gName]; refine ⟨2, rfl, by decide, by decide, for_seq (seq_range 0 2) (fun k σ' H' => ∃ (kvs : List (Key × V)) (o4 o8 o9 : Option V), σ' = [some (.ref a), some (.ref d), some (.ref l), some (.ref ln), o4, some (.int n), some (.ref ps), some (.str (tx z)), o8, o9] /\ H' ps = some (.dK kvs) /\ kvs.length <= 80 * i + 2 * j + k /\ SeenK (fun y m p => (y ∈ zs.take i ∨ (y = z /\ (m : Int) ∈ ns'.take j)) ∨ (y = z /\ m = n /\ p < k)) kvs /\ H' ln = some (.lst (ms.map V.int)) /\ H' l = some (.lst (zs.map fun z => V.str (tx z))) /\ H' lt = some (.lst (ns'.map V.int))) (fun _ _ _ _ => trivial)
                ⟨kvs, _, _, _, rfl, gs8, by omega, sn8.imp (fun _ _ _ h => .inl h), g8, gl8, gt8⟩ ?_ ?_⟩
              . rintro k x σ' H8 hx ⟨kvs, o4, o8, o9, rfl, gs9, hk9, sn9, g9, gl9, gt9⟩
                have hk2 : k < 2 := by
                  have := (Zgs.mp hx).1
                  simpa [rangeV] using this
                have ex : x = .int (k : Int) := by
                  rcases (by omega : k = 0 ∨ k = 1) with rfl | rfl
                  . cases hx; rfl
                  . cases hx; rfl
                subst ex; have hzl := hN.2.1
                have hnl6 := num_ln hn2
                have en : (numS n).length = (numS n).cps.toList.length := by simp [Str.length]
                dsimp only [gName]; refine ⟨z, n, k, rfl, by omega, hn2, hk2, ?_⟩
                dsimp only [gName]; refine ⟨n, rfl, hn1, hn2, szl' (by rw [tx_len, en]; omega), ?_⟩
                have ek : tx z ++ numS n ++ tx [97 + k] = tx (kyL z n k) := by rw [num_tx n, tx_app, tx_app]; rfl
                have l1 := tx_len [97 + k]
                simp only [Zlc, List.length_nil] at l1
                have l2 : (tx z ++ numS n).length <= 11 := by rw [num_tx n, tx_app, tx_len, Zla]; omega
                have eab : ("ab" : Str).cps.toList = [97, 98] := by decide +kernel
                have hkl : (kyL z n k).length <= 12 /\ 1 <= (kyL z n k).length := by
                  unfold kyL; simp only [Zla, Zlc, List.length_nil]
                  omega
                have hkm : ∀ c ∈ kyL z n k, c ∈ LET ++ FIG := fun c hc => by
                  unfold kyL at hc; rcases Zma.mp hc with hc | hc
                  . rcases Zma.mp hc with hc | hc
                    . exact List.mem_append_left _ (hN.2.2 c hc)
                    . exact List.mem_append_right _ ((fig_iff c).mpr (numS_digits n c hc))
                  . rw [Zms.mp hc]; rcases (by omega : k = 0 ∨ k = 1) with rfl | rfl <;> decide
                refine ⟨by decide +kernel, 97 + k, by rw [eab]; rcases (by omega : k = 0 ∨ k = 1) with rfl | rfl <;> rfl, szl' (by omega), ?_⟩
                rw [ek]; show if (!decide (tx (kyL z n k) = tx (kyL z n k))) = true then _ else _
                refine if_f (by simp) ?_
                refine ⟨kyL z n k, rfl, hkl.2, hkl.1, hkm, fun H9 s9 => ?_⟩
                have hno : (valV kvs (Sum.inr (tx (kyL z n k)))).isSome = false := sn9.no hN.2.2 (fun h => by
                  rcases h with (h | ⟨_, h⟩) | ⟨_, _, h⟩
                  . exact hzi h
                  . exact hyj h
                  . omega)
                refine ⟨kvs, s9 _ _ gs9, ?_⟩
                show if (valV kvs (Sum.inr (tx (kyL z n k)))).isSome = true then _ else _
                refine if_f hno ?_
                refine ⟨ps, _, rfl, DPut.k (k := Sum.inr (tx (kyL z n k))) (s9 _ _ gs9) (Znl (m := 1000) (by omega) (by decide)), ?_⟩
                have gd : ∀ c o, H9 c = some o -> (∀ kv, o ≠ .dK kv) -> (upd H9 ps (.dK (putK kvs (Sum.inr (tx (kyL z n k))) (.bl true)))) c = some o := fun c o e hne => by rw [upd_ne (fun z => by rw [z, s9 _ _ gs9] at e; cases e; exact hne _ rfl)]; exact e
                dsimp only [gName]; refine ⟨z, n, k, rfl, by omega, hn2, hk2, ?_⟩
                show if (!decide (tx (kyL z n k) = tx (kyL z n k))) = true then _ else _
                refine if_f (by simp) ?_
                exact ⟨_, _, _, _, rfl, upd_same, Znt (length_putK _ _ _) (by omega), sn9.put hN hk2 (fun y m p h => h.imp id (fun ⟨a, b, c⟩ => ⟨a, b, by omega⟩)) (.inr ⟨rfl, rfl, by omega⟩), gd _ _ (s9 _ _ g9) (fun _ z => nomatch z), gd _ _ (s9 _ _ gl9) (fun _ z => nomatch z), gd _ _ (s9 _ _ gt9) (fun _ z => nomatch z)⟩
              . rintro σ' H8 ⟨kvs, o4, o8, o9, rfl, gs9, hk9, sn9, g9, gl9, gt9⟩
                refine ⟨kvs, _, _, _, _, rfl, gs9, by simp [rangeV] at hk9; omega, sn9.imp (fun y m p h => ?_), g9, gl9, gt9⟩
                rcases h with (h | ⟨rfl, h⟩) | ⟨rfl, rfl, _⟩
                . exact .inl h
                . exact .inr ⟨rfl, by rw [List.take_add_one]; exact List.mem_append_left _ h⟩
                . exact .inr ⟨rfl, by rw [List.take_add_one, hn]; exact List.mem_append_right _ Zcs⟩
          . rintro σ' H7 ⟨kvs, o4, o5, o8, o9, rfl, gs8, hk8, sn8, g8, gl8, gt8⟩
            refine ⟨kvs, _, _, _, _, _, rfl, gs8, by rw [Zlm] at hk8; omega, sn8.imp (fun y m p h => ?_), g8, gl8⟩
            rcases h with h | ⟨rfl, _⟩
            . rw [List.take_add_one]; exact List.mem_append_left _ h
            . rw [List.take_add_one, hz]; exact List.mem_append_right _ Zcs
      . rintro σ' H6 ⟨kvs, o4, o5, o7, o8, o9, rfl, _⟩
        exact q H6
end
end KL
namespace KL
open PySem L2
structure FA (K : W.Frag) (x : Str) (st : Stmt) : Prop where
  ex : ∃ (f : Addr) (od an : Option Addr) (sl : Array (Option Value)) (oc kV dc pm cd ct : Value), W.nsIn K mainGlobals x = some (some (.ref f)) /\ K.lookup f = some ⟨oc, od, .func (W.fnOf x x (defArgs st) (defBody st) (defScope st) .none kV dc pm an cd ct), sl⟩ /\ W.codeIn K cd x = true /\ W.keepIn K (.ref f) = true
theorem FA.of {K : W.Frag} {x : Str} {st : Stmt} {f : Addr} {od an : Option Addr} {sl : Array (Option Value)} {oc kV dc pm cd ct : Value} (a : W.nsIn K mainGlobals x = some (some (.ref f))) (l : K.lookup f = some ⟨oc, od, .func (W.fnOf x x (defArgs st) (defBody st) (defScope st) .none kV dc pm an cd ct), sl⟩) (c : W.codeIn K cd x = true) (k : W.keepIn K (.ref f) = true) : FA K x st := ⟨f, od, an, sl, oc, kV, dc, pm, cd, ct, a, l, c, k⟩
theorem FA.at {K : W.Frag} {x : Str} {st : Stmt} {ps : List Str} {h : Heap} {mg : Str -> Option Value} (F : FA K x st) (X : K.In h) (G : h.Ns mainGlobals mg) (hb : ∀ (kV doc pm : Value) (an : Option Addr) (cdv ct : Value) (us : List Value), us.length = ps.length -> bindArgs (W.fnOf x x (defArgs st) (defBody st) (defScope st) .none kV doc pm an cdv ct) ⟨us, []⟩ = pure (ps.zip us)) : DefAt K mg x st ps := by
  obtain ⟨f, od, an, sl, oc, kV, dc, pm, cd, ct, a, l, c, k⟩ := F.ex
  exact def_at X G a l c k hb
theorem all_mk {l : W.OpenLaw} {w : World} {K : W.Frag} {h : Heap} {mg : Str -> Option Value} {fa f_law : Addr} (X : K.In h) (G : h.Ns mainGlobals mg) (hfa : mg "law" = some (.ref fa))
    {od_law an_law : Option Addr} {sl_law : Array (Option Value)} {oc_law kV_law dc_law pm_law cd_law ct_law : Value}
    (a_key_of : FA K "key_of" s_key_of)
    (a_law_deck : FA K "_law_deck" s_law_deck)
    (a_law_draw : FA K "_law_draw" s_law_draw)
    (a_law_unlike : FA K "_law_unlike" s_law_unlike)
    (a_law_figures : FA K "_law_figures" s_law_figures)
    (a_law_is_key : FA K "_law_is_key" s_law_is_key)
    (a_law : W.nsIn K mainGlobals "law" = some (some (.ref f_law))) (l_law : K.lookup f_law = some ⟨oc_law, od_law, .func (W.fnOf "law" "law" (defArgs s_law) (defBody s_law) (defScope s_law) .none kV_law dc_law pm_law an_law cd_law ct_law), sl_law⟩) (c_law : W.codeIn K cd_law "law" = true) (k_law : W.keepIn K (.ref f_law) = true)
    (z_isinstance : W.nsIn K mainGlobals "isinstance" = some none)
    (z_str : W.nsIn K mainGlobals "str" = some none)
    (z_len : W.nsIn K mainGlobals "len" = some none)
    (z_sum : W.nsIn K mainGlobals "sum" = some none)
    (z_list : W.nsIn K mainGlobals "list" = some none)
    (z_range : W.nsIn K mainGlobals "range" = some none)
    (z_max : W.nsIn K mainGlobals "max" = some none)
    (z_min : W.nsIn K mainGlobals "min" = some none)
    (z_sorted : W.nsIn K mainGlobals "sorted" = some none)
    (z_set : W.nsIn K mainGlobals "set" = some none)
    {a_ENDS : Addr} {its_ENDS : List Value} {dd_ENDS : Option Addr} {n_ENDS : Nat} {sl_ENDS : Array (Option Value)} (y_ENDS : W.nsIn K mainGlobals "ENDS" = some (some (.ref a_ENDS))) (l_ENDS : K.lookup a_ENDS = some ⟨.type "tuple", dd_ENDS, .seq (List.toArray its_ENDS) n_ENDS, sl_ENDS⟩) (v_ENDS : Vals ([V.str ("a" : Str), V.str ("b" : Str)]) its_ENDS)
    : ∃ fd : FuncData, (∀ (s : Shared) (v : Value), BindsTo s fd ⟨[v], []⟩ [("_law_script", v)]) /\ ∀ base : Heap, K.In base -> base.Ns mainGlobals mg -> FnOk l.prog w K mg base CX0 4 fa fd ["_law_script"] (spLaw K) := by
  have e := hfa.symm.trans (W.mg_of X G a_law)
  cases e
  have T : Txt K mg := ⟨W.mg_none_of X G z_isinstance, W.mg_none_of X G z_str, W.mg_none_of X G z_len, W.mg_none_of X G z_sum, W.mg_none_of X G z_list, W.mg_none_of X G z_range, W.mg_none_of X G z_max, W.mg_none_of X G z_min, W.mg_none_of X G z_sorted, W.mg_none_of X G z_set⟩
  have U : Top w.params K mg := ⟨⟨_, W.mg_of X G y_ENDS, fun _ => .inr ⟨_, _, _, l_ENDS, rfl, rfl, by rw [Zst, <- v_ENDS.length]; decide, v_ENDS⟩⟩⟩
  have D_key_of : DefAt K mg "key_of" s_key_of ["name", "number", "place"] := a_key_of.at X G fun _ _ _ _ _ _ us hl => match us, hl with | [_, _, _], _ => rfl
  have D_law_deck : DefAt K mg "_law_deck" s_law_deck ["_law_script"] := a_law_deck.at X G fun _ _ _ _ _ _ us hl => match us, hl with | [_], _ => rfl
  have D_law_draw : DefAt K mg "_law_draw" s_law_draw ["_law_deck_here", "_law_many"] := a_law_draw.at X G fun _ _ _ _ _ _ us hl => match us, hl with | [_, _], _ => rfl
  have D_law_unlike : DefAt K mg "_law_unlike" s_law_unlike ["_law_deck_here", "_law_signs", "_law_longest", "_law_many"] := a_law_unlike.at X G fun _ _ _ _ _ _ us hl => match us, hl with | [_, _, _, _], _ => rfl
  have D_law_figures : DefAt K mg "_law_figures" s_law_figures ["_law_number"] := a_law_figures.at X G fun _ _ _ _ _ _ us hl => match us, hl with | [_], _ => rfl
  have D_law_is_key : DefAt K mg "_law_is_key" s_law_is_key ["_law_text"] := a_law_is_key.at X G fun _ _ _ _ _ _ us hl => match us, hl with | [_], _ => rfl
  refine ⟨W.fnOf "law" "law" (defArgs s_law) (defBody s_law) (defScope s_law) .none kV_law dc_law pm_law an_law cd_law ct_law, fun s v => .of_eq rfl, fun base _ _ => ?_⟩
  have F_law := fun_mk (st := s_law) l_law c_law k_law
  have cd := ok_deck69 (P := l.prog) (w := w) (base := base) T D_law_deck
  have cr := ok_draw69 (P := l.prog) (w := w) (base := base) D_law_draw
  have cu := ok_unlike T cr D_law_unlike
  have cf := ok_figs (P := l.prog) (w := w) (base := base) T D_law_figures
  have ck := ok_iskey (P := l.prog) (w := w) (base := base) T D_law_is_key
  have co := ok_key (P := l.prog) (w := w) (base := base) T U D_key_of
  exact ok_law T cd cr cu cf ck co F_law
theorem walk {l : W.OpenLaw} {q : Program} {loose : List Str} {XP : (Str -> Option Value) -> Heap -> Prop} {YP : World -> Heap -> Prop} {d : DefRec} {K : Params -> W.Frag} (hn : l.most = some 63) (hdf : d.params.defaults = [])
    (hY : ∀ (w : World) (h : Heap), YP w h -> (K w.params).In h)
    (F : ∀ (w : World) (mg : Str -> Option Value) (fa : Addr) (h : Heap), (K w.params).In h -> h.Ns mainGlobals mg -> mg d.name = some (.ref fa) →
      ∃ fd : FuncData, (∀ (s : Shared) (u : Value), BindsTo s fd ⟨[u], []⟩ [("_law_script", u)]) /\ ∀ base : Heap, (K w.params).In base -> base.Ns mainGlobals mg -> FnOk l.prog w (K w.params) mg base CX0 4 fa fd ["_law_script"] (spLaw (K w.params))) :
    W.WalkO q loose XP YP l.row.toRowW d [] (fun f vs => PySem.call f vs) :=
  L2.walk_of (n := 63) (k := 4) (x := "_law_script") (CX := fun _ => CX0) (sp := fun w => spLaw (K w.params)) hn (by decide) hdf ⟨rfl, by decide, by decide⟩ hY F (fun _ _ a ns hl _ hS => ⟨a, ns, rfl, hS, hl, fun _ => rfl⟩) fun _ _ _ _ _ z => z
end KL
def PySem.W.Fast.tw973589745479477763 : Nat := 0
def PySem.W.Fast.tw14403547133232939087 : Nat := 0
def PySem.W.Fast.tw2189504650624596234 : Nat := 0
def PySem.W.Fast.tw2683035502532369024 : Nat := 0
def PySem.W.Fast.tw18162308922598626270 : Nat := 0
open PySem PySem.W PyProof.Rows
set_option maxRecDepth 100000 in
set_option maxHeartbeats 0 in
theorem PySem.Challenge.cw_oncedoor_k69_keys_of_places_holds : PySem.Challenge.rw_oncedoor_k69_keys_of_places.Holds := by
  w_on; o_law; k_head; (case hw => w_witness2)
  k_fill
  refine KL.walk (l := PySem.Challenge.rw_oncedoor_k69_keys_of_places) rfl rfl (fun w h Y => W.kIn_of Y) ?F
  case F =>
    intro w mg fa h KX G hmg; refine' KL.all_mk KX G hmg ?a_key_of ?a_law_deck ?a_law_draw ?a_law_unlike ?a_law_figures ?a_law_is_key ?a_law ?l_law ?c_law ?k_law ?z_isinstance ?z_str ?z_len ?z_sum ?z_list ?z_range ?z_max ?z_min ?z_sorted ?z_set ?y_ENDS ?l_ENDS ?v_ENDS
    (case a_key_of => refine' KL.FA.of ?a ?l ?c ?k; (case a => k_is); (case l => k_is); (case c => k_is); case k => k_is)
    (case a_law_deck => refine' KL.FA.of ?a ?l ?c ?k; (case a => k_is); (case l => k_is); (case c => k_is); case k => k_is)
    (case a_law_draw => refine' KL.FA.of ?a ?l ?c ?k; (case a => k_is); (case l => k_is); (case c => k_is); case k => k_is)
    (case a_law_unlike => refine' KL.FA.of ?a ?l ?c ?k; (case a => k_is); (case l => k_is); (case c => k_is); case k => k_is)
    (case a_law_figures => refine' KL.FA.of ?a ?l ?c ?k; (case a => k_is); (case l => k_is); (case c => k_is); case k => k_is)
    (case a_law_is_key => refine' KL.FA.of ?a ?l ?c ?k; (case a => k_is); (case l => k_is); (case c => k_is); case k => k_is)
    (case a_law => k_is)
    (case l_law => k_is)
    (case c_law => k_is)
    (case k_law => k_is)
    (case z_isinstance => k_is)
    (case z_str => k_is)
    (case z_len => k_is)
    (case z_sum => k_is)
    (case z_list => k_is)
    (case z_range => k_is)
    (case z_max => k_is)
    (case z_min => k_is)
    (case z_sorted => k_is)
    (case z_set => k_is)
    (case y_ENDS => k_is)
    (case l_ENDS => k_is)
    (case v_ENDS => repeat (first | exact .nil | refine .cons ⟨_, rfl⟩ ?_))
