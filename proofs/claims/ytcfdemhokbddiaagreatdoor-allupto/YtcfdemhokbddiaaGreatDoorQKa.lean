/-
  Sorted lists over a strict total order: the place of a key, laying one in. (Plain facts, no program.)
-/
import Derived.Test.YtcfdemhokbddiaaGreatDoorQJ

namespace Go.Proofs.YtcfdemhokbddiaaGreatDoor
open Go.RowKit

/-- A strict total order, told by a Bool. -/
structure LtOk {α : Type} (r : α → α → Bool) : Prop where
  irrefl : ∀ a, r a a = false
  trans : ∀ a b c, r a b = true → r b c = true → r a c = true
  total : ∀ a b, r a b = false → r b a = false → a = b
theorem ltB : LtOk lt := ⟨lt_irrefl, lt_trans, lt_total⟩
def ltI (a b : Int) : Bool := decide (a < b)
theorem ltIok : LtOk ltI := ⟨fun a => by simp [ltI], fun a b c h1 h2 => by simp [ltI] at *; omega, fun a b h1 h2 => by simp [ltI] at *; omega⟩

def kplace {α : Type} (r : α → α → Bool) (t : α) : List α → Nat
  | [] => 0
  | x :: ls => if r x t then kplace r t ls + 1 else 0
def kfnd {α : Type} [DecidableEq α] (r : α → α → Bool) (t : α) (ks : List α) : Bool := match ks[kplace r t ks]? with | some x => decide (x = t) | none => false
def KSrt {α : Type} (r : α → α → Bool) (ks : List α) : Prop := ks.Pairwise fun x y => r x y = true

theorem kplace_le {α : Type} (r : α → α → Bool) (t : α) (ks : List α) : kplace r t ks ≤ ks.length := by
  induction ks with
  | nil => simp [kplace]
  | cons x ls ih => unfold kplace; split <;> simp; omega
theorem kplace_of {α : Type} (r : α → α → Bool) (t : α) (ls : List α) (i : Nat) (hi : i ≤ ls.length) (h1 : ∀ k (h : k < ls.length), k < i → r (ls[k]) t = true) (h2 : ∀ k (h : k < ls.length), i ≤ k → r (ls[k]) t = false) : kplace r t ls = i := by
  induction ls generalizing i with
  | nil => simp at hi; simp [kplace, hi]
  | cons x ls ih =>
    unfold kplace
    cases i with
    | zero => have := h2 0 (by simp) (Nat.le_refl _); simp at this; simp [this]
    | succ i =>
      have := h1 0 (by simp) (by omega); simp at this; simp [this]
      exact ih i (by simpa using hi) (fun k h hk => by have := h1 (k + 1) (by simpa using h) (by omega); simpa using this) (fun k h hk => by have := h2 (k + 1) (by simpa using h) (by omega); simpa using this)
theorem KSrt.get {α : Type} (r : α → α → Bool) {ls : List α} (h : KSrt r ls) (i j : Nat) (hj : j < ls.length) (hij : i < j) : r (ls[i]'(by omega)) (ls[j]) = true :=
  List.pairwise_iff_getElem.1 h i j (by omega) hj hij

def kins {α : Type} (ks : List α) (i : Nat) (x : α) : List α := ks.take i ++ x :: ks.drop i
theorem kins_len {α : Type} (ls : List α) (i : Nat) (x : α) (h : i ≤ ls.length) : (kins ls i x).length = ls.length + 1 := by
  simp [kins]; omega
theorem kfnd_iff {α : Type} [DecidableEq α] {r : α → α → Bool} (hr : LtOk r) (t : α) (ks : List α) (hs : KSrt r ks) : kfnd r t ks = true ↔ t ∈ ks := by
  induction ks with
  | nil => simp [kfnd, kplace]
  | cons y ks ih =>
    have hy := hs
    unfold KSrt at hy
    rw [List.pairwise_cons] at hy
    cases hlt : r y t with
    | true =>
      have e : kfnd r t (y :: ks) = kfnd r t ks := by unfold kfnd; rw [show kplace r t (y :: ks) = kplace r t ks + 1 from by simp [kplace, hlt]]; simp
      rw [e, ih hy.2]
      constructor
      · intro h; simp [h]
      · intro h
        rw [List.mem_cons] at h
        rcases h with rfl | h
        · rw [hr.irrefl] at hlt; cases hlt
        · exact h
    | false =>
      have e : kfnd r t (y :: ks) = decide (y = t) := by unfold kfnd; rw [show kplace r t (y :: ks) = 0 from by simp [kplace, hlt]]; simp
      rw [e]
      constructor
      · intro h; simp at h; simp [h]
      · intro h
        rw [List.mem_cons] at h
        rcases h with rfl | h
        · simp
        · have := hy.1 t h; rw [hlt] at this; cases this
theorem kfnd_get {α : Type} [DecidableEq α] {r : α → α → Bool} (t : α) (ks : List α) (h : kfnd r t ks = true) : ∃ hk : kplace r t ks < ks.length, ks[kplace r t ks] = t := by
  unfold kfnd at h
  split at h
  · rename_i x hx
    obtain ⟨h1, h2⟩ := List.getElem?_eq_some_iff.1 hx
    exact ⟨h1, by rw [h2]; simpa using h⟩
  · cases h
theorem ksrt_ins {α : Type} [DecidableEq α] {r : α → α → Bool} (hr : LtOk r) (acc : List α) (x : α) (h : KSrt r acc) (hf : kfnd r x acc = false) : KSrt r (kins acc (kplace r x acc) x) := by
  induction acc with
  | nil => simp [kins, KSrt]
  | cons y acc ih =>
    have hy := h
    unfold KSrt at hy
    rw [List.pairwise_cons] at hy
    unfold kplace
    cases hlt : r y x with
    | true =>
      have hf' : kfnd r x acc = false := by
        unfold kfnd at hf ⊢; unfold kplace at hf; rw [hlt] at hf; simpa using hf
      have hi := ih hy.2 hf'
      simp only [if_true]
      have e : kins (y :: acc) (kplace r x acc + 1) x = y :: kins acc (kplace r x acc) x := by simp [kins]
      rw [e]
      unfold KSrt; rw [List.pairwise_cons]
      refine ⟨fun z hz => ?_, hi⟩
      simp only [kins, List.mem_append, List.mem_cons] at hz
      rcases hz with hz | rfl | hz
      · exact hy.1 z (List.mem_of_mem_take hz)
      · exact hlt
      · exact hy.1 z (List.mem_of_mem_drop hz)
    | false =>
      simp only [Bool.false_eq_true, if_false]
      have hne : r x y = true := by
        cases h2 : r x y with
        | true => rfl
        | false =>
          have := hr.total _ _ hlt h2
          unfold kfnd at hf; unfold kplace at hf; rw [hlt] at hf; simp [this] at hf
      simp only [kins, List.take_zero, List.drop_zero, List.nil_append]
      unfold KSrt; rw [List.pairwise_cons]
      refine ⟨fun z hz => ?_, h⟩
      simp only [List.mem_cons] at hz
      rcases hz with rfl | hz
      · exact hne
      · exact hr.trans _ _ _ hne (hy.1 z hz)

end Go.Proofs.YtcfdemhokbddiaaGreatDoor

/-
  Rows of pointers, and the keys that their blocks begin with.
-/
namespace Go.Proofs.YtcfdemhokbddiaaGreatDoor
open Go.RowKit

def ptrs (ps : List Nat) : List Value := ps.map fun b => .pointer (some ⟨b, 0, none⟩)
theorem ptrs_len (ps : List Nat) : (ptrs ps).length = ps.length := by simp [ptrs]
theorem ptrs_take (ps : List Nat) (k : Nat) : ptrs (ps.take k) = (ptrs ps).take k := by simp [ptrs, List.map_take]
theorem ptrs_drop (ps : List Nat) (k : Nat) : ptrs (ps.drop k) = (ptrs ps).drop k := by simp [ptrs, List.map_drop]
theorem ptrs_one (ps : List Nat) : ∀ v ∈ ptrs ps, v.oneCell' = true := by
  intro v hv
  simp only [ptrs, List.mem_map] at hv
  obtain ⟨b, _, rfl⟩ := hv
  rfl

/-- The pointers stand at the head of block g. -/
def PtrsAt (w : World) (g : Nat) (ps : List Nat) : Prop := ∀ k (h : k < ps.length), w.cell? ⟨g, k, none⟩ = some (.pointer (some ⟨ps[k], 0, none⟩))
/-- Each block has its key in its second cell. -/
def Keyed (w : World) (ps : List Nat) (ks : List (List UInt8)) : Prop := ps.length = ks.length ∧ ∀ k (h : k < ps.length) (h' : k < ks.length), w.cell? ⟨ps[k], 1, none⟩ = some (.string (B ks[k]))
theorem PtrsAt.gb {w w' : World} {g : Nat} {ps : List Nat} (h : PtrsAt w g ps) (hg : w.grownBy w' none) : PtrsAt w' g ps := fun k hk => gb_cell hg (h k hk) (by simp)
theorem Keyed.gb {w w' : World} {ps : List Nat} {ks : List (List UInt8)} (h : Keyed w ps ks) (hg : w.grownBy w' none) : Keyed w' ps ks := ⟨h.1, fun k hk hk' => gb_cell hg (h.2 k hk hk') (by simp)⟩
theorem keyed_get {w : World} {g : Nat} {ps : List Nat} {ks : List (List UInt8)} (hp : PtrsAt w g ps) (hk : Keyed w ps ks) (k : Nat) (h : k < ks.length) :
    w.cell? ⟨g, k, none⟩ = some (.pointer (some ⟨ps[k]'(by rw [hk.1]; exact h), 0, none⟩)) ∧ w.cell? ⟨ps[k]'(by rw [hk.1]; exact h), 1, none⟩ = some (.string (B ks[k])) :=
  ⟨hp k (by rw [hk.1]; exact h), hk.2 k (by rw [hk.1]; exact h) h⟩

theorem own_cells1 {w : World} {base : Nat} {e : TypeId} {v : Value} {n : Nat} {xs : List Value} {ad : Addr} {l c : Nat} (h : w.ownsRow base e 1 v n xs) (hv : v = .slice (some ad) l c) : ∀ j u, xs[j]? = some u → w.cell? (ad.add j) = some u := by
  subst hv
  rcases h.2 with ⟨h1, _⟩ | ⟨g, cap, cur, h1, _⟩
  · simp at h1
  · simp at h1; obtain ⟨rfl, _⟩ := h1
    exact h.cells (g := g) rfl
theorem ptrsAt_of {w : World} {base : Nat} {e : TypeId} {g n cap : Nat} {ps : List Nat} (h : w.ownsRow base e 1 (.slice (some ⟨g, 0, none⟩) n cap) n (ptrs ps)) : PtrsAt w g ps := by
  intro k hk
  have := own_cells1 h rfl k (.pointer (some ⟨ps[k], 0, none⟩)) (by simp [ptrs, hk])
  rw [Addr.add_lit] at this
  simpa using this
theorem own_shape1 {w : World} {base : Nat} {e : TypeId} {v : Value} {n : Nat} {xs : List Value} (h : w.ownsRow base e 1 v n xs) :
    ∃ sa sc, v = .slice sa n sc ∧ n ≤ sc ∧ ((sa = none ∧ n = 0 ∧ sc = 0) ∨ ∃ g, sa = some ⟨g, 0, none⟩ ∧ g < w.heap.size) := by
  rcases h.2 with ⟨rfl, rfl⟩ | ⟨g, cap, cur, rfl, _, hg, hn, _⟩
  · exact ⟨none, 0, rfl, Nat.le_refl _, Or.inl ⟨rfl, rfl, rfl⟩⟩
  · exact ⟨_, _, rfl, hn, Or.inr ⟨g, rfl, lt_of hg⟩⟩
theorem ownNe (v : Value) : v.ownBlock = none ∨ v.ownBlock ≠ none := by
  cases v.ownBlock <;> simp

end Go.Proofs.YtcfdemhokbddiaaGreatDoor
