/-
  Bytes in Go's order: the order is strict and total; the place of a name among sorted names.
-/
import Derived.Test.YtcfdemhokbddiaaG
import Derived.Lib.Strings
namespace Go.Proofs.Ytcfdemhokbddiaa
open Go.RowKit

/-- Go's order of strings. -/
def lt (a b : List UInt8) : Bool := Op.bytesLess a b
theorem lt_irrefl : ∀ a, lt a a = false := by
  intro a; unfold lt
  induction a with
  | nil => rfl
  | cons x a ih => simp [Op.bytesLess, ih]
theorem lt_trans : ∀ a b c, lt a b = true → lt b c = true → lt a c = true := by
  unfold lt
  intro a
  induction a with
  | nil =>
    intro b c h1 h2
    cases c with
    | nil => cases b <;> simp [Op.bytesLess] at h2
    | cons z c => simp [Op.bytesLess]
  | cons x a ih =>
    intro b c h1 h2
    cases b with
    | nil => simp [Op.bytesLess] at h1
    | cons y b =>
      cases c with
      | nil => simp [Op.bytesLess] at h2
      | cons z c =>
        simp [Op.bytesLess] at h1 h2 ⊢
        rcases h1 with h1 | ⟨rfl, h1⟩ <;> rcases h2 with h2 | ⟨rfl, h2⟩
        · left; exact UInt8.lt_trans h1 h2
        · left; exact h1
        · left; exact h2
        · right; exact ⟨rfl, ih _ _ h1 h2⟩
theorem lt_total : ∀ a b, lt a b = false → lt b a = false → a = b := by
  unfold lt
  intro a
  induction a with
  | nil => intro b h1 h2; cases b with | nil => rfl | cons y b => simp [Op.bytesLess] at h1
  | cons x a ih =>
    intro b h1 h2
    cases b with
    | nil => simp [Op.bytesLess] at h2
    | cons y b =>
      simp [Op.bytesLess] at h1 h2
      have hxy : x = y := by
        rcases UInt8.lt_or_lt_of_ne (a := x) (b := y) with h
        by_cases e : x = y
        · exact e
        · rcases UInt8.lt_or_lt_of_ne e with h | h
          · exact absurd h (by have := h1.1; exact UInt8.not_lt.2 this)
          · exact absurd h (by have := h2.1; exact UInt8.not_lt.2 this)
      subst hxy
      rw [ih b (h1.2 rfl) (h2.2 rfl)]
theorem lt_asymm (a b : List UInt8) (h : lt a b = true) : lt b a = false := by
  cases h2 : lt b a with
  | false => rfl
  | true => have := lt_trans a b a h h2; rw [lt_irrefl] at this; cases this

theorem toList_B (l : List UInt8) : (B l).toList = l := by rw [Lib.toList_data]; rfl

/-- What cmp.Compare answers. -/
def cmpB (a b : List UInt8) : Int := if lt a b then -1 else if a = b then 0 else 1

/-- Where a name stands, or would have to. -/
def place (t : List UInt8) : List Lab → Nat
  | [] => 0
  | x :: ls => if lt x.name t then place t ls + 1 else 0
theorem place_le (t : List UInt8) (ls : List Lab) : place t ls ≤ ls.length := by
  induction ls with
  | nil => simp [place]
  | cons x ls ih => unfold place; split <;> simp; omega
theorem place_of (t : List UInt8) (ls : List Lab) (i : Nat) (hi : i ≤ ls.length) (h1 : ∀ k (h : k < ls.length), k < i → lt (ls[k]).name t = true) (h2 : ∀ k (h : k < ls.length), i ≤ k → lt (ls[k]).name t = false) : place t ls = i := by
  induction ls generalizing i with
  | nil => simp at hi; simp [place, hi]
  | cons x ls ih =>
    unfold place
    cases i with
    | zero => have := h2 0 (by simp) (Nat.le_refl _); simp at this; simp [this]
    | succ i =>
      have := h1 0 (by simp) (by omega); simp at this; simp [this]
      exact ih i (by simpa using hi) (fun k h hk => by have := h1 (k + 1) (by simpa using h) (by omega); simpa using this) (fun k h hk => by have := h2 (k + 1) (by simpa using h) (by omega); simpa using this)

/-- Sorted by name, no name twice. -/
def Srt (ls : List Lab) : Prop := ls.Pairwise fun x y => lt x.name y.name = true
theorem Srt.get {ls : List Lab} (h : Srt ls) (i j : Nat) (hj : j < ls.length) (hij : i < j) : lt (ls[i]'(by omega)).name (ls[j]).name = true :=
  List.pairwise_iff_getElem.1 h i j (by omega) hj hij

theorem labCells_get (ls : List Lab) (k : Nat) (hk : k < ls.length) :
    (labCells ls)[k * 3]? = some (.string (B (ls[k]).name)) ∧ (labCells ls)[k * 3 + 1]? = some (.string (B (ls[k]).val)) ∧ (labCells ls)[k * 3 + 2]? = some (.int .i64 ((ls[k]).at_ : Int)) := by
  induction ls generalizing k with
  | nil => simp at hk
  | cons x ls ih =>
    have e : labCells (x :: ls) = x.cells ++ labCells ls := by simp [labCells]
    cases k with
    | zero => rw [e]; simp [Lab.cells]
    | succ k =>
      have := ih k (by simpa using hk)
      rw [e]
      rw [List.getElem?_append_right (by simp [Lab.cells]; omega), List.getElem?_append_right (by simp [Lab.cells]; omega), List.getElem?_append_right (by simp [Lab.cells]; omega)]
      simp only [Lab.cells, List.length_cons, List.length_nil, List.getElem_cons_succ]
      rw [show (k + 1) * 3 - (0 + 1 + 1 + 1) = k * 3 from by omega, show (k + 1) * 3 + 1 - (0 + 1 + 1 + 1) = k * 3 + 1 from by omega, show (k + 1) * 3 + 2 - (0 + 1 + 1 + 1) = k * 3 + 2 from by omega]
      exact this

end Go.Proofs.Ytcfdemhokbddiaa
