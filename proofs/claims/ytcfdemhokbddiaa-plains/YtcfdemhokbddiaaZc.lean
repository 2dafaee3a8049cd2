/-
  Plain facts: sorting and writing; what Plain answers is what the document's reader answers.
-/
import Derived.Test.YtcfdemhokbddiaaZb
import Derived.Test.YtcfdemhokbddiaaW
namespace Go.Proofs.Ytcfdemhokbddiaa
open Go.RowKit

theorem series_rel (l : List UInt8) :
    (∀ o rest, seriesP l.length l = (some o, rest) → ∃ st, runR st0 0 l = .ok st ∧ badEnd st = false ∧ st.name = o.1 ∧ RelL o.2 st.labs ∧ (∀ q ∈ st.labs, q.name ≠ [])) ∧
    (∀ rest, seriesP l.length l = (none, rest) → rest.length ≤ l.length ∧ Fails l.length (l.length - rest.length) (runR st0 0 l)) := by
  have hrun := name_run 0 l [] 0 (by omega)
  have hle := nameLen_le 0 l
  simp only [Nat.zero_add, List.nil_append] at hrun
  have hst := nameLen_stop 0 l
  simp only [Nat.zero_add] at hst
  have hll : (l.drop (nameLen 0 l)).length = l.length - nameLen 0 l := List.length_drop
  have hs0 : runR st0 0 l = runR ⟨0, 0, [], []⟩ 0 l := rfl
  rw [hs0]
  unfold seriesP
  by_cases h0 : nameLen 0 l = 0
  · rw [if_pos h0]
    refine ⟨fun o rest h => by simp at h, fun rest h => ?_⟩
    simp at h; subst h
    refine ⟨Nat.le_refl _, ?_⟩
    cases l with
    | nil => exact (fails_end _ _ (by simp [badEnd])).eq (by simp) (by simp) rfl
    | cons c l =>
      refine (fails_stop _ _ _ _ ?_).eq (by omega) (by omega) rfl
      have := hst c l (by rw [h0]; rfl)
      rw [h0] at this
      unfold stepR; simp only; rw [if_neg (by simp [this]), if_neg (by omega)]
  · rw [if_neg h0]
    have htk : l.take (nameLen 0 l) ≠ [] := by
      intro e
      have : (l.take (nameLen 0 l)).length = 0 := by rw [e]; rfl
      rw [List.length_take] at this; omega
    generalize hk : nameLen 0 l = k at *
    generalize hd : l.drop k = l1 at *
    rw [hrun]
    by_cases he : l1.isEmpty = true
    · rw [if_pos he]
      have he' : l1 = [] := List.isEmpty_iff.1 he
      subst he'
      refine ⟨fun o rest h => ?_, fun rest h => by simp at h⟩
      simp at h
      obtain ⟨rfl, rfl⟩ := h
      refine ⟨_, rfl, ?_, rfl, trivial, by simp⟩
      have : (l.take k).isEmpty = false := by
        cases hc : l.take k with
        | nil => exact absurd hc htk
        | cons a b => rfl
      simp [badEnd, this]
    · rw [if_neg he]
      unfold bracesP
      rcases hq : takeP 123 l1 with _ | l2
      · simp only
        refine ⟨fun o rest h => by simp at h, fun rest h => ?_⟩
        simp at h; subst h
        refine ⟨by omega, ?_⟩
        rcases takeP_none hq with rfl | ⟨c, l', rfl, hc⟩
        · simp at he
        · refine (fails_stop _ _ _ _ ?_).eq (by simp at hll ⊢; omega) (by simp at hll ⊢; omega) rfl
          have := hst c l' rfl
          unfold stepR; simp only; rw [if_neg (by simp [this]), if_neg (by omega)]
      · obtain ⟨c, rfl, hc⟩ := takeP_some hq
        have hs : stepR ⟨0, k, l.take k, []⟩ c k = some ⟨1, 0, l.take k, [] ++ [⟨[], [], k + 1⟩]⟩ := by
          have := hst c l2 rfl
          unfold stepR; simp only; rw [if_neg (by simp [this]), if_pos ⟨by omega, hc⟩]
        rw [run_step _ _ _ _ _ hs]
        simp only
        obtain ⟨i1, i2⟩ := labels_rel l.length 2 l2 (l.take k) [] (k + 1) (by simp at hll; omega) rfl
        rcases hw : labelsP l.length 2 l2 with ⟨o', l3⟩
        cases o' with
        | none =>
          simp only
          refine ⟨fun o rest h => by simp at h, fun rest h => ?_⟩
          simp at h; subst h
          obtain ⟨d1, d2⟩ := i2 _ hw
          exact ⟨by simp at hll; omega, d2⟩
        | some ls =>
          obtain ⟨qs, d1, d2, d3, d4⟩ := i1 _ _ hw
          simp only
          rw [d4]
          cases l3 with
          | nil =>
            simp only [List.isEmpty_nil, if_true]
            refine ⟨fun o rest h => ?_, fun rest h => by simp at h⟩
            simp at h
            obtain ⟨rfl, rfl⟩ := h
            exact ⟨_, rfl, by simp [badEnd], rfl, by simpa using d1, by simpa using d2⟩
          | cons e l3 =>
            simp only [List.isEmpty_cons, Bool.false_eq_true, if_false]
            refine ⟨fun o rest h => by simp at h, fun rest h => ?_⟩
            simp at h; subst h
            refine ⟨by simp at hll; omega, ?_⟩
            left
            rw [run_stop _ _ _ _ rfl]

/-- Related lists. -/
theorem RelL.len {ps qs : List Lab} (h : RelL ps qs) : ps.length = qs.length := by
  induction ps generalizing qs with
  | nil => cases qs with | nil => rfl | cons q qs => exact absurd h (by simp [RelL])
  | cons p ps ih => cases qs with
    | nil => exact absurd h (by simp [RelL])
    | cons q qs => simp [ih h.2]
theorem RelL.get {ps qs : List Lab} (h : RelL ps qs) (i : Nat) (hi : i < ps.length) : VRel ps[i] (qs[i]'(by rw [← h.len]; exact hi)) := by
  induction ps generalizing qs i with
  | nil => simp at hi
  | cons p ps ih => cases qs with
    | nil => exact absurd h (by simp [RelL])
    | cons q qs => cases i with
      | zero => exact h.1
      | succ i => simpa using ih h.2 i (by simpa using hi)
theorem RelL.app {a b c d : List Lab} (h : RelL a b) (k : RelL c d) : RelL (a ++ c) (b ++ d) := by
  induction a generalizing b with
  | nil => cases b with | nil => exact k | cons q qs => exact absurd h (by simp [RelL])
  | cons p ps ih => cases b with
    | nil => exact absurd h (by simp [RelL])
    | cons q qs => exact ⟨h.1, ih h.2⟩
theorem RelL.take {a b : List Lab} (h : RelL a b) (n : Nat) : RelL (a.take n) (b.take n) := by
  induction a generalizing b n with
  | nil => cases b with | nil => simp [RelL] | cons q qs => exact absurd h (by simp [RelL])
  | cons p ps ih => cases b with
    | nil => exact absurd h (by simp [RelL])
    | cons q qs => cases n with
      | zero => trivial
      | succ n => exact ⟨h.1, ih h.2 n⟩
theorem RelL.drop {a b : List Lab} (h : RelL a b) (n : Nat) : RelL (a.drop n) (b.drop n) := by
  induction a generalizing b n with
  | nil => cases b with | nil => simp [RelL] | cons q qs => exact absurd h (by simp [RelL])
  | cons p ps ih => cases b with
    | nil => exact absurd h (by simp [RelL])
    | cons q qs => cases n with
      | zero => exact h
      | succ n => exact ih h.2 n
theorem rel_place {a b : List Lab} (h : RelL a b) (t : List UInt8) : place t a = place t b := by
  induction a generalizing b with
  | nil => cases b with | nil => rfl | cons q qs => exact absurd h (by simp [RelL])
  | cons p ps ih => cases b with
    | nil => exact absurd h (by simp [RelL])
    | cons q qs => unfold place; rw [h.1.1, ih h.2]
theorem rel_fnd {a b : List Lab} (h : RelL a b) (t : List UInt8) : fnd t a = fnd t b := by
  unfold fnd
  rw [rel_place h]
  rcases Nat.lt_or_ge (place t b) a.length with hl | hl
  · rw [List.getElem?_eq_getElem hl, List.getElem?_eq_getElem (by rw [← h.len]; exact hl)]
    simp only
    rw [(h.get _ hl).1]
  · rw [List.getElem?_eq_none hl, List.getElem?_eq_none (by rw [← h.len]; exact hl)]
theorem rel_sort {a b c d : List Lab} (k : Nat) (h : RelL a b) (h2 : RelL c d) :
    (∀ r j, sortP a k c = (some r, j) → ∃ r', sortP b k d = (some r', j) ∧ RelL r r') ∧ (∀ j, sortP a k c = (none, j) → sortP b k d = (none, j)) := by
  induction c generalizing a b d k with
  | nil => cases d with
    | nil => refine ⟨fun r j e => ?_, fun j e => by simp [sortP] at e⟩
             simp [sortP] at e; obtain ⟨rfl, rfl⟩ := e; exact ⟨b, rfl, h⟩
    | cons q qs => exact absurd h2 (by simp [RelL])
  | cons p ps ih => cases d with
    | nil => exact absurd h2 (by simp [RelL])
    | cons q qs =>
      have hn : p.name = q.name := h2.1.1
      unfold sortP
      rw [hn, rel_fnd h]
      split
      · refine ⟨fun r j e => by simp at e, fun j e => ?_⟩
        simp at e; subst e; rfl
      · refine ih (k + 1) ?_ h2.2
        rw [rel_place h]
        exact (h.take _).app ⟨h2.1, h.drop _⟩
theorem rel_out {a b : List Lab} (h : RelL a b) (c : UInt8) : outP c a = outQ c b := by
  induction a generalizing b c with
  | nil => cases b with | nil => rfl | cons q qs => exact absurd h (by simp [RelL])
  | cons p ps ih => cases b with
    | nil => exact absurd h (by simp [RelL])
    | cons q qs =>
      unfold outP outQ
      rw [ih h.2]
      unfold labB labQ
      rw [h.1.1, h.1.2.2]
theorem rel_plain {a b : List Lab} (h : RelL a b) (nm : List UInt8) : plainB nm a = plainQ nm b := by
  unfold plainB plainQ
  rw [rel_out h]
  have : a.isEmpty = b.isEmpty := by
    have := h.len
    cases a <;> cases b <;> simp at this ⊢
  rw [this]

end Go.Proofs.Ytcfdemhokbddiaa
