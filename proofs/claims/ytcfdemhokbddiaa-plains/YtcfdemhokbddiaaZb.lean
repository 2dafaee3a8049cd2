/-
  Plain facts: labels and whole texts, read by the program and by the document's reader.
-/
import Derived.Test.YtcfdemhokbddiaaZa
namespace Go.Proofs.Ytcfdemhokbddiaa
open Go.RowKit

theorem takeP_some {c : Nat} {l l' : List UInt8} (h : takeP c l = some l') : ∃ x, l = x :: l' ∧ x.toNat = c := by
  cases l with
  | nil => simp [takeP] at h
  | cons y l =>
    simp [takeP] at h
    obtain ⟨h1, rfl⟩ := h
    exact ⟨y, rfl, h1⟩
theorem takeP_none {c : Nat} {l : List UInt8} (h : takeP c l = none) : l = [] ∨ ∃ x l', l = x :: l' ∧ x.toNat ≠ c := by
  cases l with
  | nil => exact Or.inl rfl
  | cons y l =>
    simp [takeP] at h
    exact Or.inr ⟨y, l, rfl, h⟩

theorem label_rel (l : List UInt8) (nm : List UInt8) (a : List Lab) (p i : Nat) :
    (∀ o rest, labelP l = (some o, rest) → ∃ raw, o.2.flatMap escB = plainV raw ∧ o.1 ≠ [] ∧ rest.length < l.length ∧ runR ⟨1, 0, nm, a ++ [⟨[], [], p⟩]⟩ i l = runR ⟨5, 0, nm, a ++ [⟨o.1, raw, p⟩]⟩ (i + l.length - rest.length) rest) ∧
    (∀ rest, labelP l = (none, rest) → rest.length ≤ l.length ∧ Fails (i + l.length) (i + l.length - rest.length) (runR ⟨1, 0, nm, a ++ [⟨[], [], p⟩]⟩ i l)) := by
  have hrun := label_run 0 l nm a ⟨[], [], p⟩ i (by omega)
  have hle := nameLen_le 0 l
  simp only [Nat.zero_add, List.nil_append] at hrun
  have hst := nameLen_stop 0 l
  simp only [Nat.zero_add] at hst
  have hll : (l.drop (nameLen 0 l)).length = l.length - nameLen 0 l := List.length_drop
  unfold labelP
  by_cases h0 : nameLen 0 l = 0
  · rw [if_pos h0]
    refine ⟨fun o rest h => by simp at h, fun rest h => ?_⟩
    simp at h; subst h
    refine ⟨Nat.le_refl _, ?_⟩
    cases l with
    | nil => exact fails_end _ _ (by simp [badEnd])
    | cons c l =>
      refine fails_stop _ _ _ _ ?_
      have := hst c l (by rw [h0]; rfl)
      rw [h0] at this
      unfold stepR; simp only; rw [if_neg (by simp [this]), if_neg (by omega)]
  · rw [if_neg h0]
    generalize hk : nameLen 0 l = k at *
    generalize hd : l.drop k = l1 at *
    rcases hq : takeP 61 l1 with _ | l2
    · simp only
      refine ⟨fun o rest h => by simp at h, fun rest h => ?_⟩
      simp at h; subst h
      refine ⟨by omega, ?_⟩
      rw [hrun]
      rcases takeP_none hq with rfl | ⟨c, l', rfl, hc⟩
      · exact (fails_end _ _ (by simp [badEnd])).eq (by simp at hll ⊢; omega) (by simp at hll ⊢; omega) rfl
      · refine (fails_stop _ _ _ _ ?_).eq (by simp at hll ⊢; omega) (by simp at hll ⊢; omega) rfl
        have := hst c l' rfl
        unfold stepR; simp only; rw [if_neg (by simp [this]), if_neg (by omega)]
    · obtain ⟨c, rfl, hc⟩ := takeP_some hq
      have hs : stepR ⟨1, k, nm, a ++ [⟨l.take k, [], p⟩]⟩ c (i + k) = some ⟨2, 0, nm, a ++ [⟨l.take k, [], p⟩]⟩ := by
        have := hst c l2 rfl
        unfold stepR; simp only; rw [if_neg (by simp [this]), if_pos ⟨by omega, hc⟩]
      rw [hrun, run_step _ _ _ _ _ hs]
      simp only
      rcases hq2 : takeP 34 l2 with _ | l3
      · simp only
        refine ⟨fun o rest h => by simp at h, fun rest h => ?_⟩
        simp at h; subst h
        refine ⟨by simp at hll; omega, ?_⟩
        rcases takeP_none hq2 with rfl | ⟨c', l', rfl, hc'⟩
        · exact (fails_end _ _ (by simp [badEnd])).eq (by simp at hll ⊢; omega) (by simp at hll ⊢; omega) rfl
        · refine (fails_stop _ _ _ _ ?_).eq (by simp at hll ⊢; omega) (by simp at hll ⊢; omega) rfl
          simp [stepR, hc']
      · obtain ⟨c2, rfl, hc2⟩ := takeP_some hq2
        have hs2 : stepR ⟨2, 0, nm, a ++ [⟨l.take k, [], p⟩]⟩ c2 (i + k + 1) = some ⟨3, 0, nm, a ++ [⟨l.take k, [], p⟩]⟩ := by simp [stepR, hc2]
        rw [run_step _ _ _ _ _ hs2]
        simp only
        obtain ⟨v1, v2⟩ := val_run 16 0 rfl l3 nm a ⟨l.take k, [], p⟩ (i + k + 1 + 1)
        have htk : l.take k ≠ [] := by
          intro e
          have : (l.take k).length = 0 := by rw [e]; rfl
          rw [List.length_take] at this; omega
        rcases hv : valP 16 l3 with ⟨o', l4⟩
        cases o' with
        | none =>
          simp only
          refine ⟨fun o rest h => by simp at h, fun rest h => ?_⟩
          simp at h; subst h
          obtain ⟨e1, e2⟩ := v2 _ hv
          exact ⟨by simp at hll; omega, e2.eq (by simp at hll; omega) (by simp at hll; omega) rfl⟩
        | some v =>
          simp only
          refine ⟨fun o rest h => ?_, fun rest h => by simp at h⟩
          simp at h
          obtain ⟨rfl, rfl⟩ := h
          obtain ⟨raw, e1, e2, e3⟩ := v1 _ _ hv
          refine ⟨raw, e1, htk, by simp at hll; omega, ?_⟩
          rw [e3]
          simp only [List.nil_append]
          congr 1
          simp at hll; omega

theorem close_rel (N : Nat) (x y : Lab) (l : List UInt8) (nm : List UInt8) (a : List Lab) (i : Nat) (hN : i + l.length = N) (hc : ∀ c l', l = c :: l' → c.toNat = 44 → ¬ (a ++ [y]).length ≤ 2) :
    (∀ ls rest, closeP x l = (some ls, rest) → ls = [x] ∧ rest.length < l.length ∧ runR ⟨5, 0, nm, a ++ [y]⟩ i l = runR ⟨6, 0, nm, a ++ [y]⟩ (N - rest.length) rest) ∧
    (∀ rest, closeP x l = (none, rest) → rest.length ≤ l.length ∧ Fails N (N - rest.length) (runR ⟨5, 0, nm, a ++ [y]⟩ i l)) := by
  unfold closeP
  rcases hq : takeP 125 l with _ | l2
  · simp only
    refine ⟨fun ls rest h => by simp at h, fun rest h => ?_⟩
    simp at h; subst h
    refine ⟨Nat.le_refl _, ?_⟩
    rcases takeP_none hq with rfl | ⟨c, l', rfl, hc'⟩
    · exact (fails_end _ _ (by simp [badEnd])).eq hN (by omega) rfl
    · refine (fails_stop _ _ _ _ ?_).eq hN (by omega) rfl
      unfold stepR; simp only; rw [if_neg (fun h => hc c l' rfl h.1 h.2), if_neg hc']
  · obtain ⟨c, rfl, hc'⟩ := takeP_some hq
    simp only
    refine ⟨fun ls rest h => ?_, fun rest h => by simp at h⟩
    simp at h
    obtain ⟨rfl, rfl⟩ := h
    have hs : stepR ⟨5, 0, nm, a ++ [y]⟩ c i = some ⟨6, 0, nm, a ++ [y]⟩ := by
      unfold stepR; simp only; rw [if_neg (by omega), if_pos hc']
    refine ⟨rfl, by simp, ?_⟩
    rw [run_step _ _ _ _ _ hs]
    congr 1
    simp at hN; omega

theorem labels_rel (N r : Nat) (l : List UInt8) (nm : List UInt8) (a : List Lab) (i : Nat) (hN : i + l.length = N) (ha : a.length + r = 2) :
    (∀ ls rest, labelsP N r l = (some ls, rest) → ∃ qs, RelL ls qs ∧ (∀ q ∈ qs, q.name ≠ []) ∧ rest.length < l.length ∧ runR ⟨1, 0, nm, a ++ [⟨[], [], i⟩]⟩ i l = runR ⟨6, 0, nm, a ++ qs⟩ (N - rest.length) rest) ∧
    (∀ rest, labelsP N r l = (none, rest) → rest.length ≤ l.length ∧ Fails N (N - rest.length) (runR ⟨1, 0, nm, a ++ [⟨[], [], i⟩]⟩ i l)) := by
  have hat : N - l.length = i := by omega
  induction r generalizing l a i with
  | zero =>
    obtain ⟨L1, L2⟩ := label_rel l nm a i i
    rcases hp : labelP l with ⟨o, l1⟩
    cases o with
    | none =>
      rw [labelsP_none _ _ _ _ hp]
      refine ⟨fun ls rest h => by simp at h, fun rest h => ?_⟩
      simp at h; subst h
      obtain ⟨e1, e2⟩ := L2 _ hp
      exact ⟨e1, e2.eq hN (by omega) rfl⟩
    | some p =>
      rw [labelsP_zero _ _ _ _ hp, hat]
      obtain ⟨raw, e1, e2, e3, e4⟩ := L1 _ _ hp
      have hv : VRel ⟨p.1, p.2, i⟩ ⟨p.1, raw, i⟩ := ⟨rfl, rfl, e1⟩
      obtain ⟨c1, c2⟩ := close_rel N ⟨p.1, p.2, i⟩ ⟨p.1, raw, i⟩ l1 nm a (i + l.length - l1.length) (by omega) (fun c l' _ _ => by simp; omega)
      rw [e4]
      refine ⟨fun ls rest h => ?_, fun rest h => ?_⟩
      · obtain ⟨rfl, d2, d3⟩ := c1 _ _ h
        exact ⟨[⟨p.1, raw, i⟩], ⟨hv, trivial⟩, by simpa using e2, by omega, d3⟩
      · obtain ⟨d1, d2⟩ := c2 _ h
        exact ⟨by omega, d2⟩
  | succ r ih =>
    obtain ⟨L1, L2⟩ := label_rel l nm a i i
    rcases hp : labelP l with ⟨o, l1⟩
    cases o with
    | none =>
      rw [labelsP_none _ _ _ _ hp]
      refine ⟨fun ls rest h => by simp at h, fun rest h => ?_⟩
      simp at h; subst h
      obtain ⟨e1, e2⟩ := L2 _ hp
      exact ⟨e1, e2.eq hN (by omega) rfl⟩
    | some p =>
      obtain ⟨raw, e1, e2, e3, e4⟩ := L1 _ _ hp
      have hv : VRel ⟨p.1, p.2, i⟩ ⟨p.1, raw, i⟩ := ⟨rfl, rfl, e1⟩
      rw [e4]
      rcases hq : takeP 44 l1 with _ | l2
      · rw [labelsP_stop _ _ _ _ _ hp hq, hat]
        obtain ⟨c1, c2⟩ := close_rel N ⟨p.1, p.2, i⟩ ⟨p.1, raw, i⟩ l1 nm a (i + l.length - l1.length) (by omega) (fun c l' he h44 => by
          rcases takeP_none hq with h | ⟨x, l'', h, hx⟩
          · rw [h] at he; cases he
          · rw [h] at he; cases he; exact absurd h44 hx)
        refine ⟨fun ls rest h => ?_, fun rest h => ?_⟩
        · obtain ⟨rfl, d2, d3⟩ := c1 _ _ h
          exact ⟨[⟨p.1, raw, i⟩], ⟨hv, trivial⟩, by simpa using e2, by omega, d3⟩
        · obtain ⟨d1, d2⟩ := c2 _ h
          exact ⟨by omega, d2⟩
      · rw [labelsP_more _ _ _ _ _ _ hp hq, hat]
        obtain ⟨c, rfl, hc⟩ := takeP_some hq
        have hs : stepR ⟨5, 0, nm, a ++ [⟨p.1, raw, i⟩]⟩ c (i + l.length - (c :: l2).length) = some ⟨1, 0, nm, (a ++ [⟨p.1, raw, i⟩]) ++ [⟨[], [], i + l.length - (c :: l2).length + 1⟩]⟩ := by
          unfold stepR; simp only; rw [if_pos ⟨hc, by simp; omega⟩]
        rw [run_step _ _ _ _ _ hs]
        simp only [List.length_cons] at e3
        obtain ⟨i1, i2⟩ := ih l2 (a ++ [⟨p.1, raw, i⟩]) (i + l.length - (c :: l2).length + 1) (by simp; omega) (by simp; omega) (by simp; omega)
        refine ⟨fun ls rest h => ?_, fun rest h => ?_⟩
        · rcases hw : labelsP N r l2 with ⟨o', l3⟩
          rw [hw] at h
          cases o' with
          | none => simp [prepL] at h
          | some ls' =>
            simp [prepL] at h
            obtain ⟨rfl, rfl⟩ := h
            obtain ⟨qs, d1, d2, d3, d4⟩ := i1 _ _ hw
            refine ⟨⟨p.1, raw, i⟩ :: qs, ⟨hv, d1⟩, ?_, by omega, ?_⟩
            · intro q hq
              simp at hq
              rcases hq with rfl | hq
              · exact e2
              · exact d2 q hq
            · rw [d4]; simp
        · rcases hw : labelsP N r l2 with ⟨o', l3⟩
          rw [hw] at h
          cases o' with
          | some ls' => simp [prepL] at h
          | none =>
            simp [prepL] at h
            subst h
            obtain ⟨d1, d2⟩ := i2 _ hw
            exact ⟨by omega, d2⟩

end Go.Proofs.Ytcfdemhokbddiaa
