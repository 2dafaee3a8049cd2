/-
  Plain facts: the program's reading and the document's reading of a text come to the same.
-/
import Derived.Test.YtcfdemhokbddiaaV
namespace Go.Proofs.Ytcfdemhokbddiaa
open Go.RowKit

/-- What the document's run comes to, seen as an answer. -/
def Fails (N : Nat) (p : Nat) (x : Except Nat St) : Prop := x = .error p ∨ ∃ st, x = .ok st ∧ badEnd st = true ∧ p = N

theorem name_run (k : Nat) (l : List UInt8) (nm : List UInt8) (i : Nat) (hk : k ≤ 12) :
    runR ⟨0, k, nm, []⟩ i l = runR ⟨0, k + nameLen k l, nm ++ l.take (nameLen k l), []⟩ (i + nameLen k l) (l.drop (nameLen k l)) := by
  induction l generalizing k nm i with
  | nil => simp [nameLen]
  | cons c l ih =>
    unfold nameLen
    split
    · rename_i h
      have hs : stepR ⟨0, k, nm, []⟩ c i = some ⟨0, k + 1, nm ++ [c], []⟩ := by
        unfold stepR; simp only; rw [if_pos (by simpa [goesB] using h)]
      conv => lhs; unfold runR
      rw [hs]
      simp only
      rw [ih (k + 1) (nm ++ [c]) (i + 1) (by omega)]
      rw [show 1 + nameLen (k + 1) l = nameLen (k + 1) l + 1 from by omega]
      simp only [List.take_succ_cons, List.drop_succ_cons, List.append_assoc, List.singleton_append]
      rw [show k + 1 + nameLen (k + 1) l = k + (nameLen (k + 1) l + 1) from by omega, show i + 1 + nameLen (k + 1) l = i + (nameLen (k + 1) l + 1) from by omega]
    · simp
theorem label_run (k : Nat) (l : List UInt8) (nm : List UInt8) (a : List Lab) (x : Lab) (i : Nat) (hk : k ≤ 12) :
    runR ⟨1, k, nm, a ++ [x]⟩ i l = runR ⟨1, k + nameLen k l, nm, a ++ [{ x with name := x.name ++ l.take (nameLen k l) }]⟩ (i + nameLen k l) (l.drop (nameLen k l)) := by
  induction l generalizing k x i with
  | nil => simp [nameLen]
  | cons c l ih =>
    unfold nameLen
    split
    · rename_i h
      have hs : stepR ⟨1, k, nm, a ++ [x]⟩ c i = some ⟨1, k + 1, nm, a ++ [{ x with name := x.name ++ [c] }]⟩ := by
        unfold stepR; simp only; rw [if_pos (by simpa [goesB] using h), modLast_snoc]
      conv => lhs; unfold runR
      rw [hs]
      simp only
      rw [ih (k + 1) _ (i + 1) (by omega)]
      rw [show 1 + nameLen (k + 1) l = nameLen (k + 1) l + 1 from by omega]
      simp only [List.take_succ_cons, List.drop_succ_cons, List.append_assoc, List.singleton_append]
      rw [show k + 1 + nameLen (k + 1) l = k + (nameLen (k + 1) l + 1) from by omega, show i + 1 + nameLen (k + 1) l = i + (nameLen (k + 1) l + 1) from by omega]
    · simp

/-- Behind the bytes of a name no byte of a name follows. -/
theorem nameLen_stop (k : Nat) (l : List UInt8) (c : UInt8) (l' : List UInt8) (h : l.drop (nameLen k l) = c :: l') : goesB (k + nameLen k l) (c.toNat : Int) = false := by
  induction l generalizing k with
  | nil => simp at h
  | cons d l ih =>
    unfold nameLen at h ⊢
    split at h
    · rename_i hd
      rw [if_pos hd]
      rw [show 1 + nameLen (k + 1) l = nameLen (k + 1) l + 1 from by omega] at h ⊢
      simp only [List.drop_succ_cons] at h
      have := ih (k + 1) h
      rw [show k + (nameLen (k + 1) l + 1) = k + 1 + nameLen (k + 1) l from by omega]
      exact this
    · rename_i hd
      rw [if_neg hd]
      simp only [List.drop_zero, List.cons.injEq] at h
      rw [← h.1]
      simpa [goesB] using hd

/-- A label of the program's reading and the document's: the same name and place; what the plain form writes of their values is the same. -/
def VRel (p q : Lab) : Prop := p.name = q.name ∧ p.at_ = q.at_ ∧ p.val.flatMap escB = plainV q.val
def RelL : List Lab → List Lab → Prop
  | [], [] => True
  | p :: ps, q :: qs => VRel p q ∧ RelL ps qs
  | _, _ => False

theorem run_step (st st' : St) (c : UInt8) (i : Nat) (l : List UInt8) (h : stepR st c i = some st') : runR st i (c :: l) = runR st' (i + 1) l := by
  conv => lhs; unfold runR
  rw [h]
theorem run_stop (st : St) (c : UInt8) (i : Nat) (l : List UInt8) (h : stepR st c i = none) : runR st i (c :: l) = .error i := by
  unfold runR; rw [h]
theorem fails_stop (st : St) (c : UInt8) (i : Nat) (l : List UInt8) (h : stepR st c i = none) : Fails (i + (c :: l).length) (i + (c :: l).length - (c :: l).length) (runR st i (c :: l)) := by
  left; rw [run_stop _ _ _ _ h]; congr 1; omega
theorem fails_end (st : St) (i : Nat) (h : badEnd st = true) : Fails (i + ([] : List UInt8).length) (i + ([] : List UInt8).length - ([] : List UInt8).length) (runR st i []) := by
  right; exact ⟨st, rfl, h, by simp⟩
theorem Fails.eq {N N' p p' : Nat} {x y : Except Nat St} (h : Fails N p x) (hN : N = N') (hp : p = p') (hx : y = x) : Fails N' p' y := by
  subst hN; subst hp; subst hx; exact h

theorem val_run (r : Nat) (k : Nat) (hk : k + r = 16) (l : List UInt8) (nm : List UInt8) (a : List Lab) (x : Lab) (i : Nat) :
    (∀ v rest, valP r l = (some v, rest) → ∃ raw, v.flatMap escB = plainV raw ∧ rest.length < l.length ∧ runR ⟨3, k, nm, a ++ [x]⟩ i l = runR ⟨5, 0, nm, a ++ [{ x with val := x.val ++ raw }]⟩ (i + l.length - rest.length) rest) ∧
    (∀ rest, valP r l = (none, rest) → rest.length ≤ l.length ∧ Fails (i + l.length) (i + l.length - rest.length) (runR ⟨3, k, nm, a ++ [x]⟩ i l)) := by
  induction r generalizing k l x i with
  | zero =>
    cases l with
    | nil =>
      refine ⟨fun v rest h => by simp [valP] at h, fun rest h => ?_⟩
      simp [valP] at h; subst h
      exact ⟨Nat.le_refl _, fails_end _ _ (by simp [badEnd])⟩
    | cons c l =>
      by_cases hc : c.toNat = 34
      · have hs : stepR ⟨3, k, nm, a ++ [x]⟩ c i = some ⟨5, 0, nm, a ++ [x]⟩ := by simp [stepR, hc]
        refine ⟨fun v rest h => ?_, fun rest h => by simp [valP, hc] at h⟩
        simp [valP, hc] at h
        obtain ⟨rfl, rfl⟩ := h
        refine ⟨[], rfl, by simp, ?_⟩
        rw [run_step _ _ _ _ _ hs]; simp
        congr 1; omega
      · have hs : stepR ⟨3, k, nm, a ++ [x]⟩ c i = none := by simp [stepR, hc]; omega
        refine ⟨fun v rest h => by simp [valP, hc] at h, fun rest h => ?_⟩
        simp [valP, hc] at h; subst h
        exact ⟨Nat.le_refl _, fails_stop _ _ _ _ hs⟩
  | succ r ih =>
    cases l with
    | nil =>
      refine ⟨fun v rest h => by simp [valP] at h, fun rest h => ?_⟩
      simp [valP] at h; subst h
      exact ⟨Nat.le_refl _, fails_end _ _ (by simp [badEnd])⟩
    | cons c l =>
      by_cases hc : c.toNat = 34
      · have hs : stepR ⟨3, k, nm, a ++ [x]⟩ c i = some ⟨5, 0, nm, a ++ [x]⟩ := by simp [stepR, hc]
        refine ⟨fun v rest h => ?_, fun rest h => by simp [valP, hc] at h⟩
        simp [valP, hc] at h
        obtain ⟨rfl, rfl⟩ := h
        refine ⟨[], rfl, by simp, ?_⟩
        rw [run_step _ _ _ _ _ hs]; simp
        congr 1; omega
      · have hh : ∀ y ∈ (c :: l).head?, y.toNat ≠ 34 := by simpa using hc
        by_cases h92 : c.toNat = 92
        · have hc92 : c = 92 := UInt8.toNat_inj.1 (by rw [h92]; rfl)
          have hs : stepR ⟨3, k, nm, a ++ [x]⟩ c i = some ⟨4, k + 1, nm, a ++ [{ x with val := x.val ++ [c] }]⟩ := by
            simp [stepR, h92, modLast_snoc]; omega
          rw [run_step _ _ _ _ _ hs]
          cases l with
          | nil =>
            have hv : vbP [c] = (none, []) := by simp [vbP, h92, escP]
            refine ⟨fun v rest h => by rw [valP_none r _ _ hh hv] at h; simp at h, fun rest h => ?_⟩
            rw [valP_none r _ _ hh hv] at h; simp at h; subst h
            exact ⟨by simp, (fails_end _ _ (by simp [badEnd])).eq (by simp) (by simp) rfl⟩
          | cons d l =>
            by_cases hd : d.toNat = 34 ∨ d.toNat = 92 ∨ d.toNat = 110
            · have hs2 : stepR ⟨4, k + 1, nm, a ++ [{ x with val := x.val ++ [c] }]⟩ d (i + 1) = some ⟨3, k + 1, nm, a ++ [{ x with val := x.val ++ [c] ++ [d] }]⟩ := by
                simp [stepR, hd, modLast_snoc]
              rw [run_step _ _ _ _ _ hs2]
              obtain ⟨y, hv, hy⟩ : ∃ y, vbP (c :: d :: l) = (some y, l) ∧ escB y = plainV [c, d] := by
                rcases hd with h | h | h
                · refine ⟨34, by simp [vbP, h92, escP, h], ?_⟩
                  have : d = 34 := UInt8.toNat_inj.1 (by rw [h]; rfl)
                  subst this; subst hc92; decide
                · refine ⟨92, by simp [vbP, h92, escP, h], ?_⟩
                  have : d = 92 := UInt8.toNat_inj.1 (by rw [h]; rfl)
                  subst this; subst hc92; decide
                · refine ⟨10, by simp [vbP, h92, escP, h], ?_⟩
                  have : d = 110 := UInt8.toNat_inj.1 (by rw [h]; rfl)
                  subst this; subst hc92; decide
              obtain ⟨i1, i2⟩ := ih (k + 1) (by omega) l { x with val := x.val ++ [c] ++ [d] } (i + 1 + 1)
              rw [valP_some r _ _ _ hh hv]
              refine ⟨fun v rest h => ?_, fun rest h => ?_⟩
              · rcases hq : valP r l with ⟨o, l''⟩
                rw [hq] at h
                cases o with
                | none => simp [prep] at h
                | some v' =>
                  simp [prep] at h
                  obtain ⟨rfl, rfl⟩ := h
                  obtain ⟨raw, e1, e2, e3⟩ := i1 v' l'' hq
                  refine ⟨[c, d] ++ raw, ?_, by simp; omega, ?_⟩
                  · rw [List.flatMap_cons, hy, e1]; simp [plainV]
                  · rw [e3]; simp only [List.length_cons, List.append_assoc, List.cons_append, List.nil_append]
                    congr 1; omega
              · rcases hq : valP r l with ⟨o, l''⟩
                rw [hq] at h
                cases o with
                | some v' => simp [prep] at h
                | none =>
                  simp [prep] at h
                  subst h
                  obtain ⟨e1, e2⟩ := i2 l'' hq
                  exact ⟨by simp; omega, e2.eq (by simp; omega) (by simp; omega) rfl⟩
            · have hs2 : stepR ⟨4, k + 1, nm, a ++ [{ x with val := x.val ++ [c] }]⟩ d (i + 1) = none := by simp [stepR, hd]
              have hv : vbP (c :: d :: l) = (none, d :: l) := by
                simp only [not_or] at hd
                simp [vbP, h92, escP, hd.1, hd.2.1, hd.2.2]
              refine ⟨fun v rest h => by rw [valP_none r _ _ hh hv] at h; simp at h, fun rest h => ?_⟩
              rw [valP_none r _ _ hh hv] at h; simp at h; subst h
              exact ⟨by simp, (fails_stop _ _ _ _ hs2).eq (by simp; omega) (by simp; omega) rfl⟩
        · have hs : stepR ⟨3, k, nm, a ++ [x]⟩ c i = some ⟨3, k + 1, nm, a ++ [{ x with val := x.val ++ [c] }]⟩ := by
            simp [stepR, hc, h92, modLast_snoc]; omega
          rw [run_step _ _ _ _ _ hs]
          have hv : vbP (c :: l) = (some c, l) := by simp [vbP, h92]
          have hy : escB c = plainV [c] := by
            unfold escB plainV pvB; simp [hc, h92]
          obtain ⟨i1, i2⟩ := ih (k + 1) (by omega) l { x with val := x.val ++ [c] } (i + 1)
          rw [valP_some r _ _ _ hh hv]
          refine ⟨fun v rest h => ?_, fun rest h => ?_⟩
          · rcases hq : valP r l with ⟨o, l''⟩
            rw [hq] at h
            cases o with
            | none => simp [prep] at h
            | some v' =>
              simp [prep] at h
              obtain ⟨rfl, rfl⟩ := h
              obtain ⟨raw, e1, e2, e3⟩ := i1 v' l'' hq
              refine ⟨[c] ++ raw, ?_, by simp; omega, ?_⟩
              · rw [List.flatMap_cons, hy, e1]; simp [plainV]
              · rw [e3]; simp only [List.length_cons, List.append_assoc, List.cons_append, List.nil_append]
                congr 1; omega
          · rcases hq : valP r l with ⟨o, l''⟩
            rw [hq] at h
            cases o with
            | some v' => simp [prep] at h
            | none =>
              simp [prep] at h
              subst h
              obtain ⟨e1, e2⟩ := i2 l'' hq
              exact ⟨by simp; omega, e2.eq (by simp; omega) (by simp; omega) rfl⟩

end Go.Proofs.Ytcfdemhokbddiaa
