/-
  Plain facts: the program's reading and the document's reading of a text come to the same.
-/
import Derived.Test.YtcfdemhokbddiaaGreatDoorQT
import Derived.Test.YtcfdemhokbddiaaGreatDoorQW
import Derived.Test.YtcfdemhokbddiaaGreatDoorQY

namespace Go.Proofs.YtcfdemhokbddiaaGreatDoor
open Go.RowKit

/-- What the document's run comes to, seen as an answer. -/
def Fails (N : Nat) (p : Nat) (x : Except Nat St) : Prop := x = .error p ∨ ∃ st, x = .ok st ∧ badEnd st = true ∧ p = N

theorem name_run (k : Nat) (l : List UInt8) (nm : List UInt8) (i : Nat) (hk : k ≤ 12) :
    runR ⟨0, k, nm, []⟩ i l = runR ⟨0, k + nameLen k l, nm ++ l.take (nameLen k l), []⟩ (i + nameLen k l) (l.drop (nameLen k l)) := by
  induction l generalizing k nm i with
  | nil => simp [nameLen]
  | cons c l ih =>
    unfold nameLen
    split
    · rename_i h
      have hs : stepR ⟨0, k, nm, []⟩ c i = some ⟨0, k + 1, nm ++ [c], []⟩ := by
        unfold stepR; simp only; rw [if_pos (by simpa [goesB] using h)]
      conv => lhs; unfold runR
      rw [hs]
      simp only
      rw [ih (k + 1) (nm ++ [c]) (i + 1) (by omega)]
      rw [show 1 + nameLen (k + 1) l = nameLen (k + 1) l + 1 from by omega]
      simp only [List.take_succ_cons, List.drop_succ_cons, List.append_assoc, List.singleton_append]
      rw [show k + 1 + nameLen (k + 1) l = k + (nameLen (k + 1) l + 1) from by omega, show i + 1 + nameLen (k + 1) l = i + (nameLen (k + 1) l + 1) from by omega]
    · simp
theorem label_run (k : Nat) (l : List UInt8) (nm : List UInt8) (a : List Lab) (x : Lab) (i : Nat) (hk : k ≤ 12) :
    runR ⟨1, k, nm, a ++ [x]⟩ i l = runR ⟨1, k + nameLen k l, nm, a ++ [{ x with name := x.name ++ l.take (nameLen k l) }]⟩ (i + nameLen k l) (l.drop (nameLen k l)) := by
  induction l generalizing k x i with
  | nil => simp [nameLen]
  | cons c l ih =>
    unfold nameLen
    split
    · rename_i h
      have hs : stepR ⟨1, k, nm, a ++ [x]⟩ c i = some ⟨1, k + 1, nm, a ++ [{ x with name := x.name ++ [c] }]⟩ := by
        unfold stepR; simp only; rw [if_pos (by simpa [goesB] using h), modLast_snoc]
      conv => lhs; unfold runR
      rw [hs]
      simp only
      rw [ih (k + 1) _ (i + 1) (by omega)]
      rw [show 1 + nameLen (k + 1) l = nameLen (k + 1) l + 1 from by omega]
      simp only [List.take_succ_cons, List.drop_succ_cons, List.append_assoc, List.singleton_append]
      rw [show k + 1 + nameLen (k + 1) l = k + (nameLen (k + 1) l + 1) from by omega, show i + 1 + nameLen (k + 1) l = i + (nameLen (k + 1) l + 1) from by omega]
    · simp

/-- Behind the bytes of a name no byte of a name follows. -/
theorem nameLen_stop (k : Nat) (l : List UInt8) (c : UInt8) (l' : List UInt8) (h : l.drop (nameLen k l) = c :: l') : goesB (k + nameLen k l) (c.toNat : Int) = false := by
  induction l generalizing k with
  | nil => simp at h
  | cons d l ih =>
    unfold nameLen at h ⊢
    split at h
    · rename_i hd
      rw [if_pos hd]
      rw [show 1 + nameLen (k + 1) l = nameLen (k + 1) l + 1 from by omega] at h ⊢
      simp only [List.drop_succ_cons] at h
      have := ih (k + 1) h
      rw [show k + (nameLen (k + 1) l + 1) = k + 1 + nameLen (k + 1) l from by omega]
      exact this
    · rename_i hd
      rw [if_neg hd]
      simp only [List.drop_zero, List.cons.injEq] at h
      rw [← h.1]
      simpa [goesB] using hd

/-- A label of the program's reading and the document's: the same name and place; what the plain form writes of their values is the same. -/
def VRel (p q : Lab) : Prop := p.name = q.name ∧ p.at_ = q.at_ ∧ p.val.flatMap escB = plainV q.val
def RelL : List Lab → List Lab → Prop
  | [], [] => True
  | p :: ps, q :: qs => VRel p q ∧ RelL ps qs
  | _, _ => False

theorem run_step (st st' : St) (c : UInt8) (i : Nat) (l : List UInt8) (h : stepR st c i = some st') : runR st i (c :: l) = runR st' (i + 1) l := by
  conv => lhs; unfold runR
  rw [h]
theorem run_stop (st : St) (c : UInt8) (i : Nat) (l : List UInt8) (h : stepR st c i = none) : runR st i (c :: l) = .error i := by
  unfold runR; rw [h]
theorem fails_stop (st : St) (c : UInt8) (i : Nat) (l : List UInt8) (h : stepR st c i = none) : Fails (i + (c :: l).length) (i + (c :: l).length - (c :: l).length) (runR st i (c :: l)) := by
  left; rw [run_stop _ _ _ _ h]; congr 1; omega
theorem fails_end (st : St) (i : Nat) (h : badEnd st = true) : Fails (i + ([] : List UInt8).length) (i + ([] : List UInt8).length - ([] : List UInt8).length) (runR st i []) := by
  right; exact ⟨st, rfl, h, by simp⟩
theorem Fails.eq {N N' p p' : Nat} {x y : Except Nat St} (h : Fails N p x) (hN : N = N') (hp : p = p') (hx : y = x) : Fails N' p' y := by
  subst hN; subst hp; subst hx; exact h

theorem val_run (r : Nat) (k : Nat) (hk : k + r = 16) (l : List UInt8) (nm : List UInt8) (a : List Lab) (x : Lab) (i : Nat) :
    (∀ v rest, valP r l = (some v, rest) → ∃ raw, v.flatMap escB = plainV raw ∧ rest.length < l.length ∧ runR ⟨3, k, nm, a ++ [x]⟩ i l = runR ⟨5, 0, nm, a ++ [{ x with val := x.val ++ raw }]⟩ (i + l.length - rest.length) rest) ∧
    (∀ rest, valP r l = (none, rest) → rest.length ≤ l.length ∧ Fails (i + l.length) (i + l.length - rest.length) (runR ⟨3, k, nm, a ++ [x]⟩ i l)) := by
  induction r generalizing k l x i with
  | zero =>
    cases l with
    | nil =>
      refine ⟨fun v rest h => by simp [valP] at h, fun rest h => ?_⟩
      simp [valP] at h; subst h
      exact ⟨Nat.le_refl _, fails_end _ _ (by simp [badEnd])⟩
    | cons c l =>
      by_cases hc : c.toNat = 34
      · have hs : stepR ⟨3, k, nm, a ++ [x]⟩ c i = some ⟨5, 0, nm, a ++ [x]⟩ := by simp [stepR, hc]
        refine ⟨fun v rest h => ?_, fun rest h => by simp [valP, hc] at h⟩
        simp [valP, hc] at h
        obtain ⟨rfl, rfl⟩ := h
        refine ⟨[], rfl, by simp, ?_⟩
        rw [run_step _ _ _ _ _ hs]; simp
        congr 1; omega
      · have hs : stepR ⟨3, k, nm, a ++ [x]⟩ c i = none := by simp [stepR, hc]; omega
        refine ⟨fun v rest h => by simp [valP, hc] at h, fun rest h => ?_⟩
        simp [valP, hc] at h; subst h
        exact ⟨Nat.le_refl _, fails_stop _ _ _ _ hs⟩
  | succ r ih =>
    cases l with
    | nil =>
      refine ⟨fun v rest h => by simp [valP] at h, fun rest h => ?_⟩
      simp [valP] at h; subst h
      exact ⟨Nat.le_refl _, fails_end _ _ (by simp [badEnd])⟩
    | cons c l =>
      by_cases hc : c.toNat = 34
      · have hs : stepR ⟨3, k, nm, a ++ [x]⟩ c i = some ⟨5, 0, nm, a ++ [x]⟩ := by simp [stepR, hc]
        refine ⟨fun v rest h => ?_, fun rest h => by simp [valP, hc] at h⟩
        simp [valP, hc] at h
        obtain ⟨rfl, rfl⟩ := h
        refine ⟨[], rfl, by simp, ?_⟩
        rw [run_step _ _ _ _ _ hs]; simp
        congr 1; omega
      · have hh : ∀ y ∈ (c :: l).head?, y.toNat ≠ 34 := by simpa using hc
        by_cases h92 : c.toNat = 92
        · have hc92 : c = 92 := UInt8.toNat_inj.1 (by rw [h92]; rfl)
          have hs : stepR ⟨3, k, nm, a ++ [x]⟩ c i = some ⟨4, k + 1, nm, a ++ [{ x with val := x.val ++ [c] }]⟩ := by
            simp [stepR, h92, modLast_snoc]; omega
          rw [run_step _ _ _ _ _ hs]
          cases l with
          | nil =>
            have hv : vbP [c] = (none, []) := by simp [vbP, h92, escP]
            refine ⟨fun v rest h => by rw [valP_none r _ _ hh hv] at h; simp at h, fun rest h => ?_⟩
            rw [valP_none r _ _ hh hv] at h; simp at h; subst h
            exact ⟨by simp, (fails_end _ _ (by simp [badEnd])).eq (by simp) (by simp) rfl⟩
          | cons d l =>
            by_cases hd : d.toNat = 34 ∨ d.toNat = 92 ∨ d.toNat = 110
            · have hs2 : stepR ⟨4, k + 1, nm, a ++ [{ x with val := x.val ++ [c] }]⟩ d (i + 1) = some ⟨3, k + 1, nm, a ++ [{ x with val := x.val ++ [c] ++ [d] }]⟩ := by
                simp [stepR, hd, modLast_snoc]
              rw [run_step _ _ _ _ _ hs2]
              obtain ⟨y, hv, hy⟩ : ∃ y, vbP (c :: d :: l) = (some y, l) ∧ escB y = plainV [c, d] := by
                rcases hd with h | h | h
                · refine ⟨34, by simp [vbP, h92, escP, h], ?_⟩
                  have : d = 34 := UInt8.toNat_inj.1 (by rw [h]; rfl)
                  subst this; subst hc92; decide
                · refine ⟨92, by simp [vbP, h92, escP, h], ?_⟩
                  have : d = 92 := UInt8.toNat_inj.1 (by rw [h]; rfl)
                  subst this; subst hc92; decide
                · refine ⟨10, by simp [vbP, h92, escP, h], ?_⟩
                  have : d = 110 := UInt8.toNat_inj.1 (by rw [h]; rfl)
                  subst this; subst hc92; decide
              obtain ⟨i1, i2⟩ := ih (k + 1) (by omega) l { x with val := x.val ++ [c] ++ [d] } (i + 1 + 1)
              rw [valP_some r _ _ _ hh hv]
              refine ⟨fun v rest h => ?_, fun rest h => ?_⟩
              · rcases hq : valP r l with ⟨o, l''⟩
                rw [hq] at h
                cases o with
                | none => simp [prep] at h
                | some v' =>
                  simp [prep] at h
                  obtain ⟨rfl, rfl⟩ := h
                  obtain ⟨raw, e1, e2, e3⟩ := i1 v' l'' hq
                  refine ⟨[c, d] ++ raw, ?_, by simp; omega, ?_⟩
                  · rw [List.flatMap_cons, hy, e1]; simp [plainV]
                  · rw [e3]; simp only [List.length_cons, List.append_assoc, List.cons_append, List.nil_append]
                    congr 1; omega
              · rcases hq : valP r l with ⟨o, l''⟩
                rw [hq] at h
                cases o with
                | some v' => simp [prep] at h
                | none =>
                  simp [prep] at h
                  subst h
                  obtain ⟨e1, e2⟩ := i2 l'' hq
                  exact ⟨by simp; omega, e2.eq (by simp; omega) (by simp; omega) rfl⟩
            · have hs2 : stepR ⟨4, k + 1, nm, a ++ [{ x with val := x.val ++ [c] }]⟩ d (i + 1) = none := by simp [stepR, hd]
              have hv : vbP (c :: d :: l) = (none, d :: l) := by
                simp only [not_or] at hd
                simp [vbP, h92, escP, hd.1, hd.2.1, hd.2.2]
              refine ⟨fun v rest h => by rw [valP_none r _ _ hh hv] at h; simp at h, fun rest h => ?_⟩
              rw [valP_none r _ _ hh hv] at h; simp at h; subst h
              exact ⟨by simp, (fails_stop _ _ _ _ hs2).eq (by simp; omega) (by simp; omega) rfl⟩
        · have hs : stepR ⟨3, k, nm, a ++ [x]⟩ c i = some ⟨3, k + 1, nm, a ++ [{ x with val := x.val ++ [c] }]⟩ := by
            simp [stepR, hc, h92, modLast_snoc]; omega
          rw [run_step _ _ _ _ _ hs]
          have hv : vbP (c :: l) = (some c, l) := by simp [vbP, h92]
          have hy : escB c = plainV [c] := by
            unfold escB plainV pvB; simp [hc, h92]
          obtain ⟨i1, i2⟩ := ih (k + 1) (by omega) l { x with val := x.val ++ [c] } (i + 1)
          rw [valP_some r _ _ _ hh hv]
          refine ⟨fun v rest h => ?_, fun rest h => ?_⟩
          · rcases hq : valP r l with ⟨o, l''⟩
            rw [hq] at h
            cases o with
            | none => simp [prep] at h
            | some v' =>
              simp [prep] at h
              obtain ⟨rfl, rfl⟩ := h
              obtain ⟨raw, e1, e2, e3⟩ := i1 v' l'' hq
              refine ⟨[c] ++ raw, ?_, by simp; omega, ?_⟩
              · rw [List.flatMap_cons, hy, e1]; simp [plainV]
              · rw [e3]; simp only [List.length_cons, List.append_assoc, List.cons_append, List.nil_append]
                congr 1; omega
          · rcases hq : valP r l with ⟨o, l''⟩
            rw [hq] at h
            cases o with
            | some v' => simp [prep] at h
            | none =>
              simp [prep] at h
              subst h
              obtain ⟨e1, e2⟩ := i2 l'' hq
              exact ⟨by simp; omega, e2.eq (by simp; omega) (by simp; omega) rfl⟩

end Go.Proofs.YtcfdemhokbddiaaGreatDoor

/-
  Plain facts: labels and whole texts, read by the program and by the document's reader.
-/
namespace Go.Proofs.YtcfdemhokbddiaaGreatDoor
open Go.RowKit

theorem takeP_some {c : Nat} {l l' : List UInt8} (h : takeP c l = some l') : ∃ x, l = x :: l' ∧ x.toNat = c := by
  cases l with
  | nil => simp [takeP] at h
  | cons y l =>
    simp [takeP] at h
    obtain ⟨h1, rfl⟩ := h
    exact ⟨y, rfl, h1⟩
theorem takeP_none {c : Nat} {l : List UInt8} (h : takeP c l = none) : l = [] ∨ ∃ x l', l = x :: l' ∧ x.toNat ≠ c := by
  cases l with
  | nil => exact Or.inl rfl
  | cons y l =>
    simp [takeP] at h
    exact Or.inr ⟨y, l, rfl, h⟩

theorem label_rel (l : List UInt8) (nm : List UInt8) (a : List Lab) (p i : Nat) :
    (∀ o rest, labelP l = (some o, rest) → ∃ raw, o.2.flatMap escB = plainV raw ∧ o.1 ≠ [] ∧ rest.length < l.length ∧ runR ⟨1, 0, nm, a ++ [⟨[], [], p⟩]⟩ i l = runR ⟨5, 0, nm, a ++ [⟨o.1, raw, p⟩]⟩ (i + l.length - rest.length) rest) ∧
    (∀ rest, labelP l = (none, rest) → rest.length ≤ l.length ∧ Fails (i + l.length) (i + l.length - rest.length) (runR ⟨1, 0, nm, a ++ [⟨[], [], p⟩]⟩ i l)) := by
  have hrun := label_run 0 l nm a ⟨[], [], p⟩ i (by omega)
  have hle := nameLen_le 0 l
  simp only [Nat.zero_add, List.nil_append] at hrun
  have hst := nameLen_stop 0 l
  simp only [Nat.zero_add] at hst
  have hll : (l.drop (nameLen 0 l)).length = l.length - nameLen 0 l := List.length_drop
  unfold labelP
  by_cases h0 : nameLen 0 l = 0
  · rw [if_pos h0]
    refine ⟨fun o rest h => by simp at h, fun rest h => ?_⟩
    simp at h; subst h
    refine ⟨Nat.le_refl _, ?_⟩
    cases l with
    | nil => exact fails_end _ _ (by simp [badEnd])
    | cons c l =>
      refine fails_stop _ _ _ _ ?_
      have := hst c l (by rw [h0]; rfl)
      rw [h0] at this
      unfold stepR; simp only; rw [if_neg (by simp [this]), if_neg (by omega)]
  · rw [if_neg h0]
    generalize hk : nameLen 0 l = k at *
    generalize hd : l.drop k = l1 at *
    rcases hq : takeP 61 l1 with _ | l2
    · simp only
      refine ⟨fun o rest h => by simp at h, fun rest h => ?_⟩
      simp at h; subst h
      refine ⟨by omega, ?_⟩
      rw [hrun]
      rcases takeP_none hq with rfl | ⟨c, l', rfl, hc⟩
      · exact (fails_end _ _ (by simp [badEnd])).eq (by simp at hll ⊢; omega) (by simp at hll ⊢; omega) rfl
      · refine (fails_stop _ _ _ _ ?_).eq (by simp at hll ⊢; omega) (by simp at hll ⊢; omega) rfl
        have := hst c l' rfl
        unfold stepR; simp only; rw [if_neg (by simp [this]), if_neg (by omega)]
    · obtain ⟨c, rfl, hc⟩ := takeP_some hq
      have hs : stepR ⟨1, k, nm, a ++ [⟨l.take k, [], p⟩]⟩ c (i + k) = some ⟨2, 0, nm, a ++ [⟨l.take k, [], p⟩]⟩ := by
        have := hst c l2 rfl
        unfold stepR; simp only; rw [if_neg (by simp [this]), if_pos ⟨by omega, hc⟩]
      rw [hrun, run_step _ _ _ _ _ hs]
      simp only
      rcases hq2 : takeP 34 l2 with _ | l3
      · simp only
        refine ⟨fun o rest h => by simp at h, fun rest h => ?_⟩
        simp at h; subst h
        refine ⟨by simp at hll; omega, ?_⟩
        rcases takeP_none hq2 with rfl | ⟨c', l', rfl, hc'⟩
        · exact (fails_end _ _ (by simp [badEnd])).eq (by simp at hll ⊢; omega) (by simp at hll ⊢; omega) rfl
        · refine (fails_stop _ _ _ _ ?_).eq (by simp at hll ⊢; omega) (by simp at hll ⊢; omega) rfl
          simp [stepR, hc']
      · obtain ⟨c2, rfl, hc2⟩ := takeP_some hq2
        have hs2 : stepR ⟨2, 0, nm, a ++ [⟨l.take k, [], p⟩]⟩ c2 (i + k + 1) = some ⟨3, 0, nm, a ++ [⟨l.take k, [], p⟩]⟩ := by simp [stepR, hc2]
        rw [run_step _ _ _ _ _ hs2]
        simp only
        obtain ⟨v1, v2⟩ := val_run 16 0 rfl l3 nm a ⟨l.take k, [], p⟩ (i + k + 1 + 1)
        have htk : l.take k ≠ [] := by
          intro e
          have : (l.take k).length = 0 := by rw [e]; rfl
          rw [List.length_take] at this; omega
        rcases hv : valP 16 l3 with ⟨o', l4⟩
        cases o' with
        | none =>
          simp only
          refine ⟨fun o rest h => by simp at h, fun rest h => ?_⟩
          simp at h; subst h
          obtain ⟨e1, e2⟩ := v2 _ hv
          exact ⟨by simp at hll; omega, e2.eq (by simp at hll; omega) (by simp at hll; omega) rfl⟩
        | some v =>
          simp only
          refine ⟨fun o rest h => ?_, fun rest h => by simp at h⟩
          simp at h
          obtain ⟨rfl, rfl⟩ := h
          obtain ⟨raw, e1, e2, e3⟩ := v1 _ _ hv
          refine ⟨raw, e1, htk, by simp at hll; omega, ?_⟩
          rw [e3]
          simp only [List.nil_append]
          congr 1
          simp at hll; omega

theorem close_rel (N : Nat) (x y : Lab) (l : List UInt8) (nm : List UInt8) (a : List Lab) (i : Nat) (hN : i + l.length = N) (hc : ∀ c l', l = c :: l' → c.toNat = 44 → ¬ (a ++ [y]).length ≤ 2) :
    (∀ ls rest, closeP x l = (some ls, rest) → ls = [x] ∧ rest.length < l.length ∧ runR ⟨5, 0, nm, a ++ [y]⟩ i l = runR ⟨6, 0, nm, a ++ [y]⟩ (N - rest.length) rest) ∧
    (∀ rest, closeP x l = (none, rest) → rest.length ≤ l.length ∧ Fails N (N - rest.length) (runR ⟨5, 0, nm, a ++ [y]⟩ i l)) := by
  unfold closeP
  rcases hq : takeP 125 l with _ | l2
  · simp only
    refine ⟨fun ls rest h => by simp at h, fun rest h => ?_⟩
    simp at h; subst h
    refine ⟨Nat.le_refl _, ?_⟩
    rcases takeP_none hq with rfl | ⟨c, l', rfl, hc'⟩
    · exact (fails_end _ _ (by simp [badEnd])).eq hN (by omega) rfl
    · refine (fails_stop _ _ _ _ ?_).eq hN (by omega) rfl
      unfold stepR; simp only; rw [if_neg (fun h => hc c l' rfl h.1 h.2), if_neg hc']
  · obtain ⟨c, rfl, hc'⟩ := takeP_some hq
    simp only
    refine ⟨fun ls rest h => ?_, fun rest h => by simp at h⟩
    simp at h
    obtain ⟨rfl, rfl⟩ := h
    have hs : stepR ⟨5, 0, nm, a ++ [y]⟩ c i = some ⟨6, 0, nm, a ++ [y]⟩ := by
      unfold stepR; simp only; rw [if_neg (by omega), if_pos hc']
    refine ⟨rfl, by simp, ?_⟩
    rw [run_step _ _ _ _ _ hs]
    congr 1
    simp at hN; omega

theorem labels_rel (N r : Nat) (l : List UInt8) (nm : List UInt8) (a : List Lab) (i : Nat) (hN : i + l.length = N) (ha : a.length + r = 2) :
    (∀ ls rest, labelsP N r l = (some ls, rest) → ∃ qs, RelL ls qs ∧ (∀ q ∈ qs, q.name ≠ []) ∧ rest.length < l.length ∧ runR ⟨1, 0, nm, a ++ [⟨[], [], i⟩]⟩ i l = runR ⟨6, 0, nm, a ++ qs⟩ (N - rest.length) rest) ∧
    (∀ rest, labelsP N r l = (none, rest) → rest.length ≤ l.length ∧ Fails N (N - rest.length) (runR ⟨1, 0, nm, a ++ [⟨[], [], i⟩]⟩ i l)) := by
  have hat : N - l.length = i := by omega
  induction r generalizing l a i with
  | zero =>
    obtain ⟨L1, L2⟩ := label_rel l nm a i i
    rcases hp : labelP l with ⟨o, l1⟩
    cases o with
    | none =>
      rw [labelsP_none _ _ _ _ hp]
      refine ⟨fun ls rest h => by simp at h, fun rest h => ?_⟩
      simp at h; subst h
      obtain ⟨e1, e2⟩ := L2 _ hp
      exact ⟨e1, e2.eq hN (by omega) rfl⟩
    | some p =>
      rw [labelsP_zero _ _ _ _ hp, hat]
      obtain ⟨raw, e1, e2, e3, e4⟩ := L1 _ _ hp
      have hv : VRel ⟨p.1, p.2, i⟩ ⟨p.1, raw, i⟩ := ⟨rfl, rfl, e1⟩
      obtain ⟨c1, c2⟩ := close_rel N ⟨p.1, p.2, i⟩ ⟨p.1, raw, i⟩ l1 nm a (i + l.length - l1.length) (by omega) (fun c l' _ _ => by simp; omega)
      rw [e4]
      refine ⟨fun ls rest h => ?_, fun rest h => ?_⟩
      · obtain ⟨rfl, d2, d3⟩ := c1 _ _ h
        exact ⟨[⟨p.1, raw, i⟩], ⟨hv, trivial⟩, by simpa using e2, by omega, d3⟩
      · obtain ⟨d1, d2⟩ := c2 _ h
        exact ⟨by omega, d2⟩
  | succ r ih =>
    obtain ⟨L1, L2⟩ := label_rel l nm a i i
    rcases hp : labelP l with ⟨o, l1⟩
    cases o with
    | none =>
      rw [labelsP_none _ _ _ _ hp]
      refine ⟨fun ls rest h => by simp at h, fun rest h => ?_⟩
      simp at h; subst h
      obtain ⟨e1, e2⟩ := L2 _ hp
      exact ⟨e1, e2.eq hN (by omega) rfl⟩
    | some p =>
      obtain ⟨raw, e1, e2, e3, e4⟩ := L1 _ _ hp
      have hv : VRel ⟨p.1, p.2, i⟩ ⟨p.1, raw, i⟩ := ⟨rfl, rfl, e1⟩
      rw [e4]
      rcases hq : takeP 44 l1 with _ | l2
      · rw [labelsP_stop _ _ _ _ _ hp hq, hat]
        obtain ⟨c1, c2⟩ := close_rel N ⟨p.1, p.2, i⟩ ⟨p.1, raw, i⟩ l1 nm a (i + l.length - l1.length) (by omega) (fun c l' he h44 => by
          rcases takeP_none hq with h | ⟨x, l'', h, hx⟩
          · rw [h] at he; cases he
          · rw [h] at he; cases he; exact absurd h44 hx)
        refine ⟨fun ls rest h => ?_, fun rest h => ?_⟩
        · obtain ⟨rfl, d2, d3⟩ := c1 _ _ h
          exact ⟨[⟨p.1, raw, i⟩], ⟨hv, trivial⟩, by simpa using e2, by omega, d3⟩
        · obtain ⟨d1, d2⟩ := c2 _ h
          exact ⟨by omega, d2⟩
      · rw [labelsP_more _ _ _ _ _ _ hp hq, hat]
        obtain ⟨c, rfl, hc⟩ := takeP_some hq
        have hs : stepR ⟨5, 0, nm, a ++ [⟨p.1, raw, i⟩]⟩ c (i + l.length - (c :: l2).length) = some ⟨1, 0, nm, (a ++ [⟨p.1, raw, i⟩]) ++ [⟨[], [], i + l.length - (c :: l2).length + 1⟩]⟩ := by
          unfold stepR; simp only; rw [if_pos ⟨hc, by simp; omega⟩]
        rw [run_step _ _ _ _ _ hs]
        simp only [List.length_cons] at e3
        obtain ⟨i1, i2⟩ := ih l2 (a ++ [⟨p.1, raw, i⟩]) (i + l.length - (c :: l2).length + 1) (by simp; omega) (by simp; omega) (by simp; omega)
        refine ⟨fun ls rest h => ?_, fun rest h => ?_⟩
        · rcases hw : labelsP N r l2 with ⟨o', l3⟩
          rw [hw] at h
          cases o' with
          | none => simp [prepL] at h
          | some ls' =>
            simp [prepL] at h
            obtain ⟨rfl, rfl⟩ := h
            obtain ⟨qs, d1, d2, d3, d4⟩ := i1 _ _ hw
            refine ⟨⟨p.1, raw, i⟩ :: qs, ⟨hv, d1⟩, ?_, by omega, ?_⟩
            · intro q hq
              simp at hq
              rcases hq with rfl | hq
              · exact e2
              · exact d2 q hq
            · rw [d4]; simp
        · rcases hw : labelsP N r l2 with ⟨o', l3⟩
          rw [hw] at h
          cases o' with
          | some ls' => simp [prepL] at h
          | none =>
            simp [prepL] at h
            subst h
            obtain ⟨d1, d2⟩ := i2 _ hw
            exact ⟨by omega, d2⟩

end Go.Proofs.YtcfdemhokbddiaaGreatDoor

/-
  Plain facts: sorting and writing; what Plain answers is what the document's reader answers.
-/
namespace Go.Proofs.YtcfdemhokbddiaaGreatDoor
open Go.RowKit

theorem series_rel (l : List UInt8) :
    (∀ o rest, seriesP l.length l = (some o, rest) → ∃ st, runR st0 0 l = .ok st ∧ badEnd st = false ∧ st.name = o.1 ∧ RelL o.2 st.labs ∧ (∀ q ∈ st.labs, q.name ≠ [])) ∧
    (∀ rest, seriesP l.length l = (none, rest) → rest.length ≤ l.length ∧ Fails l.length (l.length - rest.length) (runR st0 0 l)) := by
  have hrun := name_run 0 l [] 0 (by omega)
  have hle := nameLen_le 0 l
  simp only [Nat.zero_add, List.nil_append] at hrun
  have hst := nameLen_stop 0 l
  simp only [Nat.zero_add] at hst
  have hll : (l.drop (nameLen 0 l)).length = l.length - nameLen 0 l := List.length_drop
  have hs0 : runR st0 0 l = runR ⟨0, 0, [], []⟩ 0 l := rfl
  rw [hs0]
  unfold seriesP
  by_cases h0 : nameLen 0 l = 0
  · rw [if_pos h0]
    refine ⟨fun o rest h => by simp at h, fun rest h => ?_⟩
    simp at h; subst h
    refine ⟨Nat.le_refl _, ?_⟩
    cases l with
    | nil => exact (fails_end _ _ (by simp [badEnd])).eq (by simp) (by simp) rfl
    | cons c l =>
      refine (fails_stop _ _ _ _ ?_).eq (by omega) (by omega) rfl
      have := hst c l (by rw [h0]; rfl)
      rw [h0] at this
      unfold stepR; simp only; rw [if_neg (by simp [this]), if_neg (by omega)]
  · rw [if_neg h0]
    have htk : l.take (nameLen 0 l) ≠ [] := by
      intro e
      have : (l.take (nameLen 0 l)).length = 0 := by rw [e]; rfl
      rw [List.length_take] at this; omega
    generalize hk : nameLen 0 l = k at *
    generalize hd : l.drop k = l1 at *
    rw [hrun]
    by_cases he : l1.isEmpty = true
    · rw [if_pos he]
      have he' : l1 = [] := List.isEmpty_iff.1 he
      subst he'
      refine ⟨fun o rest h => ?_, fun rest h => by simp at h⟩
      simp at h
      obtain ⟨rfl, rfl⟩ := h
      refine ⟨_, rfl, ?_, rfl, trivial, by simp⟩
      have : (l.take k).isEmpty = false := by
        cases hc : l.take k with
        | nil => exact absurd hc htk
        | cons a b => rfl
      simp [badEnd, this]
    · rw [if_neg he]
      unfold bracesP
      rcases hq : takeP 123 l1 with _ | l2
      · simp only
        refine ⟨fun o rest h => by simp at h, fun rest h => ?_⟩
        simp at h; subst h
        refine ⟨by omega, ?_⟩
        rcases takeP_none hq with rfl | ⟨c, l', rfl, hc⟩
        · simp at he
        · refine (fails_stop _ _ _ _ ?_).eq (by simp at hll ⊢; omega) (by simp at hll ⊢; omega) rfl
          have := hst c l' rfl
          unfold stepR; simp only; rw [if_neg (by simp [this]), if_neg (by omega)]
      · obtain ⟨c, rfl, hc⟩ := takeP_some hq
        have hs : stepR ⟨0, k, l.take k, []⟩ c k = some ⟨1, 0, l.take k, [] ++ [⟨[], [], k + 1⟩]⟩ := by
          have := hst c l2 rfl
          unfold stepR; simp only; rw [if_neg (by simp [this]), if_pos ⟨by omega, hc⟩]
        rw [run_step _ _ _ _ _ hs]
        simp only
        obtain ⟨i1, i2⟩ := labels_rel l.length 2 l2 (l.take k) [] (k + 1) (by simp at hll; omega) rfl
        rcases hw : labelsP l.length 2 l2 with ⟨o', l3⟩
        cases o' with
        | none =>
          simp only
          refine ⟨fun o rest h => by simp at h, fun rest h => ?_⟩
          simp at h; subst h
          obtain ⟨d1, d2⟩ := i2 _ hw
          exact ⟨by simp at hll; omega, d2⟩
        | some ls =>
          obtain ⟨qs, d1, d2, d3, d4⟩ := i1 _ _ hw
          simp only
          rw [d4]
          cases l3 with
          | nil =>
            simp only [List.isEmpty_nil, if_true]
            refine ⟨fun o rest h => ?_, fun rest h => by simp at h⟩
            simp at h
            obtain ⟨rfl, rfl⟩ := h
            exact ⟨_, rfl, by simp [badEnd], rfl, by simpa using d1, by simpa using d2⟩
          | cons e l3 =>
            simp only [List.isEmpty_cons, Bool.false_eq_true, if_false]
            refine ⟨fun o rest h => by simp at h, fun rest h => ?_⟩
            simp at h; subst h
            refine ⟨by simp at hll; omega, ?_⟩
            left
            rw [run_stop _ _ _ _ rfl]

/-- Related lists. -/
theorem RelL.len {ps qs : List Lab} (h : RelL ps qs) : ps.length = qs.length := by
  induction ps generalizing qs with
  | nil => cases qs with | nil => rfl | cons q qs => exact absurd h (by simp [RelL])
  | cons p ps ih => cases qs with
    | nil => exact absurd h (by simp [RelL])
    | cons q qs => simp [ih h.2]
theorem RelL.get {ps qs : List Lab} (h : RelL ps qs) (i : Nat) (hi : i < ps.length) : VRel ps[i] (qs[i]'(by rw [← h.len]; exact hi)) := by
  induction ps generalizing qs i with
  | nil => simp at hi
  | cons p ps ih => cases qs with
    | nil => exact absurd h (by simp [RelL])
    | cons q qs => cases i with
      | zero => exact h.1
      | succ i => simpa using ih h.2 i (by simpa using hi)
theorem RelL.app {a b c d : List Lab} (h : RelL a b) (k : RelL c d) : RelL (a ++ c) (b ++ d) := by
  induction a generalizing b with
  | nil => cases b with | nil => exact k | cons q qs => exact absurd h (by simp [RelL])
  | cons p ps ih => cases b with
    | nil => exact absurd h (by simp [RelL])
    | cons q qs => exact ⟨h.1, ih h.2⟩
theorem RelL.take {a b : List Lab} (h : RelL a b) (n : Nat) : RelL (a.take n) (b.take n) := by
  induction a generalizing b n with
  | nil => cases b with | nil => simp [RelL] | cons q qs => exact absurd h (by simp [RelL])
  | cons p ps ih => cases b with
    | nil => exact absurd h (by simp [RelL])
    | cons q qs => cases n with
      | zero => trivial
      | succ n => exact ⟨h.1, ih h.2 n⟩
theorem RelL.drop {a b : List Lab} (h : RelL a b) (n : Nat) : RelL (a.drop n) (b.drop n) := by
  induction a generalizing b n with
  | nil => cases b with | nil => simp [RelL] | cons q qs => exact absurd h (by simp [RelL])
  | cons p ps ih => cases b with
    | nil => exact absurd h (by simp [RelL])
    | cons q qs => cases n with
      | zero => exact h
      | succ n => exact ih h.2 n
theorem rel_place {a b : List Lab} (h : RelL a b) (t : List UInt8) : place t a = place t b := by
  induction a generalizing b with
  | nil => cases b with | nil => rfl | cons q qs => exact absurd h (by simp [RelL])
  | cons p ps ih => cases b with
    | nil => exact absurd h (by simp [RelL])
    | cons q qs => unfold place; rw [h.1.1, ih h.2]
theorem rel_fnd {a b : List Lab} (h : RelL a b) (t : List UInt8) : fnd t a = fnd t b := by
  unfold fnd
  rw [rel_place h]
  rcases Nat.lt_or_ge (place t b) a.length with hl | hl
  · rw [List.getElem?_eq_getElem hl, List.getElem?_eq_getElem (by rw [← h.len]; exact hl)]
    simp only
    rw [(h.get _ hl).1]
  · rw [List.getElem?_eq_none hl, List.getElem?_eq_none (by rw [← h.len]; exact hl)]
theorem rel_sort {a b c d : List Lab} (k : Nat) (h : RelL a b) (h2 : RelL c d) :
    (∀ r j, sortP a k c = (some r, j) → ∃ r', sortP b k d = (some r', j) ∧ RelL r r') ∧ (∀ j, sortP a k c = (none, j) → sortP b k d = (none, j)) := by
  induction c generalizing a b d k with
  | nil => cases d with
    | nil => refine ⟨fun r j e => ?_, fun j e => by simp [sortP] at e⟩
             simp [sortP] at e; obtain ⟨rfl, rfl⟩ := e; exact ⟨b, rfl, h⟩
    | cons q qs => exact absurd h2 (by simp [RelL])
  | cons p ps ih => cases d with
    | nil => exact absurd h2 (by simp [RelL])
    | cons q qs =>
      have hn : p.name = q.name := h2.1.1
      unfold sortP
      rw [hn, rel_fnd h]
      split
      · refine ⟨fun r j e => by simp at e, fun j e => ?_⟩
        simp at e; subst e; rfl
      · refine ih (k + 1) ?_ h2.2
        rw [rel_place h]
        exact (h.take _).app ⟨h2.1, h.drop _⟩
theorem rel_out {a b : List Lab} (h : RelL a b) (c : UInt8) : outP c a = outQ c b := by
  induction a generalizing b c with
  | nil => cases b with | nil => rfl | cons q qs => exact absurd h (by simp [RelL])
  | cons p ps ih => cases b with
    | nil => exact absurd h (by simp [RelL])
    | cons q qs =>
      unfold outP outQ
      rw [ih h.2]
      unfold labB labQ
      rw [h.1.1, h.1.2.2]
theorem rel_plain {a b : List Lab} (h : RelL a b) (nm : List UInt8) : plainB nm a = plainQ nm b := by
  unfold plainB plainQ
  rw [rel_out h]
  have : a.isEmpty = b.isEmpty := by
    have := h.len
    cases a <;> cases b <;> simp at this ⊢
  rw [this]

end Go.Proofs.YtcfdemhokbddiaaGreatDoor

/-
  The document's Parse answers what Plain answers.
-/
namespace Go.Proofs.YtcfdemhokbddiaaGreatDoor
open Go.RowKit

theorem least {n : Nat} {P : Nat → Prop} (h : ∃ q, q < n ∧ P q) : ∃ q, q < n ∧ P q ∧ ∀ q', q' < q → ¬ P q' := by
  obtain ⟨q, hq, hp⟩ := h
  induction q using Nat.strongRecOn with
  | ind q ih =>
    by_cases hx : ∃ q', q' < q ∧ P q'
    · obtain ⟨q', h1, h2⟩ := hx
      exact ih q' h1 (by omega) h2
    · exact ⟨q, hq, hp, fun q' h1 h2 => hx ⟨q', h1, h2⟩⟩

theorem fnd_iff (t : List UInt8) (acc : List Lab) (hs : Srt acc) : fnd t acc = true ↔ ∃ x ∈ acc, x.name = t := by
  constructor
  · intro h
    unfold fnd at h
    split at h
    · rename_i x hx
      exact ⟨x, List.mem_of_getElem? hx, by simpa using h⟩
    · cases h
  · rintro ⟨x, hx, rfl⟩
    obtain ⟨i, hi, rfl⟩ := List.getElem_of_mem hx
    have : place (acc[i]).name acc = i := place_of _ _ i (by omega) (fun k hk hki => hs.get k i hi hki) (fun k hk hki => by
      by_cases e : k = i
      · subst e; exact lt_irrefl _
      · exact lt_asymm _ _ (hs.get i k hk (by omega)))
    unfold fnd
    rw [this, List.getElem?_eq_getElem hi]
    simp

theorem distinct_snoc (pre : List Lab) (x : Lab) (h : Distinct pre) (hx : ∀ y ∈ pre, y.name ≠ x.name) : Distinct (pre ++ [x]) := by
  intro i hi k hk
  simp at hi
  by_cases hip : i < pre.length
  · rw [List.getElem_append_left hip, List.getElem_append_left (by omega)]
    exact h i hip k hk
  · have e : i = pre.length := by omega
    subst e
    rw [List.getElem_append_left (by omega)]
    simp
    exact hx _ (List.getElem_mem _)

theorem sort_spec (rest pre acc : List Lab) (hs : Srt acc) (hm : ∀ x, x ∈ acc ↔ x ∈ pre) (hl : acc.length = pre.length) (hd : Distinct pre) :
    (∀ r j, sortP acc pre.length rest = (some r, j) → Srt r ∧ (∀ x, x ∈ r ↔ x ∈ pre ++ rest) ∧ r.length = (pre ++ rest).length ∧ Distinct (pre ++ rest)) ∧
    (∀ j, sortP acc pre.length rest = (none, j) → ∃ q, Dup (pre ++ rest) j q) := by
  induction rest generalizing pre acc with
  | nil =>
    refine ⟨fun r j h => ?_, fun j h => by simp [sortP] at h⟩
    simp [sortP] at h
    obtain ⟨rfl, rfl⟩ := h
    simp only [List.append_nil]
    exact ⟨hs, hm, hl, hd⟩
  | cons x rest ih =>
    unfold sortP
    cases hf : fnd x.name acc with
    | true =>
      simp only [if_true]
      refine ⟨fun r j h => by simp at h, fun j h => ?_⟩
      simp at h; subst h
      obtain ⟨y, hy, hyx⟩ := (fnd_iff x.name acc hs).1 hf
      obtain ⟨q0, hq0, e0⟩ := List.getElem_of_mem ((hm y).1 hy)
      obtain ⟨q, hq, hP, hleast⟩ := least (n := pre.length) (P := fun q => ∃ h : q < pre.length, (pre[q]).name = x.name) ⟨q0, hq0, hq0, by rw [e0]; exact hyx⟩
      obtain ⟨_, hP⟩ := hP
      refine ⟨q, ⟨by simp, hq, ?_, ?_, ?_⟩⟩
      · rw [List.getElem_append_left hq, hP]; simp
      · intro i' hi k' hk
        rw [List.getElem_append_left (by omega), List.getElem_append_left (by omega)]
        exact hd i' hi k' hk
      · intro k' hk he
        rw [List.getElem_append_left (by omega)] at he
        exact hleast k' hk ⟨by omega, by rw [he]; simp⟩
    | false =>
      simp only [Bool.false_eq_true, if_false]
      have hne : ∀ y ∈ pre, y.name ≠ x.name := fun y hy e => by
        have := (fnd_iff x.name acc hs).2 ⟨y, (hm y).2 hy, e⟩
        rw [hf] at this; cases this
      have hlen : (pre ++ [x]).length = pre.length + 1 := by simp
      have := ih (pre ++ [x]) (insAt acc (place x.name acc) x) (srt_ins acc x hs hf) (fun y => by
        simp only [insAt, List.mem_append, List.mem_cons, List.not_mem_nil, or_false]
        rw [← hm y]
        constructor
        · rintro (h | rfl | h)
          · exact Or.inl (List.mem_of_mem_take h)
          · exact Or.inr rfl
          · exact Or.inl (List.mem_of_mem_drop h)
        · rintro (h | rfl)
          · have := List.take_append_drop (place x.name acc) acc
            rw [← this] at h
            rcases List.mem_append.1 h with h | h
            · exact Or.inl h
            · exact Or.inr (Or.inr h)
          · exact Or.inr (Or.inl rfl)) (by rw [insAt_len _ _ _ (place_le _ _), hl, hlen]) (distinct_snoc pre x hd hne)
      rw [hlen] at this
      simpa using this

theorem run_inv (l : List UInt8) (i k : Nat) (st st' : St) (h : Inv k st) (hr : runR st i l = .ok st') : Inv (k + l.length) st' := by
  induction l generalizing i k st with
  | nil => unfold runR at hr; cases hr; simpa using h
  | cons c l ih =>
    unfold runR at hr
    split at hr
    · cases hr
    · rename_i st1 hs
      have := ih (i + 1) (k + 1) st1 (step_inv k i st st1 c h hs) hr
      rw [List.length_cons, show k + (l.length + 1) = k + 1 + l.length from by omega]
      exact this

theorem parse_any (s : ByteArray) (w : World) :
    Calls Tryz.prog 80 #[.string s] w fun e w' => e = .returned (outV (readP s.data.toList).name (plainP s.data.toList) (readP s.data.toList).err (if (readP s.data.toList).err = 0 then 0 else (readP s.data.toList).at_)) ∧ Below w.heap.size w w' := by
  by_cases h100 : 100 < s.size
  · have hp := readP_long s h100
    unfold plainP
    rw [hp]
    exact (parse_long s w h100).mono fun e w' ⟨h1, h2⟩ => ⟨by rw [h1]; rfl, h2⟩
  · obtain ⟨S1, S2⟩ := series_rel s.data.toList
    rcases hq : seriesP s.data.toList.length s.data.toList with ⟨o, rest⟩
    cases o with
    | none =>
      obtain ⟨d1, d2⟩ := S2 _ hq
      have hp : readP s.data.toList = ⟨2, s.data.toList.length - rest.length, [], []⟩ := by
        unfold readP; rw [if_neg (by exact h100), hq]
      unfold plainP
      rw [hp]
      refine (parse_bad s (s.data.toList.length - rest.length) w h100 ?_).mono fun e w' ⟨h1, h2⟩ => ⟨by rw [h1]; rfl, h2⟩
      rcases d2 with h | ⟨st, h, h2, h3⟩
      · exact Or.inl h
      · exact Or.inr ⟨st, h, h2, h3⟩
    | some p =>
      obtain ⟨st, hr, hgood, hnm, hrel, hne⟩ := S1 _ _ hq
      have hInv := run_inv _ _ 0 _ _ inv0 hr
      have hN : s.data.toList.length ≤ 100 := by show s.size ≤ 100; omega
      have hlab : st.labs.length ≤ 100 := by have := hInv.len; omega
      have spec := sort_spec st.labs [] [] List.Pairwise.nil (by simp) rfl (fun i hi => by simp at hi)
      simp only [List.nil_append, List.length_nil] at spec
      obtain ⟨R1, R2⟩ := rel_sort 0 (show RelL [] [] from trivial) hrel
      rcases hsq : sortP [] 0 p.2 with ⟨o2, k⟩
      cases o2 with
      | none =>
        obtain ⟨q, hD⟩ := spec.2 k (R2 k hsq)
        have hk := (sortP_none p.2 [] 0 k hsq).2
        simp only [Nat.zero_add] at hk
        have hp : readP s.data.toList = ⟨3, (p.2[k]).at_, [], []⟩ := by
          unfold readP; rw [if_neg (by exact h100), hq]; simp only [hsq, List.getElem?_eq_getElem hk, Option.getD_some]
        have hat : (p.2[k]).at_ = (st.labs[k]'hD.lti).at_ := (hrel.get k hk).2.1
        unfold plainP
        rw [hp]
        refine (parse_dup s st k q w h100 hr hgood hD hlab).mono fun e w' ⟨h1, h2⟩ => ⟨by rw [h1, ← hat]; rfl, h2⟩
      | some r =>
        obtain ⟨r', e1, e2⟩ := R1 r k hsq
        obtain ⟨t1, t2, t3, t4⟩ := spec.1 r' k e1
        have hp : readP s.data.toList = ⟨0, 0, p.1, r⟩ := by
          unfold readP; rw [if_neg (by exact h100), hq]; simp only [hsq]
        unfold plainP
        rw [hp]
        refine (parse_ok s st r' w h100 hr hgood t4 hlab t1 (fun x => (t2 x).symm) t3 (fun x hx => hne x ((t2 x).1 hx)) (by have := hInv.name; omega) (fun x hx => by have := hInv.each x ((t2 x).1 hx); omega)).mono fun e w' ⟨h1, h2⟩ => ⟨?_, h2⟩
        rw [h1, hnm]
        simp only [if_true]
        rw [rel_plain e2]

end Go.Proofs.YtcfdemhokbddiaaGreatDoor
