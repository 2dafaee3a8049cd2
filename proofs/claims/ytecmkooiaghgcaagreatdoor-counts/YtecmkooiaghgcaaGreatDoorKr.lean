/-
  The document's own answer: IsName, limited, same.
-/
import Derived.Test.YtecmkooiaghgcaaGreatDoorKq

namespace Go.Proofs.YtecmkooiaghgcaaGreatDoor
open Go.RowKit

set_option maxHeartbeats 1000000 in
theorem same_any (v u : Value) (xs ys : List Int) (w : World) (hv : IntSl w v xs) (hu : IntSl w u ys) (hm : xs.length ≤ 9223372036854775807) :
    Calls Tryz.prog 37 #[v, u] w fun e w' => e = .returned (.bool (decide (xs = ys))) ∧ ∃ q, w' = w.drewN q := by
  obtain ⟨sa, ca, rfl, _, hxs⟩ := hv
  obtain ⟨sb, cb, rfl, _, hys⟩ := hu
  by_cases hn : xs.length = ys.length
  · have HN : Hid (xs.length = ys.length) := hn
    rw [← hn]
    clear hn
    go_enter Tryz.func37, Tryz.ntmps37
    go_wp2_with fail
    go_loopw [5] (fun i wr => ∃ k : Nat, i = .int .i64 (k : Int) ∧ k ≤ xs.length ∧ Hid (∀ j (h : j < xs.length) (h' : j < ys.length), j < k → xs[j] = ys[j]) ∧ ∃ q, wr = w.drewN q) (fun i _ => xs.length - (intOf i).toNat)
    case atStart => exact ⟨0, rfl, by omega, fun j _ _ h => by omega, 0, rfl⟩
    case round =>
      obtain ⟨k, rfl, hk, HJ, q, rfl⟩ := hrel
      by_cases hlt : k < xs.length
      · have hlt2 : k < ys.length := by rw [← HN.out]; exact hlt
        rcases hxs with h | ⟨b1, o1, rfl, h1⟩
        · rw [h] at hlt; simp at hlt
        rcases hys with h | ⟨b2, o2, rfl, h2⟩
        · rw [h] at hlt2; simp at hlt2
        have c1 : w.cell? ⟨b1, o1 + k, none⟩ = some (.int .i64 xs[k]) := h1 k hlt
        have c2 : w.cell? ⟨b2, o2 + k, none⟩ = some (.int .i64 ys[k]) := h2 k hlt2
        have HE : Hid (decide (xs = ys) = true → xs[k] = ys[k]) := by intro h; have e := of_decide_eq_true h; subst e; rfl
        obtain ⟨x, hx⟩ : ∃ x, x = xs[k] := ⟨_, rfl⟩
        obtain ⟨y, hy⟩ : ∃ y, y = ys[k] := ⟨_, rfl⟩
        have HX : Hid (x = xs[k] ∧ y = ys[k]) := ⟨hx, hy⟩
        rw [← hx] at c1 HE
        rw [← hy] at c2 HE
        have hlti : (k : Int) < (xs.length : Int) := by omega
        clear hx hy h1 h2
        by_cases he : x = y
        · have HE2 : Hid (x = y) := he
          have hne : (x != y) = false := by simp [he]
          clear he HE
          go_wp2_with fail
          go_quiet (fail)
          go_wp2
          go_roundw
          case rel =>
            refine ⟨k + 1, by go_num, by omega, fun j h h' hj => ?_, _, rfl⟩
            by_cases e : j = k
            · subst e; rw [← HX.out.1, ← HX.out.2]; exact HE2.out
            · exact HJ.out j h h' (by omega)
          case measure => simp [intOf]; omega
        · have hne : (x != y) = true := by simp [he]
          have HE2 : Hid (decide (xs = ys) = false) := by
            show _ = _
            cases hd : decide (xs = ys) with
            | false => rfl
            | true => exact absurd (HE.out hd) he
          clear he HE
          go_wp2_with fail
          go_quiet (fail)
          go_wp2
          go_ret
          exact ⟨by rw [HE2.out]; rfl, drew2 _ _ _⟩
      · have HE2 : Hid (decide (xs = ys) = true) := by
          show _ = _
          refine decide_eq_true (List.ext_getElem HN.out fun j h h' => HJ.out j h h' (by omega))
        go_wp2
        go_ret
        exact ⟨by rw [HE2.out]; rfl, _, rfl⟩
  · have HE2 : Hid (decide (xs = ys) = false) := by
      show _ = _
      exact decide_eq_false fun e => hn (by rw [e])
    have hne : ((xs.length : Int) != (ys.length : Int)) = true := by simp; omega
    go_enter Tryz.func37, Tryz.ntmps37
    go_wp2
    go_ret
    exact ⟨by rw [HE2.out]; rfl, 0, rfl⟩


theorem nameLen_all (k : Nat) (l : List UInt8) : nameLen k l = l.length ↔ ∀ j (h : j < l.length), goesB (k + j) ((l[j]).toNat : Int) = true := by
  induction l generalizing k with
  | nil => simp [nameLen]
  | cons c l ih =>
    unfold nameLen
    constructor
    · intro h j hj
      split at h
      · rename_i hc
        have hl : nameLen (k + 1) l = l.length := by simp at h; omega
        cases j with
        | zero => simpa [goesB] using hc
        | succ j =>
          have := (ih (k + 1)).1 hl j (by simpa using hj)
          simpa [Nat.add_assoc, Nat.add_comm 1 j] using this
      · simp at h
    · intro h
      have h0 := h 0 (by simp)
      rw [if_pos (by simpa [goesB] using h0)]
      have hl := (ih (k + 1)).2 (fun j hj => by
        have := h (j + 1) (by simpa using hj)
        simpa [Nat.add_assoc, Nat.add_comm 1 j] using this)
      simp; omega
theorem isNameB_iff (l : List UInt8) : isNameB l = true ↔ l ≠ [] ∧ ∀ j (h : j < l.length), goesB j ((l[j]).toNat : Int) = true := by
  unfold isNameB
  rw [Bool.and_eq_true, decide_eq_true_eq, decide_eq_true_eq]
  constructor
  · rintro ⟨h1, h2⟩
    refine ⟨fun e => by rw [e] at h1; simp [nameLen] at h1, fun j hj => ?_⟩
    have := (nameLen_all 0 l).1 h2 j hj
    simpa using this
  · rintro ⟨h1, h2⟩
    have h3 : nameLen 0 l = l.length := (nameLen_all 0 l).2 (fun j hj => by simpa using h2 j hj)
    refine ⟨?_, h3⟩
    rw [h3]
    cases l with
    | nil => exact absurd rfl h1
    | cons c l => simp

set_option maxHeartbeats 400000 in
theorem refIsName_any (s : ByteArray) (w : World) :
    Calls Tryz.prog 34 #[.string s] w fun e w' => e = .returned (.bool (isNameB s.data.toList)) ∧ w' = w := by
  have HI : Hid (isNameB s.data.toList = true ↔ s.data.toList ≠ [] ∧ ∀ j (h : j < s.data.toList.length), goesB j (((s.data.toList)[j]).toNat : Int) = true) := isNameB_iff _
  go_enter Tryz.func34, Tryz.ntmps34
  go_wp2
  go_loop [3] (fun i => ∃ k : Nat, k ≤ s.size ∧ k ≤ 12 ∧ i = .int .i64 (k : Int) ∧ Hid (∀ j (h : j < s.size), j < k → goesB j ((s[j]'h).toNat : Int) = true)) (fun i => 13 - (intOf i).toNat)
  case atStart => exact ⟨0, Nat.zero_le _, by omega, rfl, fun j h hj => by omega⟩
  case round =>
    obtain ⟨k, hk, hk12, rfl, HA⟩ := hrel
    by_cases hlt : k < s.size
    · have hlti : (k : Int) < (s.size : Int) := by omega
      have HG : Hid (Calls Tryz.prog 54 #[.int .i64 (k : Int), .int .u8 (s[k].toNat : Int)] w fun e w' => e = .returned (.bool (goesB k (s[k].toNat : Int))) ∧ w' = w) := goes_any k _ w (by omega)
      cases hg : goesB k (s[k].toNat : Int) with
      | true =>
        have HG2 : Hid (goesB k (s[k].toNat : Int) = true) := hg
        rw [hg] at HG
        have h12 : k < 12 := by have := hg; unfold goesB at this; exact (of_decide_eq_true this).1
        clear hg
        go_wp2_with (go_at_call 54; refine HG.out.mono ?_; rintro e w' ⟨rfl, rfl⟩)
        go_round
        case rel =>
          refine ⟨k + 1, by omega, by omega, by go_num, fun j h hj => ?_⟩
          by_cases hjk : j = k
          · subst hjk; exact HG2.out
          · exact HA.out j h (by omega)
        case measure => simp [intOf]; omega
      | false =>
        have HE : Hid (isNameB s.data.toList = false) := by
          show _ = _
          cases hq : isNameB s.data.toList with
          | false => rfl
          | true =>
            have := (HI.out.1 hq).2 k hlt
            have e : goesB k (s[k].toNat : Int) = true := this
            rw [hg] at e; cases e
        rw [hg] at HG
        clear hg
        go_wp2_with (go_at_call 54; refine HG.out.mono ?_; rintro e w' ⟨rfl, rfl⟩)
        go_ret
        exact ⟨by rw [HE.out]; rfl, rfl⟩
    · have hki : ¬ (k : Int) < (s.size : Int) := by omega
      have HK : Hid (k = s.size) := by show _ = _; omega
      by_cases h0 : s.size = 0
      · obtain rfl : s = ⟨#[]⟩ := by
          apply ByteArray.ext
          exact Array.eq_empty_of_size_eq_zero h0
        have HE : Hid (isNameB (⟨#[]⟩ : ByteArray).data.toList = false) := by simp [Hid, isNameB, nameLen]
        clear h0
        go_wp2
        go_ret
        exact ⟨by rw [HE.out]; simp, rfl⟩
      · have HE : Hid (isNameB s.data.toList = true) := by
          refine HI.out.2 ⟨fun e => h0 ?_, fun j hj => ?_⟩
          · have : s.data.toList.length = 0 := by rw [e]; rfl
            exact this
          · have hj' : j < s.size := hj
            exact HA.out j hj' (by have := HK.out; omega)
        have hne : (s.toList == []) = false := by
          rw [Lib.toList_data]
          cases hq : s.data.toList with
          | nil => exact absurd (by have : s.data.toList.length = 0 := by rw [hq]; rfl
                                    exact this) h0
          | cons c l => rfl
        clear h0
        go_wp2
        go_ret
        exact ⟨by rw [HE.out]; simp, rfl⟩

/-- What the document's 'limited' answers. -/
def limB (kind : Int) (xs : List Int) : Bool := if kind = 3 then (xs.all inB && riseB xs) && decide (1 ≤ xs.length ∧ xs.length ≤ 4) else decide (xs = [])

theorem rise_step {xs : List Int} {k : Nat} (hk : k < xs.length) (h0 : 0 < k) (h : riseB xs = true) : xs[k - 1] < xs[k] := by
  have := ((riseB_iff xs).1 h).get _ (k - 1) k hk (by omega)
  simpa [ltI] using this
theorem rise_of {xs : List Int} (h : ∀ k (hk : k < xs.length), 0 < k → xs[k - 1] < xs[k]) : riseB xs = true := by
  rw [riseB_iff]
  unfold KSrt
  rw [List.pairwise_iff_getElem]
  intro i j hi hj hij
  have : ∀ d, (hd : i + d < xs.length) → 0 < d → xs[i] < xs[i + d] := by
    intro d
    induction d with
    | zero => intro _ h; omega
    | succ d ih =>
      intro hd _
      have h1 := h (i + (d + 1)) hd (by omega)
      have e : i + (d + 1) - 1 = i + d := by omega
      simp only [e] at h1
      by_cases d0 : d = 0
      · subst d0; simpa using h1
      · have h2 := ih (by omega) (by omega)
        omega
  have h2 := this (j - i) (by omega) (by omega)
  have e : i + (j - i) = j := by omega
  simp only [e] at h2
  simpa [ltI] using h2

set_option maxRecDepth 100000 in
set_option maxHeartbeats 1000000 in
theorem limited_any (kind : Int) (v : Value) (xs : List Int) (w : World) (hv : IntSl w v xs) (hm : xs.length ≤ 9223372036854775807) :
    Calls Tryz.prog 35 #[.int .i64 kind, v] w fun e w' => e = .returned (.bool (limB kind xs)) ∧ ∃ q, w' = w.drewN q := by
  obtain ⟨sa, ca, rfl, _, hxs⟩ := hv
  by_cases h3 : kind = 3
  · subst h3
    have HL : Hid (limB 3 xs = ((xs.all inB && riseB xs) && decide (1 ≤ xs.length ∧ xs.length ≤ 4))) := by simp [Hid, limB]
    go_enter Tryz.func35, Tryz.ntmps35
    go_wp2_with fail
    go_loopw [5] (fun i wr => ∃ k : Nat, i = .int .i64 (k : Int) ∧ k ≤ xs.length ∧ (∃ q, wr = w.drewN q) ∧ Hid (∀ j (h : j < xs.length), j < k → inB xs[j] = true ∧ (0 < j → xs[j - 1] < xs[j]))) (fun i _ => xs.length - (intOf i).toNat)
    case atStart => exact ⟨0, rfl, by omega, ⟨0, rfl⟩, fun j _ h => by omega⟩
    case round =>
      obtain ⟨k, rfl, hk, ⟨q, rfl⟩, HJ⟩ := hrel
      by_cases hlt : k < xs.length
      · rcases hxs with h | ⟨b1, o1, rfl, h1⟩
        · rw [h] at hlt; simp at hlt
        have c1 : w.cell? ⟨b1, o1 + k, none⟩ = some (.int .i64 xs[k]) := h1 k hlt
        have hlti : (k : Int) < (xs.length : Int) := by omega
        have HB : Hid (inB xs[k] = false → limB 3 xs = false) := by
          intro h
          rw [HL.out]
          have : xs.all inB = false := by
            rw [List.all_eq_false]
            exact ⟨xs[k], List.getElem_mem hlt, by rw [h]; simp⟩
          rw [this]; simp
        have HR : Hid (0 < k → ¬ xs[k - 1] < xs[k] → limB 3 xs = false) := by
          intro h0 h
          rw [HL.out]
          have : riseB xs = false := by
            cases hq : riseB xs with
            | false => rfl
            | true => exact absurd (rise_step hlt h0 hq) h
          rw [this]; simp
        have HS : Hid (inB xs[k] = true → (0 < k → xs[k - 1] < xs[k]) → ∀ j (h : j < xs.length), j < k + 1 → inB xs[j] = true ∧ (0 < j → xs[j - 1] < xs[j])) := by
          intro p1 p2 j h hj
          by_cases e : j = k
          · subst e; exact ⟨p1, p2⟩
          · exact HJ.out j h (by omega)
        have HC0 : Hid (0 < k → w.cell? ⟨b1, o1 + (k - 1), none⟩ = some (.int .i64 (xs[k - 1]'(by omega)))) := fun h0 => h1 (k - 1) (by omega)
        obtain ⟨x, hx⟩ : ∃ x, xs[k] = x := ⟨_, rfl⟩
        rw [hx] at c1 HB HR HS
        clear hx h1
        by_cases hx1 : x < -1000000000
        · have HE : Hid (limB 3 xs = false) := HB.out (by simp [inB]; omega)
          go_wp2_with fail
          go_quiet (fail)
          go_wp2
          go_ret
          exact ⟨by rw [HE.out]; rfl, drew2 _ _ _⟩
        · have hx1' : decide (x < -1000000000) = false := decide_eq_false hx1
          by_cases hx2 : x > 1000000000
          · have HE : Hid (limB 3 xs = false) := HB.out (by simp [inB]; omega)
            have hx2' : (1000000000 : Int) < x := hx2
            go_wp2_with fail
            go_quiet (fail)
            go_wp2
            go_ret
            exact ⟨by rw [HE.out]; rfl, drew2 _ _ _⟩
          · have hx2' : decide ((1000000000 : Int) < x) = false := decide_eq_false hx2
            have HIN : Hid (inB x = true) := by simp [Hid, inB]; omega
            by_cases h0 : 0 < k
            · have h0i : (0 : Int) < (k : Int) := by omega
              have c2 := HC0.out h0
              have htn : ((k : Int) - 1).toNat = k - 1 := by omega
              have hb1 : (k : Int) - 1 < (xs.length : Int) := by omega
              have hb2 : (0 : Int) ≤ (k : Int) - 1 := by omega
              have hw1 : IntKind.i64.wrap ((k : Int) - 1) = (k : Int) - 1 := by rw [IntKind.wrap_i64]; omega
              obtain ⟨y, hy⟩ : ∃ y, xs[k - 1]'(by omega) = y := ⟨_, rfl⟩
              rw [hy] at c2
              have HRY : Hid (¬ y < x → limB 3 xs = false) := fun h => HR.out h0 (by rw [hy]; exact h)
              have HSY : Hid (y < x → ∀ j (h : j < xs.length), j < k + 1 → inB xs[j] = true ∧ (0 < j → xs[j - 1] < xs[j])) := fun h => HS.out HIN.out (fun _ => by rw [hy]; exact h)
              clear hy HR HS HC0
              by_cases hxy : x ≤ y
              · have HE : Hid (limB 3 xs = false) := HRY.out (by omega)
                go_wp2_with fail
                go_quiet (fail)
                go_wp2
                go_ret
                exact ⟨by rw [HE.out]; rfl, drew2 _ _ _⟩
              · have hxy' : decide (x ≤ y) = false := decide_eq_false hxy
                have HNEW := HSY.out (by omega)
                have HN : Hid (∀ j (h : j < xs.length), j < k + 1 → inB xs[j] = true ∧ (0 < j → xs[j - 1] < xs[j])) := HNEW
                clear HNEW HSY HRY
                go_wp2_with fail
                go_quiet (fail)
                go_wp2
                go_roundw
                case rel => exact ⟨k + 1, by go_num, by omega, by first | exact ⟨_, rfl⟩ | exact drew2 _ _ _, HN.out⟩
                case measure => simp [intOf]; omega
            · have h0i : decide ((0 : Int) < (k : Int)) = false := decide_eq_false (by omega)
              have HNEW := HS.out HIN.out (fun h => absurd h h0)
              have HN : Hid (∀ j (h : j < xs.length), j < k + 1 → inB xs[j] = true ∧ (0 < j → xs[j - 1] < xs[j])) := HNEW
              clear HNEW HS HR HC0
              go_wp2_with fail
              go_quiet (fail)
              go_wp2
              go_roundw
              case rel => exact ⟨k + 1, by go_num, by omega, by first | exact ⟨_, rfl⟩ | exact drew2 _ _ _, HN.out⟩
              case measure => simp [intOf]; omega
      · have hki : ¬ (k : Int) < (xs.length : Int) := by omega
        have HE : Hid (limB 3 xs = decide (1 ≤ xs.length ∧ xs.length ≤ 4)) := by
          show _ = _
          rw [HL.out]
          have h1 : xs.all inB = true := by
            rw [List.all_eq_true]
            intro x hx
            obtain ⟨j, hj, rfl⟩ := List.getElem_of_mem hx
            exact (HJ.out j hj (by omega)).1
          have h2 : riseB xs = true := rise_of fun j hj h0 => (HJ.out j hj (by omega)).2 h0
          rw [h1, h2]; simp
        by_cases ha : 1 ≤ xs.length
        · have ha' : (1 : Int) ≤ (xs.length : Int) := by omega
          by_cases hb : xs.length ≤ 4
          · have hb' : (xs.length : Int) ≤ 4 := by omega
            have HD : Hid (decide (1 ≤ xs.length ∧ xs.length ≤ 4) = true) := decide_eq_true ⟨ha, hb⟩
            go_wp2
            go_ret
            exact ⟨by rw [HE.out, HD.out]; rfl, _, rfl⟩
          · have hb' : ¬ (xs.length : Int) ≤ 4 := by omega
            have HD : Hid (decide (1 ≤ xs.length ∧ xs.length ≤ 4) = false) := decide_eq_false (fun h => hb h.2)
            go_wp2
            go_ret
            exact ⟨by rw [HE.out, HD.out]; rfl, _, rfl⟩
        · have ha' : ¬ (1 : Int) ≤ (xs.length : Int) := by omega
          have HD : Hid (decide (1 ≤ xs.length ∧ xs.length ≤ 4) = false) := decide_eq_false (fun h => ha h.1)
          go_wp2
          go_ret
          exact ⟨by rw [HE.out, HD.out]; rfl, _, rfl⟩
  · have h3' : (kind != 3) = true := by simpa using h3
    have HE : Hid (limB kind xs = ((xs.length : Int) == 0)) := by
      show _ = _
      unfold limB
      rw [if_neg h3, Bool.eq_iff_iff]; simp
    clear h3
    go_enter Tryz.func35, Tryz.ntmps35
    go_wp2
    go_ret
    exact ⟨by rw [HE.out]; rfl, 0, rfl⟩

/-- Both say the same of the limits. -/
theorem fit_lim (kind : Int) (xs : List Int) : fitB kind xs = (decide (1 ≤ kind ∧ kind ≤ 3) && limB kind xs) := by
  by_cases h1 : kind = 1
  · subst h1; simp [fitB, limB]
  by_cases h2 : kind = 2
  · subst h2; simp [fitB, limB]
  by_cases h3 : kind = 3
  · subst h3
    rw [Bool.eq_iff_iff]
    simp only [fitB, limB]
    simp only [Bool.and_eq_true, decide_eq_true_eq]
    simp
    constructor
    · rintro ⟨⟨a, b⟩, c, d, e⟩
      refine ⟨⟨?_, c⟩, a, b⟩
      intro x hx
      obtain ⟨j, hj, rfl⟩ := List.getElem_of_mem hx
      have hs := (riseB_iff xs).1 c
      have h0 : xs.head?.getD 0 = xs[0]'(by omega) := by
        cases xs with
        | nil => simp at hj
        | cons x xs => rfl
      have hl : xs.getLast?.getD 0 = xs[xs.length - 1]'(by omega) := by
        rw [List.getLast?_eq_getElem?, List.getElem?_eq_getElem (by omega)]; rfl
      rw [h0] at d
      rw [hl] at e
      simp only [inB, decide_eq_true_eq] at d e ⊢
      constructor
      · by_cases hj0 : j = 0
        · subst hj0; omega
        · have := hs.get _ 0 j hj (by omega)
          simp [ltI] at this
          omega
      · by_cases hjl : j = xs.length - 1
        · subst hjl; omega
        · have := hs.get _ j (xs.length - 1) (by omega) (by omega)
          simp [ltI] at this
          omega
    · rintro ⟨⟨a, b⟩, c, d⟩
      refine ⟨⟨c, d⟩, b, ?_, ?_⟩
      · cases xs with
        | nil => simp at c
        | cons x xs => exact a x (by simp)
      · cases hq : xs.getLast? with
        | none => simp at hq; subst hq; simp at c
        | some x => exact a x (List.mem_of_getLast? hq)
  · have : ¬ (1 ≤ kind ∧ kind ≤ 3) := by omega
    simp [fitB, h1, h2, h3, this]

end Go.Proofs.YtecmkooiaghgcaaGreatDoor
