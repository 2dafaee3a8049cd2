/-
  The document's own answer: IsName, limited, same.
-/
import Derived.Test.YtcfdemhokbddiaaGreatDoorQKp
import Derived.Test.YtcfdemhokbddiaaGreatDoorQZa
import Derived.Deep.DeepCutAuto


namespace Go.Proofs.YtcfdemhokbddiaaGreatDoor
open Go.RowKit

set_option maxRecDepth 100000 in
set_option maxHeartbeats 1000000 in
theorem refSame_any (v u : Value) (xs ys : List Int) (w : World) (hv : IntSl w v xs) (hu : IntSl w u ys) (hm : xs.length ≤ 9223372036854775807) :
    Calls Tryz.prog 84 #[v, u] w fun e w' => e = .returned (.bool (decide (xs = ys))) ∧ ∃ q, w' = w.drewN q := by
  obtain ⟨sa, ca, rfl, _, hxs⟩ := hv
  obtain ⟨sb, cb, rfl, _, hys⟩ := hu
  by_cases hn : xs.length = ys.length
  · have HN : Hid (xs.length = ys.length) := hn
    rw [← hn]
    clear hn
    go_enter Tryz.func84, Tryz.ntmps84
    go_wp2_with fail
    go_loopw [5] (fun i wr => ∃ k : Nat, i = .int .i64 (k : Int) ∧ k ≤ xs.length ∧ Hid (∀ j (h : j < xs.length) (h' : j < ys.length), j < k → xs[j] = ys[j]) ∧ ∃ q, wr = w.drewN q) (fun i _ => xs.length - (intOf i).toNat)
    case atStart => exact ⟨0, rfl, by omega, fun j _ _ h => by omega, 0, rfl⟩
    case round =>
      obtain ⟨k, rfl, hk, HJ, q, rfl⟩ := hrel
      by_cases hlt : k < xs.length
      · have hlt2 : k < ys.length := by rw [← HN.out]; exact hlt
        rcases hxs with h | ⟨b1, o1, rfl, h1⟩
        · rw [h] at hlt; simp at hlt
        rcases hys with h | ⟨b2, o2, rfl, h2⟩
        · rw [h] at hlt2; simp at hlt2
        have c1 : w.cell? ⟨b1, o1 + k, none⟩ = some (.int .i64 xs[k]) := h1 k hlt
        have c2 : w.cell? ⟨b2, o2 + k, none⟩ = some (.int .i64 ys[k]) := h2 k hlt2
        have HE : Hid (decide (xs = ys) = true → xs[k] = ys[k]) := by intro h; have e := of_decide_eq_true h; subst e; rfl
        obtain ⟨x, hx⟩ : ∃ x, x = xs[k] := ⟨_, rfl⟩
        obtain ⟨y, hy⟩ : ∃ y, y = ys[k] := ⟨_, rfl⟩
        have HX : Hid (x = xs[k] ∧ y = ys[k]) := ⟨hx, hy⟩
        rw [← hx] at c1 HE
        rw [← hy] at c2 HE
        have hlti : (k : Int) < (xs.length : Int) := by omega
        clear hx hy h1 h2
        by_cases he : x = y
        · have HE2 : Hid (x = y) := he
          have hne : (x != y) = false := by simp [he]
          clear he HE
          go_wp2_with fail
          go_quiet (fail)
          go_wp2
          go_roundw
          case rel =>
            refine ⟨k + 1, by go_num, by omega, fun j h h' hj => ?_, _, rfl⟩
            by_cases e : j = k
            · subst e; rw [← HX.out.1, ← HX.out.2]; exact HE2.out
            · exact HJ.out j h h' (by omega)
          case measure => simp [intOf]; omega
        · have hne : (x != y) = true := by simp [he]
          have HE2 : Hid (decide (xs = ys) = false) := by
            show _ = _
            cases hd : decide (xs = ys) with
            | false => rfl
            | true => exact absurd (HE.out hd) he
          clear he HE
          go_wp2_with fail
          go_quiet (fail)
          go_wp2
          go_ret
          exact ⟨by rw [HE2.out]; rfl, drew2 _ _ _⟩
      · have HE2 : Hid (decide (xs = ys) = true) := by
          show _ = _
          refine decide_eq_true (List.ext_getElem HN.out fun j h h' => HJ.out j h h' (by omega))
        go_wp2
        go_ret
        exact ⟨by rw [HE2.out]; rfl, _, rfl⟩
  · have HE2 : Hid (decide (xs = ys) = false) := by
      show _ = _
      exact decide_eq_false fun e => hn (by rw [e])
    have hne : ((xs.length : Int) != (ys.length : Int)) = true := by simp; omega
    go_enter Tryz.func84, Tryz.ntmps84
    go_wp2
    go_ret
    exact ⟨by rw [HE2.out]; rfl, 0, rfl⟩


theorem nameLen_all (k : Nat) (l : List UInt8) : nameLen k l = l.length ↔ ∀ j (h : j < l.length), goesB (k + j) ((l[j]).toNat : Int) = true := by
  induction l generalizing k with
  | nil => simp [nameLen]
  | cons c l ih =>
    unfold nameLen
    constructor
    · intro h j hj
      split at h
      · rename_i hc
        have hl : nameLen (k + 1) l = l.length := by simp at h; omega
        cases j with
        | zero => simpa [goesB] using hc
        | succ j =>
          have := (ih (k + 1)).1 hl j (by simpa using hj)
          simpa [Nat.add_assoc, Nat.add_comm 1 j] using this
      · simp at h
    · intro h
      have h0 := h 0 (by simp)
      rw [if_pos (by simpa [goesB] using h0)]
      have hl := (ih (k + 1)).2 (fun j hj => by
        have := h (j + 1) (by simpa using hj)
        simpa [Nat.add_assoc, Nat.add_comm 1 j] using this)
      simp; omega
theorem isNameB_iff (l : List UInt8) : isNameB l = true ↔ l ≠ [] ∧ ∀ j (h : j < l.length), goesB j ((l[j]).toNat : Int) = true := by
  unfold isNameB
  rw [Bool.and_eq_true, decide_eq_true_eq, decide_eq_true_eq]
  constructor
  · rintro ⟨h1, h2⟩
    refine ⟨fun e => by rw [e] at h1; simp [nameLen] at h1, fun j hj => ?_⟩
    have := (nameLen_all 0 l).1 h2 j hj
    simpa using this
  · rintro ⟨h1, h2⟩
    have h3 : nameLen 0 l = l.length := (nameLen_all 0 l).2 (fun j hj => by simpa using h2 j hj)
    refine ⟨?_, h3⟩
    rw [h3]
    cases l with
    | nil => exact absurd rfl h1
    | cons c l => simp

set_option maxRecDepth 100000 in
set_option maxHeartbeats 400000 in
theorem refIsName_any (s : ByteArray) (w : World) :
    Calls Tryz.prog 81 #[.string s] w fun e w' => e = .returned (.bool (isNameB s.data.toList)) ∧ w' = w := by
  have HI : Hid (isNameB s.data.toList = true ↔ s.data.toList ≠ [] ∧ ∀ j (h : j < s.data.toList.length), goesB j (((s.data.toList)[j]).toNat : Int) = true) := isNameB_iff _
  go_enter Tryz.func81, Tryz.ntmps81
  go_wp2
  go_loop [3] (fun i => ∃ k : Nat, k ≤ s.size ∧ k ≤ 12 ∧ i = .int .i64 (k : Int) ∧ Hid (∀ j (h : j < s.size), j < k → goesB j ((s[j]'h).toNat : Int) = true)) (fun i => 13 - (intOf i).toNat)
  case atStart => exact ⟨0, Nat.zero_le _, by omega, rfl, fun j h hj => by omega⟩
  case round =>
    obtain ⟨k, hk, hk12, rfl, HA⟩ := hrel
    by_cases hlt : k < s.size
    · have hlti : (k : Int) < (s.size : Int) := by omega
      have HG : Hid (Calls Tryz.prog 118 #[.int .i64 (k : Int), .int .u8 (s[k].toNat : Int)] w fun e w' => e = .returned (.bool (goesB k (s[k].toNat : Int))) ∧ w' = w) := goes_any k _ w (by omega)
      cases hg : goesB k (s[k].toNat : Int) with
      | true =>
        have HG2 : Hid (goesB k (s[k].toNat : Int) = true) := hg
        rw [hg] at HG
        have h12 : k < 12 := by have := hg; unfold goesB at this; exact (of_decide_eq_true this).1
        clear hg
        go_wp2_with (go_at_call 118; refine HG.out.mono ?_; rintro e w' ⟨rfl, rfl⟩)
        go_round
        case rel =>
          refine ⟨k + 1, by omega, by omega, by go_num, fun j h hj => ?_⟩
          by_cases hjk : j = k
          · subst hjk; exact HG2.out
          · exact HA.out j h (by omega)
        case measure => simp [intOf]; omega
      | false =>
        have HE : Hid (isNameB s.data.toList = false) := by
          show _ = _
          cases hq : isNameB s.data.toList with
          | false => rfl
          | true =>
            have := (HI.out.1 hq).2 k hlt
            have e : goesB k (s[k].toNat : Int) = true := this
            rw [hg] at e; cases e
        rw [hg] at HG
        clear hg
        go_wp2_with (go_at_call 118; refine HG.out.mono ?_; rintro e w' ⟨rfl, rfl⟩)
        go_ret
        exact ⟨by rw [HE.out]; rfl, rfl⟩
    · have hki : ¬ (k : Int) < (s.size : Int) := by omega
      have HK : Hid (k = s.size) := by show _ = _; omega
      by_cases h0 : s.size = 0
      · obtain rfl : s = ⟨#[]⟩ := by
          apply ByteArray.ext
          exact Array.eq_empty_of_size_eq_zero h0
        have HE : Hid (isNameB (⟨#[]⟩ : ByteArray).data.toList = false) := by simp [Hid, isNameB, nameLen]
        clear h0
        go_wp2
        go_ret
        exact ⟨by rw [HE.out]; simp, rfl⟩
      · have HE : Hid (isNameB s.data.toList = true) := by
          refine HI.out.2 ⟨fun e => h0 ?_, fun j hj => ?_⟩
          · have : s.data.toList.length = 0 := by rw [e]; rfl
            exact this
          · have hj' : j < s.size := hj
            exact HA.out j hj' (by have := HK.out; omega)
        have hne : (s.toList == []) = false := by
          rw [Lib.toList_data]
          cases hq : s.data.toList with
          | nil => exact absurd (by have : s.data.toList.length = 0 := by rw [hq]; rfl
                                    exact this) h0
          | cons c l => rfl
        clear h0
        go_wp2
        go_ret
        exact ⟨by rw [HE.out]; simp, rfl⟩

/-- What the document's 'limited' answers. -/
def limB (kind : Int) (xs : List Int) : Bool := if kind = 3 then (xs.all inB && riseB xs) && decide (1 ≤ xs.length ∧ xs.length ≤ 4) else decide (xs = [])

theorem rise_step {xs : List Int} {k : Nat} (hk : k < xs.length) (h0 : 0 < k) (h : riseB xs = true) : xs[k - 1] < xs[k] := by
  have := ((riseB_iff xs).1 h).get _ (k - 1) k hk (by omega)
  simpa [ltI] using this
theorem rise_of {xs : List Int} (h : ∀ k (hk : k < xs.length), 0 < k → xs[k - 1] < xs[k]) : riseB xs = true := by
  rw [riseB_iff]
  unfold KSrt
  rw [List.pairwise_iff_getElem]
  intro i j hi hj hij
  have : ∀ d, (hd : i + d < xs.length) → 0 < d → xs[i] < xs[i + d] := by
    intro d
    induction d with
    | zero => intro _ h; omega
    | succ d ih =>
      intro hd _
      have h1 := h (i + (d + 1)) hd (by omega)
      have e : i + (d + 1) - 1 = i + d := by omega
      simp only [e] at h1
      by_cases d0 : d = 0
      · subst d0; simpa using h1
      · have h2 := ih (by omega) (by omega)
        omega
  have h2 := this (j - i) (by omega) (by omega)
  have e : i + (j - i) = j := by omega
  simp only [e] at h2
  simpa [ltI] using h2

set_option maxRecDepth 100000 in
set_option maxRecDepth 100000 in
set_option maxHeartbeats 1000000 in
theorem limited_any (kind : Int) (v : Value) (xs : List Int) (w : World) (hv : IntSl w v xs) (hm : xs.length ≤ 9223372036854775807) :
    Calls Tryz.prog 82 #[.int .i64 kind, v] w fun e w' => e = .returned (.bool (limB kind xs)) ∧ ∃ q, w' = w.drewN q := by
  obtain ⟨sa, ca, rfl, _, hxs⟩ := hv
  by_cases h3 : kind = 3
  · subst h3
    have HL : Hid (limB 3 xs = ((xs.all inB && riseB xs) && decide (1 ≤ xs.length ∧ xs.length ≤ 4))) := by simp [Hid, limB]
    go_enter Tryz.func82, Tryz.ntmps82
    go_wp2_with fail
    go_loopw [5] (fun i wr => ∃ k : Nat, i = .int .i64 (k : Int) ∧ k ≤ xs.length ∧ (∃ q, wr = w.drewN q) ∧ Hid (∀ j (h : j < xs.length), j < k → inB xs[j] = true ∧ (0 < j → xs[j - 1] < xs[j]))) (fun i _ => xs.length - (intOf i).toNat)
    case atStart => exact ⟨0, rfl, by omega, ⟨0, rfl⟩, fun j _ h => by omega⟩
    case round =>
      obtain ⟨k, rfl, hk, ⟨q, rfl⟩, HJ⟩ := hrel
      by_cases hlt : k < xs.length
      · rcases hxs with h | ⟨b1, o1, rfl, h1⟩
        · rw [h] at hlt; simp at hlt
        have c1 : w.cell? ⟨b1, o1 + k, none⟩ = some (.int .i64 xs[k]) := h1 k hlt
        have hlti : (k : Int) < (xs.length : Int) := by omega
        have HB : Hid (inB xs[k] = false → limB 3 xs = false) := by
          intro h
          rw [HL.out]
          have : xs.all inB = false := by
            rw [List.all_eq_false]
            exact ⟨xs[k], List.getElem_mem hlt, by rw [h]; simp⟩
          rw [this]; simp
        have HR : Hid (0 < k → ¬ xs[k - 1] < xs[k] → limB 3 xs = false) := by
          intro h0 h
          rw [HL.out]
          have : riseB xs = false := by
            cases hq : riseB xs with
            | false => rfl
            | true => exact absurd (rise_step hlt h0 hq) h
          rw [this]; simp
        have HS : Hid (inB xs[k] = true → (0 < k → xs[k - 1] < xs[k]) → ∀ j (h : j < xs.length), j < k + 1 → inB xs[j] = true ∧ (0 < j → xs[j - 1] < xs[j])) := by
          intro p1 p2 j h hj
          by_cases e : j = k
          · subst e; exact ⟨p1, p2⟩
          · exact HJ.out j h (by omega)
        have HC0 : Hid (0 < k → w.cell? ⟨b1, o1 + (k - 1), none⟩ = some (.int .i64 (xs[k - 1]'(by omega)))) := fun h0 => h1 (k - 1) (by omega)
        obtain ⟨x, hx⟩ : ∃ x, xs[k] = x := ⟨_, rfl⟩
        rw [hx] at c1 HB HR HS
        clear hx h1
        by_cases hx1 : x < -1000000000
        · have HE : Hid (limB 3 xs = false) := HB.out (by simp [inB]; omega)
          go_wp2_with fail
          go_quiet (fail)
          go_wp2
          go_ret
          exact ⟨by rw [HE.out]; rfl, drew2 _ _ _⟩
        · have hx1' : decide (x < -1000000000) = false := decide_eq_false hx1
          by_cases hx2 : x > 1000000000
          · have HE : Hid (limB 3 xs = false) := HB.out (by simp [inB]; omega)
            have hx2' : (1000000000 : Int) < x := hx2
            go_wp2_with fail
            go_quiet (fail)
            go_wp2
            go_ret
            exact ⟨by rw [HE.out]; rfl, drew2 _ _ _⟩
          · have hx2' : decide ((1000000000 : Int) < x) = false := decide_eq_false hx2
            have HIN : Hid (inB x = true) := by simp [Hid, inB]; omega
            by_cases h0 : 0 < k
            · have h0i : (0 : Int) < (k : Int) := by omega
              have c2 := HC0.out h0
              have htn : ((k : Int) - 1).toNat = k - 1 := by omega
              have hb1 : (k : Int) - 1 < (xs.length : Int) := by omega
              have hb2 : (0 : Int) ≤ (k : Int) - 1 := by omega
              have hw1 : IntKind.i64.wrap ((k : Int) - 1) = (k : Int) - 1 := by rw [IntKind.wrap_i64]; omega
              obtain ⟨y, hy⟩ : ∃ y, xs[k - 1]'(by omega) = y := ⟨_, rfl⟩
              rw [hy] at c2
              have HRY : Hid (¬ y < x → limB 3 xs = false) := fun h => HR.out h0 (by rw [hy]; exact h)
              have HSY : Hid (y < x → ∀ j (h : j < xs.length), j < k + 1 → inB xs[j] = true ∧ (0 < j → xs[j - 1] < xs[j])) := fun h => HS.out HIN.out (fun _ => by rw [hy]; exact h)
              clear hy HR HS HC0
              by_cases hxy : x ≤ y
              · have HE : Hid (limB 3 xs = false) := HRY.out (by omega)
                go_wp2_with fail
                go_quiet (fail)
                go_wp2
                go_ret
                exact ⟨by rw [HE.out]; rfl, drew2 _ _ _⟩
              · have hxy' : decide (x ≤ y) = false := decide_eq_false hxy
                have HNEW := HSY.out (by omega)
                have HN : Hid (∀ j (h : j < xs.length), j < k + 1 → inB xs[j] = true ∧ (0 < j → xs[j - 1] < xs[j])) := HNEW
                clear HNEW HSY HRY
                go_wp2_with fail
                go_quiet (fail)
                go_wp2
                go_roundw
                case rel => exact ⟨k + 1, by go_num, by omega, by first | exact ⟨_, rfl⟩ | exact drew2 _ _ _, HN.out⟩
                case measure => simp [intOf]; omega
            · have h0i : decide ((0 : Int) < (k : Int)) = false := decide_eq_false (by omega)
              have HNEW := HS.out HIN.out (fun h => absurd h h0)
              have HN : Hid (∀ j (h : j < xs.length), j < k + 1 → inB xs[j] = true ∧ (0 < j → xs[j - 1] < xs[j])) := HNEW
              clear HNEW HS HR HC0
              go_wp2_with fail
              go_quiet (fail)
              go_wp2
              go_roundw
              case rel => exact ⟨k + 1, by go_num, by omega, by first | exact ⟨_, rfl⟩ | exact drew2 _ _ _, HN.out⟩
              case measure => simp [intOf]; omega
      · have hki : ¬ (k : Int) < (xs.length : Int) := by omega
        have HE : Hid (limB 3 xs = decide (1 ≤ xs.length ∧ xs.length ≤ 4)) := by
          show _ = _
          rw [HL.out]
          have h1 : xs.all inB = true := by
            rw [List.all_eq_true]
            intro x hx
            obtain ⟨j, hj, rfl⟩ := List.getElem_of_mem hx
            exact (HJ.out j hj (by omega)).1
          have h2 : riseB xs = true := rise_of fun j hj h0 => (HJ.out j hj (by omega)).2 h0
          rw [h1, h2]; simp
        by_cases ha : 1 ≤ xs.length
        · have ha' : (1 : Int) ≤ (xs.length : Int) := by omega
          by_cases hb : xs.length ≤ 4
          · have hb' : (xs.length : Int) ≤ 4 := by omega
            have HD : Hid (decide (1 ≤ xs.length ∧ xs.length ≤ 4) = true) := decide_eq_true ⟨ha, hb⟩
            go_wp2
            go_ret
            exact ⟨by rw [HE.out, HD.out]; rfl, _, rfl⟩
          · have hb' : ¬ (xs.length : Int) ≤ 4 := by omega
            have HD : Hid (decide (1 ≤ xs.length ∧ xs.length ≤ 4) = false) := decide_eq_false (fun h => hb h.2)
            go_wp2
            go_ret
            exact ⟨by rw [HE.out, HD.out]; rfl, _, rfl⟩
        · have ha' : ¬ (1 : Int) ≤ (xs.length : Int) := by omega
          have HD : Hid (decide (1 ≤ xs.length ∧ xs.length ≤ 4) = false) := decide_eq_false (fun h => ha h.1)
          go_wp2
          go_ret
          exact ⟨by rw [HE.out, HD.out]; rfl, _, rfl⟩
  · have h3' : (kind != 3) = true := by simpa using h3
    have HE : Hid (limB kind xs = ((xs.length : Int) == 0)) := by
      show _ = _
      unfold limB
      rw [if_neg h3, Bool.eq_iff_iff]; simp
    clear h3
    go_enter Tryz.func82, Tryz.ntmps82
    go_wp2
    go_ret
    exact ⟨by rw [HE.out]; rfl, 0, rfl⟩

/-- Both say the same of the limits. -/
theorem fit_lim (kind : Int) (xs : List Int) : fitB kind xs = (decide (1 ≤ kind ∧ kind ≤ 3) && limB kind xs) := by
  by_cases h1 : kind = 1
  · subst h1; simp [fitB, limB]
  by_cases h2 : kind = 2
  · subst h2; simp [fitB, limB]
  by_cases h3 : kind = 3
  · subst h3
    rw [Bool.eq_iff_iff]
    simp only [fitB, limB]
    simp only [Bool.and_eq_true, decide_eq_true_eq]
    simp
    constructor
    · rintro ⟨⟨a, b⟩, c, d, e⟩
      refine ⟨⟨?_, c⟩, a, b⟩
      intro x hx
      obtain ⟨j, hj, rfl⟩ := List.getElem_of_mem hx
      have hs := (riseB_iff xs).1 c
      have h0 : xs.head?.getD 0 = xs[0]'(by omega) := by
        cases xs with
        | nil => simp at hj
        | cons x xs => rfl
      have hl : xs.getLast?.getD 0 = xs[xs.length - 1]'(by omega) := by
        rw [List.getLast?_eq_getElem?, List.getElem?_eq_getElem (by omega)]; rfl
      rw [h0] at d
      rw [hl] at e
      simp only [inB, decide_eq_true_eq] at d e ⊢
      constructor
      · by_cases hj0 : j = 0
        · subst hj0; omega
        · have := hs.get _ 0 j hj (by omega)
          simp [ltI] at this
          omega
      · by_cases hjl : j = xs.length - 1
        · subst hjl; omega
        · have := hs.get _ j (xs.length - 1) (by omega) (by omega)
          simp [ltI] at this
          omega
    · rintro ⟨⟨a, b⟩, c, d⟩
      refine ⟨⟨c, d⟩, b, ?_, ?_⟩
      · cases xs with
        | nil => simp at c
        | cons x xs => exact a x (by simp)
      · cases hq : xs.getLast? with
        | none => simp at hq; subst hq; simp at c
        | some x => exact a x (List.mem_of_getLast? hq)
  · have : ¬ (1 ≤ kind ∧ kind ≤ 3) := by omega
    simp [fitB, h1, h2, h3, this]

end Go.Proofs.YtcfdemhokbddiaaGreatDoor

/-
  The document's own board: its blocks; looking up a family, a series.
-/
namespace Go.Proofs.YtcfdemhokbddiaaGreatDoor
open Go.RowKit

structure RF where
  nm : List UInt8
  kind : Int
  lv : Value
  ls : List Int
structure RSer where
  fam : List UInt8
  text : List UInt8
  nv : Value
  ns : List Int
structure RB where
  b : Nat
  fv : Value
  fams : List RF
  sv : Value
  ser : List RSer
  rest : List Value
def rfCells (f : RF) : List Value := [.string (B f.nm), .int .i64 f.kind, f.lv]
def rsCells (x : RSer) : List Value := [.string (B x.fam), .string (B x.text), x.nv]
def RB.own (r : RB) : List Nat := r.b :: (r.fv.ownBlock.toList ++ (r.sv.ownBlock.toList ++ (r.fams.flatMap (fun f => f.lv.ownBlock.toList) ++ r.ser.flatMap (fun x => x.nv.ownBlock.toList))))
structure RB.At (w : World) (r : RB) : Prop where
  blk : w.heap[r.b]? = some (.cells (r.fv :: r.sv :: r.rest).toArray 149)
  frows : w.ownsRow 0 154 3 r.fv r.fams.length (r.fams.flatMap rfCells)
  srows : w.ownsRow 0 156 3 r.sv r.ser.length (r.ser.flatMap rsCells)
  lims : ∀ f ∈ r.fams, w.ownsRow 0 3 1 f.lv f.ls.length (ints f.ls)
  nums : ∀ x ∈ r.ser, w.ownsRow 0 3 1 x.nv x.ns.length (ints x.ns)
  nodup : r.own.Nodup
structure RB.Ok (m : Nat) (r : RB) : Prop where
  flen : r.fams.length ≤ 8
  slen : r.ser.length ≤ 24
  each : ∀ x ∈ r.ser, x.ns.length ≤ m
  flim : ∀ f ∈ r.fams, f.ls.length ≤ 4

theorem RB.At.lt {w : World} {r : RB} (h : RB.At w r) : ∀ b ∈ r.own, b < w.heap.size := by
  intro b hb
  simp only [RB.own, List.mem_cons, List.mem_append, List.mem_flatMap] at hb
  rcases hb with rfl | hb | hb | ⟨f, hf, hb⟩ | ⟨x, hx, hb⟩
  · exact lt_of h.blk
  · exact own_lt h.frows b hb
  · exact own_lt h.srows b hb
  · exact own_lt (h.lims f hf) b hb
  · exact own_lt (h.nums x hx) b hb
theorem RB.At.frame {w w' : World} {r : RB} (h : RB.At w r) (hk : ∀ b ∈ r.own, w'.heap[b]? = w.heap[b]?) : RB.At w' r := by
  have hm : ∀ b, (b = r.b ∨ b ∈ r.fv.ownBlock.toList ∨ b ∈ r.sv.ownBlock.toList ∨ (∃ f ∈ r.fams, b ∈ f.lv.ownBlock.toList) ∨ (∃ x ∈ r.ser, b ∈ x.nv.ownBlock.toList)) → w'.heap[b]? = w.heap[b]? := fun b hb => hk b (by
    simp only [RB.own, List.mem_cons, List.mem_append, List.mem_flatMap]; exact hb)
  exact ⟨(hm _ (Or.inl rfl)).trans h.blk, own_frame h.frows fun b hb => hm b (Or.inr (Or.inl hb)), own_frame h.srows fun b hb => hm b (Or.inr (Or.inr (Or.inl hb))),
    fun f hf => own_frame (h.lims f hf) fun b hb => hm b (Or.inr (Or.inr (Or.inr (Or.inl ⟨f, hf, hb⟩)))), fun x hx => own_frame (h.nums x hx) fun b hb => hm b (Or.inr (Or.inr (Or.inr (Or.inr ⟨x, hx, hb⟩)))), h.nodup⟩
theorem RB.At.gb {w w' : World} {r : RB} (h : RB.At w r) (hg : w.grownBy w' none) : RB.At w' r := h.frame fun b hb => hg.block b (h.lt b hb) (by simp)
theorem RB.At.kept {w w' : World} {r : RB} {L : List Nat} (h : RB.At w r) (hk : Kept L w w') (hd : ∀ b ∈ r.own, b ∉ L) : RB.At w' r :=
  h.frame fun b hb => hk.block b (h.lt b hb) (hd b hb)

theorem rb_cells {w : World} {r : RB} (h : RB.At w r) : w.cell? ⟨r.b, 0, none⟩ = some r.fv ∧ w.cell? ⟨r.b, 1, none⟩ = some r.sv ∧ w.frozen? ⟨r.b, 0, none⟩ = false ∧ w.frozen? ⟨r.b, 1, none⟩ = false := by
  have hb := h.blk
  refine ⟨?_, ?_, ?_, ?_⟩
  · unfold World.cell?; simp only [hb]; rfl
  · unfold World.cell?; simp only [hb]; rfl
  · unfold World.frozen?; simp only [hb]; simp
  · unfold World.frozen?; simp only [hb]; simp
theorem own_shape3 {w : World} {base : Nat} {e : TypeId} {v : Value} {n : Nat} {xs : List Value} (h : w.ownsRow base e 3 v n xs) :
    ∃ sa sc, v = .slice sa n sc ∧ n ≤ sc ∧ ((sa = none ∧ n = 0 ∧ sc = 0) ∨ ∃ g, sa = some ⟨g, 0, none⟩ ∧ g < w.heap.size) := by
  rcases h.2 with ⟨rfl, rfl⟩ | ⟨g, cap, cur, rfl, _, hg, hn, _⟩
  · exact ⟨none, 0, rfl, Nat.le_refl _, Or.inl ⟨rfl, rfl, rfl⟩⟩
  · exact ⟨_, _, rfl, hn, Or.inr ⟨g, rfl, lt_of hg⟩⟩
theorem flat3_get {α : Type} (f : α → List Value) (hf : ∀ x, (f x).length = 3) (xs : List α) (k : Nat) (hk : k < xs.length) (j : Nat) (hj : j < 3) : (xs.flatMap f)[k * 3 + j]? = (f xs[k])[j]? := by
  induction xs generalizing k with
  | nil => simp at hk
  | cons x xs ih =>
    rw [List.flatMap_cons]
    cases k with
    | zero => rw [List.getElem?_append_left (by rw [hf]; omega)]; simp
    | succ k =>
      rw [List.getElem?_append_right (by rw [hf]; omega), hf, show (k + 1) * 3 + j - 3 = k * 3 + j from by omega]
      exact ih k (by simpa using hk)
theorem row3_cell {α : Type} {f : α → List Value} {w : World} {base : Nat} {e : TypeId} {g n cap : Nat} {xs : List α} (h : w.ownsRow base e 3 (.slice (some ⟨g, 0, none⟩) n cap) n (xs.flatMap f)) (hf : ∀ x, (f x).length = 3) (k : Nat) (hk : k < xs.length) (j : Nat) (hj : j < 3) (v : Value) (hv : (f xs[k])[j]? = some v) :
    w.cell? ⟨g, k * 3 + j, none⟩ = some v := by
  have := h.cells (g := g) rfl (k * 3 + j) v (by rw [flat3_get f hf xs k hk j hj]; exact hv)
  rw [Addr.add_lit] at this
  simpa using this

/-- Where a key stands first; -1: nowhere. -/
def LookOut {α : Type} (L : List α) (key : α → List UInt8) (nm : List UInt8) (code : Int) : Prop :=
  ((∀ f ∈ L, key f ≠ nm) ∧ code = -1) ∨ (∃ A f B', L = A ++ f :: B' ∧ key f = nm ∧ (∀ g ∈ A, key g ≠ nm) ∧ code = (A.length : Int))

set_option maxRecDepth 100000 in
set_option maxHeartbeats 400000 in
theorem refFamily_any (r : RB) (nm : List UInt8) (w : World) (h : RB.At w r) (hl : r.fams.length ≤ 100) :
    Calls Tryz.prog 83 #[.pointer (some ⟨r.b, 0, none⟩), .string (B nm)] w fun e w' => w' = w ∧ ∃ code, e = .returned (.int .i64 code) ∧ LookOut r.fams RF.nm nm code := by
  obtain ⟨c0, c1, z0, z1⟩ := rb_cells h
  obtain ⟨sa, sc, hfv, _, hsa⟩ := own_shape3 h.frows
  have HC : Hid (∀ ga, sa = some ⟨ga, 0, none⟩ → ∀ k (hk : k < r.fams.length), w.cell? ⟨ga, k * 3 + 0, none⟩ = some (.string (B (r.fams[k]).nm))) := by
    rintro ga rfl k hk
    have hr := h.frows
    rw [hfv] at hr
    exact row3_cell hr (fun x => rfl) k hk 0 (by omega) _ rfl
  rw [hfv] at c0
  have en := toList_B nm
  clear h hfv
  go_enter Tryz.func83, Tryz.ntmps83
  go_wp2_with fail
  go_loop [5] (fun i => ∃ k : Nat, i = .int .i64 (k : Int) ∧ k ≤ r.fams.length ∧ Hid (∀ j (h : j < r.fams.length), j < k → (r.fams[j]).nm ≠ nm)) (fun i => 100 - (intOf i).toNat)
  case atStart => exact ⟨0, rfl, by omega, fun j _ h => by omega⟩
  case round =>
    obtain ⟨k, rfl, hk, HJ⟩ := hrel
    by_cases hlt : k < r.fams.length
    · obtain ⟨ga, rfl⟩ : ∃ ga, sa = some ⟨ga, 0, none⟩ := by
        rcases hsa with ⟨_, h0, _⟩ | ⟨ga, h1, _⟩
        · omega
        · exact ⟨ga, h1⟩
      have d1 := HC.out ga rfl k hlt
      rw [Nat.add_zero] at d1
      have hki : (k : Int) < (r.fams.length : Int) := by omega
      by_cases he : (r.fams[k]).nm = nm
      · have HE : Hid (r.fams = r.fams.take k ++ r.fams[k] :: r.fams.drop (k + 1) ∧ (r.fams[k]).nm = nm ∧ (∀ g ∈ r.fams.take k, g.nm ≠ nm) ∧ (r.fams.take k).length = k) := by
          refine ⟨split_at _ _ hlt, he, fun g hg => ?_, by simp; omega⟩
          obtain ⟨j, hj, rfl⟩ := List.getElem_of_mem hg
          rw [List.length_take] at hj
          rw [List.getElem_take]
          exact HJ.out j (by omega) (by omega)
        rw [he] at d1
        clear he
        go_wp2
        go_ret
        obtain ⟨q1, q2, q3, q4⟩ := HE.out
        exact ⟨rfl, _, rfl, Or.inr ⟨_, _, _, q1, q2, q3, by rw [q4]⟩⟩
      · have HE : Hid ((r.fams[k]).nm ≠ nm) := he
        have ek := toList_B (r.fams[k]).nm
        have hb : ((r.fams[k]).nm == nm) = false := by simpa using he
        clear he
        obtain ⟨x, hx⟩ : ∃ x, (r.fams[k]).nm = x := ⟨_, rfl⟩
        rw [hx] at d1 ek hb
        clear hx
        go_wp2
        go_round
        case rel =>
          refine ⟨k + 1, by go_num, by omega, fun j h hj => ?_⟩
          by_cases e : j = k
          · subst e; exact HE.out
          · exact HJ.out j h (by omega)
        case measure => simp [intOf]; omega
    · have hki : ¬ (k : Int) < (r.fams.length : Int) := by omega
      have HE : Hid (∀ f ∈ r.fams, f.nm ≠ nm) := by
        intro f hf
        obtain ⟨j, hj, rfl⟩ := List.getElem_of_mem hf
        exact HJ.out j hj (by omega)
      go_wp2
      go_ret
      exact ⟨rfl, _, rfl, Or.inl ⟨HE.out, rfl⟩⟩

set_option maxRecDepth 100000 in
set_option maxHeartbeats 400000 in
theorem refSeries_any (r : RB) (nm : List UInt8) (w : World) (h : RB.At w r) (hl : r.ser.length ≤ 100) :
    Calls Tryz.prog 85 #[.pointer (some ⟨r.b, 0, none⟩), .string (B nm)] w fun e w' => w' = w ∧ ∃ code, e = .returned (.int .i64 code) ∧ LookOut r.ser RSer.text nm code := by
  obtain ⟨c0, c1, z0, z1⟩ := rb_cells h
  obtain ⟨sa, sc, hfv, _, hsa⟩ := own_shape3 h.srows
  have HC : Hid (∀ ga, sa = some ⟨ga, 0, none⟩ → ∀ k (hk : k < r.ser.length), w.cell? ⟨ga, k * 3 + 1, none⟩ = some (.string (B (r.ser[k]).text))) := by
    rintro ga rfl k hk
    have hr := h.srows
    rw [hfv] at hr
    exact row3_cell hr (fun x => rfl) k hk 1 (by omega) _ rfl
  rw [hfv] at c1
  have en := toList_B nm
  clear h hfv
  go_enter Tryz.func85, Tryz.ntmps85
  go_wp2_with fail
  go_loop [5] (fun i => ∃ k : Nat, i = .int .i64 (k : Int) ∧ k ≤ r.ser.length ∧ Hid (∀ j (h : j < r.ser.length), j < k → (r.ser[j]).text ≠ nm)) (fun i => 100 - (intOf i).toNat)
  case atStart => exact ⟨0, rfl, by omega, fun j _ h => by omega⟩
  case round =>
    obtain ⟨k, rfl, hk, HJ⟩ := hrel
    by_cases hlt : k < r.ser.length
    · obtain ⟨ga, rfl⟩ : ∃ ga, sa = some ⟨ga, 0, none⟩ := by
        rcases hsa with ⟨_, h0, _⟩ | ⟨ga, h1, _⟩
        · omega
        · exact ⟨ga, h1⟩
      have d1 := HC.out ga rfl k hlt
      have hki : (k : Int) < (r.ser.length : Int) := by omega
      by_cases he : (r.ser[k]).text = nm
      · have HE : Hid (r.ser = r.ser.take k ++ r.ser[k] :: r.ser.drop (k + 1) ∧ (r.ser[k]).text = nm ∧ (∀ g ∈ r.ser.take k, g.text ≠ nm) ∧ (r.ser.take k).length = k) := by
          refine ⟨split_at _ _ hlt, he, fun g hg => ?_, by simp; omega⟩
          obtain ⟨j, hj, rfl⟩ := List.getElem_of_mem hg
          rw [List.length_take] at hj
          rw [List.getElem_take]
          exact HJ.out j (by omega) (by omega)
        rw [he] at d1
        clear he
        go_wp2
        go_ret
        obtain ⟨q1, q2, q3, q4⟩ := HE.out
        exact ⟨rfl, _, rfl, Or.inr ⟨_, _, _, q1, q2, q3, by rw [q4]⟩⟩
      · have HE : Hid ((r.ser[k]).text ≠ nm) := he
        have ek := toList_B (r.ser[k]).text
        have hb : ((r.ser[k]).text == nm) = false := by simpa using he
        clear he
        obtain ⟨x, hx⟩ : ∃ x, (r.ser[k]).text = x := ⟨_, rfl⟩
        rw [hx] at d1 ek hb
        clear hx
        go_wp2
        go_round
        case rel =>
          refine ⟨k + 1, by go_num, by omega, fun j h hj => ?_⟩
          by_cases e : j = k
          · subst e; exact HE.out
          · exact HJ.out j h (by omega)
        case measure => simp [intOf]; omega
    · have hki : ¬ (k : Int) < (r.ser.length : Int) := by omega
      have HE : Hid (∀ f ∈ r.ser, f.text ≠ nm) := by
        intro f hf
        obtain ⟨j, hj, rfl⟩ := List.getElem_of_mem hf
        exact HJ.out j hj (by omega)
      go_wp2
      go_ret
      exact ⟨rfl, _, rfl, Or.inl ⟨HE.out, rfl⟩⟩

end Go.Proofs.YtcfdemhokbddiaaGreatDoor

/-
  append onto a row of one's own: it stays in its block, or goes to a new one. The document's Family.
-/
namespace Go.Proofs.YtcfdemhokbddiaaGreatDoor
open Go.RowKit

theorem run_append_foot {P : Program} (w : World) (t ty e : TypeId) (i : TypeInfo) (z : Value) (size bytes : Nat) (ht : P.underlying t = some (.slice e)) (hi : P.info? e = some i) (hz : i.zero = some z)
    (hsize : i.size = size) (hby : i.bytes = bytes) (hzs : z.cells.size = size) (hsz : 0 < size)
    (v : Value) (n : Nat) (xs : List Value) (hown : w.ownsRow 0 e size v n xs)
    (a : Addr) (m c : Nat) (hm : 0 < m) (news : List Value) (hl : news.length = m * size) (hnews : ∀ j u, news[j]? = some u → w.cell? (a.add j) = some u) (h1 : ∀ u ∈ news, u.oneCell' = true)
    (h63 : n + m ≤ maxLen) (hbytes : (n + m) * bytes ≤ 140737488355328) :
    ∃ v' w', (Builtin.append_ #[t, t] ty #[v, .slice (some a) m c]).run P w = .ok v' w' ∧ w'.ownsRow 0 e size v' (n + m) (xs ++ news) ∧ w.grownBy w' v.ownBlock ∧ (v'.ownBlock = v.ownBlock ∨ v'.ownBlock = some w.heap.size) := by
  obtain ⟨v', w', hr, h2, h3, _⟩ := run_append_own (P := P) w 0 t ty e i z size bytes ht hi hz hsize hby hzs hsz v n xs hown a m c news hl hnews h1 h63 hbytes (Nat.zero_le _)
  refine ⟨v', w', hr, h2, h3, ?_⟩
  subst hsize
  subst hby
  have hmx : ((n + m : Nat) : Int) ≤ 9223372036854775807 := by unfold maxLen at h63; omega
  rcases hown.2 with ⟨rfl, rfl⟩ | ⟨g, cap, cur, rfl, hbg, hg, hnc, hcm, hcs, htake⟩
  · have hr2 := run_append_nil (P := P) w t ty e i z ht hi hz a m c news hl hnews hm (by omega) (by have hb := hbytes; simp only [Nat.zero_add] at hb; rw [Nat.mul_comm] at hb ⊢; omega)
    have := hr.symm.trans hr2
    injection this with e1 _
    right; rw [e1]; rfl
  · by_cases hroom : n + m ≤ cap
    · have hfit : n * i.size + news.length ≤ cur.size := by rw [hl, hcs, ← Nat.add_mul]; exact Nat.mul_le_mul_right _ hroom
      have hr2 := run_append_room (P := P) w t ty e i ht hi g n cap cur hg a m c news hl hnews h1 hroom hfit
      have := hr.symm.trans hr2
      injection this with e1 _
      left; rw [e1]; rfl
    · have holds : ∀ j u, xs[j]? = some u → w.cell? ((⟨g, 0, none⟩ : Addr).add j) = some u := hown.cells (g := g) rfl
      have hr2 := run_append_grow (P := P) w t ty e i z ht hi hz ⟨g, 0, none⟩ n cap xs hown.1 holds a m c news hl hnews (by omega) hmx (growslice_fits (by omega) hbytes)
      have := hr.symm.trans hr2
      injection this with e1 _
      right; rw [e1]; rfl

theorem wpList_append_foot {P : Program} (w : World) {ops : Array Oper} {rest : List Oper} {o : Oper} {a : Act} {Q : Exit → Act → World → Prop} (hgd : o.guard = none) (s x : Operand) (t : TypeId)
    (ho : o.op = .call { callee := .builtin .append, args := #[s, x], argTypes := #[t, t] })
    (e : TypeId) (i : TypeInfo) (z : Value) (size bytes : Nat) (ht : P.underlying t = some (.slice e)) (hi : P.info? e = some i) (hz : i.zero = some z)
    (hsize : i.size = size) (hby : i.bytes = bytes) (hzs : z.cells.size = size) (hsz : 0 < size)
    (v : Value) (n : Nat) (xs : List Value) (hs : a.eval s = v) (hown : w.ownsRow 0 e size v n xs)
    (ad : Addr) (m c : Nat) (hm : 0 < m) (news : List Value) (hx : a.eval x = .slice (some ad) m c) (hl : news.length = m * size) (hnews : ∀ j u, news[j]? = some u → w.cell? (ad.add j) = some u) (h1 : ∀ u ∈ news, u.oneCell' = true)
    (h63 : n + m ≤ maxLen) (hbytes : (n + m) * bytes ≤ 140737488355328)
    (h : ∀ v' w', w'.ownsRow 0 e size v' (n + m) (xs ++ news) → w.grownBy w' v.ownBlock → (v'.ownBlock = v.ownBlock ∨ v'.ownBlock = some w.heap.size) → wpList P ops Q rest (a.put o.dst v') w') : wpList P ops Q (o :: rest) a w := by
  obtain ⟨v', w', hr, h2, h3, h4⟩ := run_append_foot (P := P) w t o.type e i z size bytes ht hi hz hsize hby hzs hsz v n xs hown ad m c hm news hl hnews h1 h63 hbytes
  refine wpList_plain hgd fun K hK => ?_
  unfold Oper.wp
  simp [execOp, ho, resolve, invoke, builtin, hs, hx, hr, Result.andThen]
  exact hK _ _ (h v' w' h2 h3 h4)

theorem step_append_foot {P : Program} {ops : Array Oper} {o : Oper} {a : Act} {w : World} {K : Act → World → Prop} {Q : Exit → Act → World → Prop} {E : Prop} (hgd : o.guard = none) (s x : Operand) (t : TypeId)
    (ho : o.op = .call { callee := .builtin .append, args := #[s, x], argTypes := #[t, t] })
    (e : TypeId) (i : TypeInfo) (z : Value) (size bytes : Nat) (ht : P.underlying t = some (.slice e)) (hi : P.info? e = some i) (hz : i.zero = some z)
    (hsize : i.size = size) (hby : i.bytes = bytes) (hzs : z.cells.size = size) (hsz : 0 < size)
    (v : Value) (n : Nat) (xs : List Value) (hs : a.eval s = v) (hown : w.ownsRow 0 e size v n xs)
    (ad : Addr) (m c : Nat) (hm : 0 < m) (news : List Value) (hx : a.eval x = .slice (some ad) m c) (hl : news.length = m * size) (hnews : ∀ j u, news[j]? = some u → w.cell? (ad.add j) = some u) (h1 : ∀ u ∈ news, u.oneCell' = true)
    (h63 : n + m ≤ maxLen) (hbytes : (n + m) * bytes ≤ 140737488355328)
    (h : ∀ v' w', w'.ownsRow 0 e size v' (n + m) (xs ++ news) → w.grownBy w' v.ownBlock → (v'.ownBlock = v.ownBlock ∨ v'.ownBlock = some w.heap.size) → K (a.put o.dst v') w') :
    if Region.wanted o (yielded ops a.tmps) = true then Oper.wp P o a w K Q else E := by
  obtain ⟨v', w', hr, h2, h3, h4⟩ := run_append_foot (P := P) w t o.type e i z size bytes ht hi hz hsize hby hzs hsz v n xs hown ad m c hm news hl hnews h1 h63 hbytes
  rw [if_pos (by simp [Region.wanted, hgd])]
  unfold Oper.wp
  simp [execOp, ho, resolve, invoke, builtin, hs, hx, hr, Result.andThen]
  exact h v' w' h2 h3 h4

theorem nodup_swap {P G S G' : List Nat} {n : Nat} (h : (P ++ (G ++ S)).Nodup) (hg : G'.Nodup) (hs : ∀ b ∈ G', b ∈ G ∨ n ≤ b) (hl : ∀ b ∈ P ++ S, b < n) : (P ++ (G' ++ S)).Nodup := by
  simp only [List.nodup_append, List.mem_append] at h hl ⊢
  obtain ⟨h1, ⟨h2, h3, h4⟩, h5⟩ := h
  refine ⟨h1, ⟨hg, h3, fun a ha b hb e => ?_⟩, fun a ha b hb e => ?_⟩
  · subst e
    rcases hs a ha with h | h
    · exact h4 a h a hb rfl
    · have := hl a (Or.inr hb); omega
  · subst e
    rcases hb with hb | hb
    · rcases hs a hb with h | h
      · exact h5 a ha a (Or.inl h) rfl
      · have := hl a (Or.inl ha); omega
    · exact h5 a ha a (Or.inr hb) rfl

/-- What is told of the document's board. -/
structure RV where
  fams : List (List UInt8 × Int × List Int)
  ser : List (List UInt8 × List UInt8 × List Int)
def RB.view (r : RB) : RV := ⟨r.fams.map fun f => (f.nm, f.kind, f.ls), r.ser.map fun x => (x.fam, x.text, x.ns)⟩

structure ROut (m : Nat) (r r' : RB) (w w' : World) : Prop where
  at_ : RB.At w' r'
  ok : RB.Ok m r'
  b : r'.b = r.b
  rest : r'.rest = r.rest
  kept : Kept r.own w w'
  sub : ∀ x ∈ r'.own, x ∈ r.own ∨ w.heap.size ≤ x
theorem ROut.same {m : Nat} {r : RB} {w w' : World} (h : RB.At w r) (ho : RB.Ok m r) (hg : w.grownBy w' none) : ROut m r r w w' :=
  ⟨h.gb hg, ho, rfl, rfl, Kept.of_none hg _, fun _ hx => Or.inl hx⟩
theorem ROut.from {m : Nat} {r r' : RB} {w w1 w' : World} (hg : w.grownBy w1 none) (h : ROut m r r' w1 w') : ROut m r r' w w' :=
  ⟨h.at_, h.ok, h.b, h.rest, (Kept.of_none hg _).trans h.kept, fun x hx => by
    rcases h.sub x hx with h1 | h1
    · exact Or.inl h1
    · exact Or.inr (Nat.le_trans hg.size h1)⟩

def RFamOut (R : RV) (nm : List UInt8) (kind : Int) (xs : List Int) (code : Int) (R' : RV) : Prop :=
  (isNameB nm = false ∧ code = 2 ∧ R' = R) ∨
  (isNameB nm = true ∧ fitB kind xs = false ∧ code = 4 ∧ R' = R) ∨
  (isNameB nm = true ∧ fitB kind xs = true ∧ (∃ f ∈ R.fams, f.1 = nm ∧ code = remP kind f.2.1 xs f.2.2) ∧ R' = R) ∨
  (isNameB nm = true ∧ fitB kind xs = true ∧ (∀ f ∈ R.fams, f.1 ≠ nm) ∧ R.fams.length = 8 ∧ code = 7 ∧ R' = R) ∨
  (isNameB nm = true ∧ fitB kind xs = true ∧ (∀ f ∈ R.fams, f.1 ≠ nm) ∧ R.fams.length < 8 ∧ code = 0 ∧ R' = ⟨R.fams ++ [(nm, kind, xs)], R.ser⟩)

end Go.Proofs.YtcfdemhokbddiaaGreatDoor

/-
  The document's Family, walked.
-/
namespace Go.Proofs.YtcfdemhokbddiaaGreatDoor
open Go.RowKit

theorem opt_nodup (o : Option Nat) : o.toList.Nodup := by cases o <;> simp
theorem rb_nodup {r : RB} (h : r.own.Nodup) : (∀ b ∈ r.fv.ownBlock.toList, b ≠ r.b) ∧ (∀ b ∈ r.sv.ownBlock.toList, b ≠ r.b ∧ b ∉ r.fv.ownBlock.toList) ∧
    (∀ f ∈ r.fams, ∀ b ∈ f.lv.ownBlock.toList, b ≠ r.b ∧ b ∉ r.fv.ownBlock.toList ∧ b ∉ r.sv.ownBlock.toList) ∧
    (∀ x ∈ r.ser, ∀ b ∈ x.nv.ownBlock.toList, b ≠ r.b ∧ b ∉ r.fv.ownBlock.toList ∧ b ∉ r.sv.ownBlock.toList ∧ ∀ f ∈ r.fams, b ∉ f.lv.ownBlock.toList) := by
  simp only [RB.own, List.nodup_cons, List.nodup_append, List.mem_append, List.mem_flatMap] at h
  obtain ⟨h1, h2, ⟨h3, ⟨h4, h5, h6⟩, h7⟩, h8⟩ := h
  refine ⟨fun b hb e => h1 (Or.inl (e ▸ hb)), fun b hb => ⟨fun e => h1 (Or.inr (Or.inl (e ▸ hb))), fun hf => h8 b hf b (Or.inl hb) rfl⟩, fun f hf b hb => ⟨fun e => h1 (Or.inr (Or.inr (Or.inl ⟨f, hf, e ▸ hb⟩))), fun hv => h8 b hv b (Or.inr (Or.inl ⟨f, hf, hb⟩)) rfl, fun hv => h7 b hv b (Or.inl ⟨f, hf, hb⟩) rfl⟩,
    fun x hx b hb => ⟨fun e => h1 (Or.inr (Or.inr (Or.inr ⟨x, hx, e ▸ hb⟩))), fun hv => h8 b hv b (Or.inr (Or.inr ⟨x, hx, hb⟩)) rfl, fun hv => h7 b hv b (Or.inr ⟨x, hx, hb⟩) rfl, fun f hf hv => h6 b ⟨f, hf, hv⟩ b ⟨x, hx, hb⟩ rfl⟩⟩

/-- The document's board with one family more. -/
theorem rmade_out {m : Nat} {r : RB} {w w2 w3 : World} (h : RB.At w r) (ho : RB.Ok m r) (nm : List UInt8) (kind : Int) (xs : List Int) (hx4 : xs.length ≤ 4) (h8 : r.fams.length < 8)
    (lv : Value) (hlv : w2.ownsRow w.heap.size 3 1 lv xs.length (ints xs)) (g2 : w.grownBy w2 none)
    (fv' : Value) (o : Obj) (g3 : (w2.alloc o).grownBy w3 r.fv.ownBlock) (hfv : w3.ownsRow 0 154 3 fv' (r.fams.length + 1) (r.fams.flatMap rfCells ++ rfCells ⟨nm, kind, lv, xs⟩)) (hft : fv'.ownBlock = r.fv.ownBlock ∨ fv'.ownBlock = some (w2.alloc o).heap.size) :
    ROut m r { r with fv := fv', fams := r.fams ++ [⟨nm, kind, lv, xs⟩] } w (w3.setCell ⟨r.b, 0, none⟩ fv') := by
  have ga := gb_alloc g2 o
  have hrl := lt_of h.blk
  obtain ⟨n1, n2, n3, n4⟩ := rb_nodup h.nodup
  have hlt := h.lt
  have hsz : (w2.alloc o).heap.size = w2.heap.size + 1 := by simp
  have hnotfv : ∀ b, b < w.heap.size → b ∉ r.fv.ownBlock.toList → w3.heap[b]? = w.heap[b]? := fun b hb hn => by
    rw [g3.block b (by have := g2.size; omega) (fun e => hn (by rw [← e]; simp)), ga.block b hb (by simp)]
  have hsame : ∀ b, b < w.heap.size → b ≠ r.b → b ∉ r.fv.ownBlock.toList → (w3.setCell ⟨r.b, 0, none⟩ fv').heap[b]? = w.heap[b]? := fun b hb hne hn => by
    rw [Below.heap_setCell _ _ _ _ (by show b ≠ r.b; exact hne)]; exact hnotfv b hb hn
  have hlvlt : ∀ b ∈ lv.ownBlock.toList, w.heap.size ≤ b ∧ b < w2.heap.size := fun b hb => by
    have hb' : lv.ownBlock = some b := by simpa using hb
    exact hlv.lt b hb'
  have hfvlt : ∀ b ∈ r.fv.ownBlock.toList, b < w.heap.size := own_lt h.frows
  have hfv'ne : ∀ b ∈ fv'.ownBlock.toList, b ≠ r.b := fun b hb => by
    rcases hft with e | e
    · rw [e] at hb; exact n1 b hb
    · rw [e] at hb
      have : b = (w2.alloc o).heap.size := by simpa using hb
      have := g2.size; omega
  have hr0 := hnotfv r.b hrl (fun hm => n1 r.b hm rfl)
  refine ⟨⟨?_, ?_, ?_, ?_, ?_, ?_⟩, ⟨?_, ho.slen, ho.each, ?_⟩, rfl, rfl, ?_, ?_⟩
  · rw [text_set (hr0.trans h.blk)]; simp
  · have := own_frame hfv (w' := w3.setCell ⟨r.b, 0, none⟩ fv') (fun b hb => by rw [Below.heap_setCell _ _ _ _ (by show b ≠ r.b; exact hfv'ne b hb)])
    simpa using this
  · exact own_frame h.srows fun b hb => hsame b (own_lt h.srows b hb) (n2 b hb).1 (n2 b hb).2
  · intro f hf
    simp only [List.mem_append, List.mem_cons, List.not_mem_nil, or_false] at hf
    rcases hf with hf | rfl
    · exact own_frame (h.lims f hf) fun b hb => hsame b (own_lt (h.lims f hf) b hb) (n3 f hf b hb).1 (n3 f hf b hb).2.1
    · refine own_base0 (own_frame hlv fun b hb => ?_)
      obtain ⟨q1, q2⟩ := hlvlt b hb
      rw [Below.heap_setCell _ _ _ _ (by show b ≠ r.b; omega), g3.block b (by omega) (fun e => by
        have := hfvlt b (by rw [← e]; simp)
        omega)]
      rw [Below.heap_alloc _ _ _ q2]
  · intro x hx
    exact own_frame (h.nums x hx) fun b hb => hsame b (own_lt (h.nums x hx) b hb) (n4 x hx b hb).1 (n4 x hx b hb).2.1
  · have e0 : r.own = (r.b :: (r.fv.ownBlock.toList ++ (r.sv.ownBlock.toList ++ r.fams.flatMap (fun f => f.lv.ownBlock.toList)))) ++ ([] ++ r.ser.flatMap (fun x => x.nv.ownBlock.toList)) := by simp [RB.own]
    have hn := h.nodup
    rw [e0] at hn
    have hs1 := nodup_swap (G' := lv.ownBlock.toList) (n := w.heap.size) hn (opt_nodup _) (fun b hb => Or.inr (hlvlt b hb).1) (fun b hb => hlt b (by rw [e0]; simpa using hb))
    have e1 : (r.b :: (r.fv.ownBlock.toList ++ (r.sv.ownBlock.toList ++ r.fams.flatMap (fun f => f.lv.ownBlock.toList)))) ++ (lv.ownBlock.toList ++ r.ser.flatMap (fun x => x.nv.ownBlock.toList)) = [r.b] ++ (r.fv.ownBlock.toList ++ (r.sv.ownBlock.toList ++ (r.fams.flatMap (fun f => f.lv.ownBlock.toList) ++ (lv.ownBlock.toList ++ r.ser.flatMap (fun x => x.nv.ownBlock.toList))))) := by simp
    rw [e1] at hs1
    have e2 : ({ r with fv := fv', fams := r.fams ++ [⟨nm, kind, lv, xs⟩] } : RB).own = [r.b] ++ (fv'.ownBlock.toList ++ (r.sv.ownBlock.toList ++ (r.fams.flatMap (fun f => f.lv.ownBlock.toList) ++ (lv.ownBlock.toList ++ r.ser.flatMap (fun x => x.nv.ownBlock.toList))))) := by simp [RB.own]
    rw [e2]
    refine nodup_swap (n := (w2.alloc o).heap.size) hs1 (opt_nodup _) (fun b hb => ?_) (fun b hb => ?_)
    · rcases hft with e | e
      · rw [e] at hb; exact Or.inl hb
      · rw [e] at hb
        have : b = (w2.alloc o).heap.size := by simpa using hb
        exact Or.inr (by omega)
    · have hold : ∀ b ∈ r.own, b < (w2.alloc o).heap.size := fun b hb => by have := hlt b hb; have := g2.size; omega
      simp only [List.mem_append] at hb
      rcases hb with hb | hb | hb | hb | hb
      · exact hold b (by simp [RB.own]; simp at hb; exact Or.inl hb)
      · exact hold b (by simp only [RB.own, List.mem_cons, List.mem_append]; exact Or.inr (Or.inr (Or.inl hb)))
      · exact hold b (by simp only [RB.own, List.mem_cons, List.mem_append]; exact Or.inr (Or.inr (Or.inr (Or.inl hb))))
      · have := (hlvlt b hb).2; omega
      · exact hold b (by simp only [RB.own, List.mem_cons, List.mem_append]; exact Or.inr (Or.inr (Or.inr (Or.inr hb))))
  · simp; omega
  · intro f hf
    simp only [List.mem_append, List.mem_cons, List.not_mem_nil, or_false] at hf
    rcases hf with hf | rfl
    · exact ho.flim f hf
    · exact hx4
  · refine ⟨g3.os.trans ga.os, g3.tape.trans ga.tape, g3.output.trans ga.output, ?_, fun k hk hn => hsame k hk (fun e => hn (by rw [e]; simp [RB.own])) (fun hm => hn (by simp only [RB.own, List.mem_cons, List.mem_append]; exact Or.inr (Or.inl hm)))⟩
    have := g3.size
    have := ga.size
    simp at *; omega
  · intro b hb
    simp only [RB.own, List.mem_cons, List.mem_append, List.flatMap_append, List.flatMap_cons, List.flatMap_nil, List.append_nil] at hb ⊢
    rcases hb with hb | hb | hb | (hb | hb) | hb
    · exact Or.inl (Or.inl hb)
    · rcases hft with e | e
      · rw [e] at hb; exact Or.inl (Or.inr (Or.inl hb))
      · rw [e] at hb
        have : b = (w2.alloc o).heap.size := by simpa using hb
        have := g2.size
        exact Or.inr (by omega)
    · exact Or.inl (Or.inr (Or.inr (Or.inl hb)))
    · exact Or.inl (Or.inr (Or.inr (Or.inr (Or.inl hb))))
    · exact Or.inr (hlvlt b hb).1
    · exact Or.inl (Or.inr (Or.inr (Or.inr (Or.inr hb))))

theorem wpList_append_nil0 {P : Program} {w : World} {ops : Array Oper} {rest : List Oper} {o : Oper} {a : Act} {Q : Exit → Act → World → Prop} {s x : Operand} {t : TypeId} {v u r : Value} (hgd : o.guard = none)
    (ho : o.op = .call { callee := .builtin .append, args := #[s, x], argTypes := #[t, t] }) (hsx : a.eval s = v ∧ a.eval x = u)
    (hr : (Builtin.append_ #[t, t] o.type #[v, u]).run P w = .ok r w) (h : wpList P ops Q rest (a.put o.dst r) w) : wpList P ops Q (o :: rest) a w := by
  refine wpList_plain hgd fun K hK => ?_
  unfold Oper.wp
  simp [execOp, ho, resolve, invoke, builtin, hsx.1, hsx.2, hr, Result.andThen]
  exact hK _ _ h
theorem Tryz.info83 : (Tryz.prog.info? 154).map (fun i => (i.zero, i.size, i.bytes)) = some (some (.agg #[.string ⟨#[]⟩, .int .i64 0, .slice none 0 0]), 3, 48) := by kernel_rfl
theorem Tryz.info85 : (Tryz.prog.info? 156).map (fun i => (i.zero, i.size, i.bytes)) = some (some (.agg #[.string ⟨#[]⟩, .string ⟨#[]⟩, .slice none 0 0]), 3, 56) := by kernel_rfl

set_option maxRecDepth 100000 in
set_option maxRecDepth 100000 in
set_option maxHeartbeats 2000000 in
theorem refFam_any (r : RB) (nm : List UInt8) (kind : Int) (v : Value) (xs : List Int) (m : Nat) (w : World) (h : RB.At w r) (ho : RB.Ok m r) (hv : IntSl w v xs) (hm : xs.length ≤ 9223372036854775807) :
    Calls Tryz.prog 47 #[.pointer (some ⟨r.b, 0, none⟩), .string (B nm), .int .i64 kind, v] w fun e w' => ∃ r' code, e = .returned (.int .i64 code) ∧ ROut m r r' w w' ∧ RFamOut r.view nm kind xs code r'.view := by
  have HH : Hid (RB.At w r) := h
  have HO : Hid (RB.Ok m r) := ho
  have HV : Hid (IntSl w v xs) := hv
  obtain ⟨sa, ca, rfl⟩ := intSl_shape hv
  have hIN := refIsName_any (B nm) w
  rw [data_B] at hIN
  have HIN : Hid (Calls Tryz.prog 81 #[.string (B nm)] w _) := hIN
  have HLI : Hid (Calls Tryz.prog 82 #[.int .i64 kind, .slice sa xs.length ca] w _) := limited_any kind _ xs w hv hm
  have hfl := ho.flen
  have HFA : Hid (∀ q, Calls Tryz.prog 83 #[.pointer (some ⟨r.b, 0, none⟩), .string (B nm)] (w.drewN q) _) := fun q => refFamily_any r nm (w.drewN q) (h.gb (gb_drewN _ _ _)) (by omega)
  have HFL : Hid (fitB kind xs = (decide (1 ≤ kind ∧ kind ≤ 3) && limB kind xs)) := fit_lim kind xs
  clear h ho hv hIN
  go_enter Tryz.func47, Tryz.ntmps47
  go_wp2_with fail
  refine HIN.out.mono ?_
  rintro e w1 ⟨rfl, rfl⟩
  go_wp2_with fail
  refine HLI.out.mono ?_
  rintro e w2 ⟨rfl, q, rfl⟩
  go_wp2_with fail
  refine (HFA.out q).mono ?_
  rintro e w3 ⟨rfl, code, rfl, hlook⟩
  have HLK : Hid (LookOut r.fams RF.nm nm code) := hlook
  clear hlook HIN HLI HFA
  cases hname : isNameB nm with
  | false =>
    have HN : Hid (isNameB nm = false) := hname
    clear hname
    go_wp2
    go_ret
    exact ⟨r, _, rfl, .same HH.out HO.out (gb_drewN _ _ _), Or.inl ⟨HN.out, rfl, rfl⟩⟩
  | true =>
    have HN : Hid (isNameB nm = true) := hname
    clear hname
    cases hfit : fitB kind xs with
    | false =>
      have HF : Hid (fitB kind xs = false) := hfit
      have hcase : kind < 1 ∨ (¬ kind < 1 ∧ 3 < kind) ∨ (¬ kind < 1 ∧ ¬ 3 < kind ∧ limB kind xs = false) := by
        rw [HFL.out] at hfit
        by_cases a : kind < 1
        · exact Or.inl a
        · by_cases b : 3 < kind
          · exact Or.inr (Or.inl ⟨a, b⟩)
          · rw [decide_eq_true (⟨by omega, by omega⟩ : 1 ≤ kind ∧ kind ≤ 3)] at hfit
            exact Or.inr (Or.inr ⟨a, b, by simpa using hfit⟩)
      clear hfit
      rcases hcase with a | ⟨a, b⟩ | ⟨a, b, c⟩
      · go_wp2
        go_ret
        exact ⟨r, _, rfl, .same HH.out HO.out (gb_drewN _ _ _), Or.inr (Or.inl ⟨HN.out, HF.out, rfl, rfl⟩)⟩
      · go_wp2
        go_ret
        exact ⟨r, _, rfl, .same HH.out HO.out (gb_drewN _ _ _), Or.inr (Or.inl ⟨HN.out, HF.out, rfl, rfl⟩)⟩
      · rw [c]
        clear c
        go_wp2
        go_ret
        exact ⟨r, _, rfl, .same HH.out HO.out (gb_drewN _ _ _), Or.inr (Or.inl ⟨HN.out, HF.out, rfl, rfl⟩)⟩
    | true =>
      have HF : Hid (fitB kind xs = true) := hfit
      have hx4 := (fit_facts hfit).2.1
      have hcase : ¬ kind < 1 ∧ ¬ 3 < kind ∧ limB kind xs = true := by
        rw [HFL.out, Bool.and_eq_true, decide_eq_true_eq] at hfit
        exact ⟨by omega, by omega, hfit.2⟩
      obtain ⟨a, b, c⟩ := hcase
      rw [c]
      clear c hfit HFL
      rcases HLK.out with ⟨hno, rfl⟩ | ⟨A, f, B', e1, e2, _, rfl⟩
      · have HNO : Hid (∀ f ∈ r.view.fams, f.1 ≠ nm) := by
          intro f hf
          simp only [RB.view, List.mem_map] at hf
          obtain ⟨g, hg, rfl⟩ := hf
          exact hno g hg
        clear hno HLK
        have hat := HH.out.gb (gb_drewN w1 q none)
        obtain ⟨c0, c1, z0, z1⟩ := rb_cells hat
        obtain ⟨fa, fc, hfv, _, _⟩ := own_shape3 hat.frows
        have HFV : Hid (r.fv = .slice fa r.fams.length fc) := hfv
        rw [hfv] at c0
        by_cases h8 : r.fams.length = 8
        · have h8' : ((r.fams.length : Int) == 8) = true := by simp [h8]
          have HV8 : Hid (r.view.fams.length = 8) := by show _ = _; simp [RB.view, h8]
          clear h8 hat hfv
          go_wp2
          go_ret
          exact ⟨r, _, rfl, .same HH.out HO.out (gb_drewN _ _ _), Or.inr (Or.inr (Or.inr (Or.inl ⟨HN.out, HF.out, HNO.out, HV8.out, rfl, rfl⟩)))⟩
        · have h8' : ((r.fams.length : Int) == 8) = false := by simp; omega
          have h8n : r.fams.length < 8 := by omega
          have HV8 : Hid (r.view.fams.length < 8) := by show _ < _; simp [RB.view]; omega
          have hrows := hat.frows
          rw [hfv] at hrows
          have hbl : r.b < (w1.drewN q).heap.size := lt_of hat.blk
          have HVQ : Hid (IntSl (w1.drewN q) (.slice sa xs.length ca) xs) := HV.out.gb (gb_drewN _ _ _)
          obtain ⟨W, hW⟩ : ∃ W, w1.drewN q = W := ⟨_, rfl⟩
          have GW : w1.grownBy W none := by rw [← hW]; exact gb_drewN _ _ _
          rw [hW] at hrows hbl HVQ c0 z0 hat ⊢
          have HAT : Hid (RB.At W r) := hat
          obtain ⟨n1, _⟩ := rb_nodup hat.nodup
          have hnb : some r.b ≠ r.fv.ownBlock := fun e => n1 r.b (by rw [← e]; simp) rfl
          rw [hfv] at hnb
          obtain ⟨i3, hi3, hz30, hz31, hz32⟩ := info_parts Tryz.info3
          obtain ⟨i8, hi8, hz80, hz81, hz82⟩ := info_parts Tryz.info83
          have HI3 : Hid (Tryz.prog.info? 3 = some i3 ∧ i3.zero = some (.int .i64 0) ∧ i3.size = 1 ∧ i3.bytes = 8) := ⟨hi3, hz30, hz31, hz32⟩
          have HI8 : Hid (Tryz.prog.info? 154 = some i8 ∧ i8.zero = some (.agg #[.string ⟨#[]⟩, .int .i64 0, .slice none 0 0]) ∧ i8.size = 3 ∧ i8.bytes = 48) := ⟨hi8, hz80, hz81, hz82⟩
          clear hi3 hz30 hz31 hz32 hi8 hz80 hz81 hz82 hW hat hfv n1 h8
          have fin : Hid (∀ (la : Option Addr) (lc : Nat) (w2 w3 : World) (fv' : Value), w2.ownsRow W.heap.size 3 1 (.slice la xs.length lc) xs.length (ints xs) → W.grownBy w2 none → (w2.alloc (.cells #[.string (B nm), .int .i64 kind, .slice la xs.length lc] 154)).grownBy w3 (Value.ownBlock (.slice fa r.fams.length fc)) →
              w3.ownsRow 0 154 3 fv' (r.fams.length + 1) (r.fams.flatMap rfCells ++ rfCells ⟨nm, kind, .slice la xs.length lc, xs⟩) → (fv'.ownBlock = Value.ownBlock (.slice fa r.fams.length fc) ∨ fv'.ownBlock = some (w2.alloc (.cells #[.string (B nm), .int .i64 kind, .slice la xs.length lc] 154)).heap.size) →
              ∃ r' code, (0 : Int) = code ∧ ROut m r r' w1 (w3.setCell ⟨r.b, 0, none⟩ fv') ∧ RFamOut r.view nm kind xs code r'.view) := by
            intro la lc w2 w3 fv' k1 k2 k3 k4 k5
            rw [← HFV.out] at k3 k5
            have hmade := rmade_out HAT.out HO.out nm kind xs hx4 h8n (.slice la xs.length lc) k1 k2 fv' _ k3 k4 k5
            exact ⟨_, 0, rfl, .from GW hmade, Or.inr (Or.inr (Or.inr (Or.inr ⟨HN.out, HF.out, HNO.out, HV8.out, rfl, by simp [RB.view]⟩)))⟩
          clear HAT GW HNO HV8 HN HF
          cases sa with
          | none =>
            have HX : Hid (xs = []) := by
              obtain ⟨sa', ca', e1, _, e2⟩ := HVQ.out
              simp at e1
              rcases e2 with e2 | ⟨b1, o1, e2, _⟩
              · exact e2
              · rw [e2] at e1; simp at e1
            obtain rfl : xs = [] := HX.out
            have hs0 : ∀ ty c, (Builtin.append_ #[26, 26] ty #[.slice none 0 0, .slice none 0 c]).run Tryz.prog W = .ok (.slice none 0 0) W := by
              intro ty c
              simp [Builtin.append_, run_underlying Tryz.underlying26, sizeOf, typeInfo, HI3.out.1, Builtin.lenOf, Builtin.firstCells]
            have own2 : W.ownsRow W.heap.size 3 1 (.slice none 0 0) 0 (ints []) := World.ownsRow_nil _ _ _ _
            have hg2 : W.grownBy W none := gb_refl _ _
            have bn := alloc_new W (.cells #[.string (B nm), .int .i64 kind, .slice none 0 0] 154) _ rfl
            clear HVQ HX
            go_wp2_with (at_builtin; first
              | (refine wpList_append_nil0 rfl rfl ⟨rfl, rfl⟩ (hs0 _ _) ?_)
              | (refine wpList_append_foot _ rfl _ _ 143 rfl 154 i8 (.agg #[.string ⟨#[]⟩, .int .i64 0, .slice none 0 0]) 3 48 Tryz.underlying143 HI8.out.1 HI8.out.2.1 HI8.out.2.2.1 HI8.out.2.2.2 rfl (by decide) (.slice fa r.fams.length fc) r.fams.length (r.fams.flatMap rfCells) rfl (by exact (hrows.kept hg2 (ownNe _)).alloc _) ⟨W.heap.size, 0, none⟩ 1 1 (by omega) (rfCells ⟨nm, kind, .slice none 0 0, []⟩) rfl rfl (cells_blk _ bn) (fun v hv => by simp [rfCells] at hv; rcases hv with rfl | rfl | rfl <;> rfl) (by unfold maxLen; omega) (by omega) ?_; intro fv' w3 own3 g3 hft; obtain ⟨xa, xc, rfl, _, _⟩ := own_shape3 own3; have z3 := gb_froz g3 (by simp; omega) (gb_froz (gb_alloc hg2 _) hbl z0 (by simp)) hnb; have c3 := gb_cell g3 (gb_cell (gb_alloc (gb_refl W none) _) c0 (by simp)) hnb))
            go_ret
            obtain ⟨r', code, k0, k1, k2⟩ := fin.out none 0 W w3 _ own2 hg2 g3 own3 hft
            exact ⟨r', code, by rw [← k0]; rfl, k1, k2⟩
          | some ad =>
            have HC : Hid (∀ j u, (ints xs)[j]? = some u → W.cell? (ad.add j) = some u) := by
              intro j u hj
              obtain ⟨sa', ca', e1, _, e2⟩ := HVQ.out
              simp at e1
              rcases e2 with e2 | ⟨b1, o1, e2, hI⟩
              · subst e2; simp [ints] at hj
              · rw [e2] at e1
                have e3 : ad = ⟨b1, o1, none⟩ := by simpa using e1.1
                subst e3
                have hjl : j < xs.length := by
                  have := (List.getElem?_eq_some_iff.1 hj).1
                  simpa [ints] using this
                rw [Addr.add_lit, hI j hjl]
                simp [ints, hjl] at hj
                rw [hj]
            have HL : Hid ((ints xs).length = xs.length * 1) := by show _ = _; simp [ints]
            clear HVQ
            go_wp2_with (at_builtin; first
              | (refine wpList_append_own _ rfl _ _ 26 rfl W.heap.size 3 i3 (.int .i64 0) 1 8 Tryz.underlying26 HI3.out.1 HI3.out.2.1 HI3.out.2.2.1 HI3.out.2.2.2 rfl (by decide) (.slice none 0 0) 0 [] rfl (World.ownsRow_nil _ _ _ _) ad xs.length ca (ints xs) rfl HL.out HC.out (ints_one _) (by unfold maxLen; omega) (by omega) (Nat.le_refl _) ?_; intro lv w2 own2 g2 _; rw [Nat.zero_add, List.nil_append] at own2; obtain ⟨la, lc, rfl, _, _⟩ := own_shape1 own2; have c0' := gb_cell g2 c0 (by simp [Value.ownBlock]); have hg2 : W.grownBy w2 none := g2; have bn := alloc_new w2 (.cells #[.string (B nm), .int .i64 kind, .slice la xs.length lc] 154) _ rfl)
              | (refine wpList_append_foot _ rfl _ _ 143 rfl 154 i8 (.agg #[.string ⟨#[]⟩, .int .i64 0, .slice none 0 0]) 3 48 Tryz.underlying143 HI8.out.1 HI8.out.2.1 HI8.out.2.2.1 HI8.out.2.2.2 rfl (by decide) (.slice fa r.fams.length fc) r.fams.length (r.fams.flatMap rfCells) rfl (by exact (hrows.kept hg2 (ownNe _)).alloc _) ⟨w2.heap.size, 0, none⟩ 1 1 (by omega) (rfCells ⟨nm, kind, .slice la xs.length lc, xs⟩) rfl rfl (cells_blk _ bn) (fun v hv => by simp [rfCells] at hv; rcases hv with rfl | rfl | rfl <;> rfl) (by unfold maxLen; omega) (by omega) ?_; intro fv' w3 own3 g3 hft; obtain ⟨xa, xc, rfl, _, _⟩ := own_shape3 own3; have z3 := gb_froz g3 (by have := hg2.size; simp; omega) (gb_froz (gb_alloc hg2 _) hbl z0 (by simp)) hnb; have c3 := gb_cell g3 (gb_cell (gb_alloc (gb_refl w2 none) _) c0' (by simp)) hnb))
            go_ret
            obtain ⟨r', code, k0, k1, k2⟩ := fin.out la lc w2 w3 _ own2 hg2 g3 own3 hft
            exact ⟨r', code, by rw [← k0]; rfl, k1, k2⟩
      · have hfm : f ∈ r.fams := by rw [e1]; simp
        have HFM : Hid (f ∈ r.fams ∧ f.nm = nm) := ⟨hfm, e2⟩
        have hat := HH.out
        obtain ⟨c0, c1, z0, z1⟩ := rb_cells hat
        obtain ⟨fa, fc, hfv, _, hfa⟩ := own_shape3 hat.frows
        have hal : A.length < r.fams.length := by rw [e1]; simp
        obtain ⟨ga, rfl⟩ : ∃ ga, fa = some ⟨ga, 0, none⟩ := by
          rcases hfa with ⟨_, h0, _⟩ | ⟨ga, h1, _⟩
          · omega
          · exact ⟨ga, h1⟩
        rw [hfv] at c0
        have hr := hat.frows
        rw [hfv] at hr
        have hget : r.fams[A.length]'hal = f := by simp [e1]
        have d2 := row3_cell hr (fun x => rfl) A.length hal 2 (by omega) f.lv (by rw [hget]; rfl)
        have d1 := row3_cell hr (fun x => rfl) A.length hal 1 (by omega) (.int .i64 f.kind) (by rw [hget]; rfl)
        have hlf := hat.lims f hfm
        obtain ⟨la, lc, hlv, _, _⟩ := own_shape1 hlf
        have HS : Hid (Calls Tryz.prog 84 #[f.lv, .slice sa xs.length ca] (w1.drewN q) _) := refSame_any _ _ f.ls xs (w1.drewN q) ((IntSl.of hlf).gb (gb_drewN _ _ _)) (HV.out.gb (gb_drewN _ _ _)) (by have := HO.out.flim f hfm; omega)
        rw [hlv] at d2 HS
        have hali : (A.length : Int) < (r.fams.length : Int) := by omega
        have hali0 : (0 : Int) ≤ (A.length : Int) := by omega
        clear hat hr hget hlf hlv hfv e1 e2 hfm HLK
        go_wp2_with fail
        refine HS.out.mono ?_
        rintro e w4 ⟨rfl, q4, rfl⟩
        by_cases hk : f.kind = kind
        · have hk' : (f.kind != kind) = false := by simpa using hk
          by_cases he : f.ls = xs
          · have HE : Hid (remP kind f.kind xs f.ls = 0) := if_pos ⟨hk.symm, he.symm⟩
            rw [decide_eq_true he]
            clear hk he
            go_wp2
            go_ret
            exact ⟨r, _, rfl, .same HH.out HO.out (by first | exact gb_drewN _ _ _ | exact gb_d (gb_drewN _ _ _)), Or.inr (Or.inr (Or.inl ⟨HN.out, HF.out, ⟨_, List.mem_map_of_mem HFM.out.1, HFM.out.2, HE.out.symm⟩, rfl⟩))⟩
          · have HE : Hid (remP kind f.kind xs f.ls = 5) := if_neg (fun h => he h.2.symm)
            rw [decide_eq_false he]
            clear hk he
            go_wp2
            go_ret
            exact ⟨r, _, rfl, .same HH.out HO.out (by first | exact gb_drewN _ _ _ | exact gb_d (gb_drewN _ _ _)), Or.inr (Or.inr (Or.inl ⟨HN.out, HF.out, ⟨_, List.mem_map_of_mem HFM.out.1, HFM.out.2, HE.out.symm⟩, rfl⟩))⟩
        · have hk' : (f.kind != kind) = true := by simpa using hk
          have HE : Hid (remP kind f.kind xs f.ls = 5) := if_neg (fun h => hk h.1.symm)
          clear hk
          go_wp2
          go_ret
          exact ⟨r, _, rfl, .same HH.out HO.out (by first | exact gb_drewN _ _ _ | exact gb_d (gb_drewN _ _ _)), Or.inr (Or.inr (Or.inl ⟨HN.out, HF.out, ⟨_, List.mem_map_of_mem HFM.out.1, HFM.out.2, HE.out.symm⟩, rfl⟩))⟩

end Go.Proofs.YtcfdemhokbddiaaGreatDoor

/-
  The document's board: a series more; a number more to a series; a series less.
-/
namespace Go.Proofs.YtcfdemhokbddiaaGreatDoor
open Go.RowKit

theorem flat_len3 {α : Type} (f : α → List Value) (hf : ∀ x, (f x).length = 3) (xs : List α) : (xs.flatMap f).length = xs.length * 3 := by
  induction xs with
  | nil => rfl
  | cons x xs ih => rw [List.flatMap_cons, List.length_append, hf, ih, List.length_cons]; omega
theorem flat_set {α : Type} (f : α → List Value) (hf : ∀ x, (f x).length = 3) (A B' : List α) (x y : α) (v : Value) (hy : f y = (f x).set 2 v) : ((A ++ x :: B').flatMap f).set (A.length * 3 + 2) v = (A ++ y :: B').flatMap f := by
  rw [List.flatMap_append, List.flatMap_append, List.flatMap_cons, List.flatMap_cons, List.set_append, if_neg (by rw [flat_len3 f hf]; omega), flat_len3 f hf, show A.length * 3 + 2 - A.length * 3 = 2 from by omega, List.set_append, if_pos (by rw [hf]; omega), hy]

theorem rset_out {m : Nat} {r : RB} {w wa w2 : World} (h : RB.At w r) (ho : RB.Ok m r) (A B' : List RSer) (x : RSer) (e : r.ser = A ++ x :: B') (n : Int) (g1 : w.grownBy wa none) (nv' : Value) (g2 : wa.grownBy w2 x.nv.ownBlock)
    (hnv : w2.ownsRow 0 3 1 nv' (x.ns.length + 1) (ints (x.ns ++ [n]))) (hft : nv'.ownBlock = x.nv.ownBlock ∨ nv'.ownBlock = some wa.heap.size) (ga sc : Nat) (hsv : r.sv = .slice (some ⟨ga, 0, none⟩) r.ser.length sc) :
    ROut (m + 1) r { r with ser := A ++ { x with nv := nv', ns := x.ns ++ [n] } :: B' } w (w2.setCell ⟨ga, A.length * 3 + 2, none⟩ nv') := by
  obtain ⟨n1, n2, n3, n4⟩ := rb_nodup h.nodup
  have hxm : x ∈ r.ser := by rw [e]; simp
  have hlt := h.lt
  have hgs : ga ∈ r.sv.ownBlock.toList := by rw [hsv]; simp [Value.ownBlock]
  have hgal : ga < w.heap.size := own_lt h.srows ga hgs
  have hnotnv : ∀ b, b < w.heap.size → b ∉ x.nv.ownBlock.toList → w2.heap[b]? = w.heap[b]? := fun b hb hn => by
    rw [g2.block b (by have := g1.size; omega) (fun e => hn (by rw [← e]; simp)), g1.block b hb (by simp)]
  have hsame : ∀ b, b < w.heap.size → b ≠ ga → b ∉ x.nv.ownBlock.toList → (w2.setCell ⟨ga, A.length * 3 + 2, none⟩ nv').heap[b]? = w.heap[b]? := fun b hb hne hn => by
    rw [Below.heap_setCell _ _ _ _ (by show b ≠ ga; exact hne)]; exact hnotnv b hb hn
  have hn := h.nodup
  have e0 : r.own = (r.b :: (r.fv.ownBlock.toList ++ (r.sv.ownBlock.toList ++ (r.fams.flatMap (fun f => f.lv.ownBlock.toList) ++ A.flatMap (fun x => x.nv.ownBlock.toList))))) ++ (x.nv.ownBlock.toList ++ B'.flatMap (fun x => x.nv.ownBlock.toList)) := by simp [RB.own, e]
  have hn0 := hn
  rw [e0] at hn0
  have hxx : ∀ y, y ∈ A ∨ y ∈ B' → ∀ b ∈ y.nv.ownBlock.toList, b ∉ x.nv.ownBlock.toList := by
    intro y hy b hb hx
    simp only [List.nodup_append, List.mem_append, List.mem_flatMap, List.mem_cons] at hn0
    rcases hy with hy | hy
    · exact hn0.2.2 b (Or.inr (Or.inr (Or.inr (Or.inr ⟨y, hy, hb⟩)))) b (Or.inl hx) rfl
    · exact hn0.2.1.2.2 b hx b ⟨y, hy, hb⟩ rfl
  have hnv'ne : ∀ b ∈ nv'.ownBlock.toList, b ≠ ga := fun b hb => by
    rcases hft with e | e
    · rw [e] at hb
      intro e2
      exact (n4 x hxm b hb).2.2.1 (by rw [e2]; exact hgs)
    · rw [e] at hb
      have : b = wa.heap.size := by simpa using hb
      have := g1.size; omega
  obtain ⟨cur, hcur, hnc, hcm, hcs, htake⟩ : ∃ cur, w.heap[ga]? = some (.cells cur 156) ∧ r.ser.length ≤ sc ∧ sc ≤ maxLen ∧ cur.size = sc * 3 ∧ cur.toList.take (r.ser.length * 3) = r.ser.flatMap rsCells := by
    have hr := h.srows
    rw [hsv] at hr
    rcases hr.2 with ⟨h1, _⟩ | ⟨g', cap', cur, h1, h2, h3, h4, h5, h6, h7⟩
    · simp at h1
    · simp at h1; obtain ⟨rfl, rfl⟩ := h1; exact ⟨cur, h3, h4, h5, h6, h7⟩
  have h2ga : w2.heap[ga]? = some (.cells cur 156) := (hnotnv ga hgal (fun hm => (n4 x hxm ga hm).2.2.1 hgs)).trans hcur
  have hset := text_set (o := A.length * 3 + 2) h2ga nv'
  have hlen : (A ++ ({ x with nv := nv', ns := x.ns ++ [n] } : RSer) :: B').length = r.ser.length := by rw [e]; simp
  have hAl : A.length < r.ser.length := by rw [e]; simp
  refine ⟨⟨?_, ?_, ?_, ?_, ?_, ?_⟩, ⟨ho.flen, ?_, ?_, ho.flim⟩, rfl, rfl, ?_, ?_⟩
  · exact (hsame r.b (lt_of h.blk) (fun e => (n2 ga hgs).1 e.symm) (fun hm => (n4 x hxm _ hm).1 rfl)).trans h.blk
  · exact own_frame h.frows fun b hb => hsame b (own_lt h.frows b hb) (fun e => (n2 ga hgs).2 (by rw [← e]; exact hb)) (fun hm => (n4 x hxm _ hm).2.1 hb)
  · show World.ownsRow _ 0 156 3 r.sv (A ++ ({ x with nv := nv', ns := x.ns ++ [n] } : RSer) :: B').length _
    rw [hlen, hsv]
    refine ⟨?_, Or.inr ⟨ga, sc, cur.setIfInBounds (A.length * 3 + 2) nv', rfl, Nat.zero_le _, hset, hnc, hcm, by simpa using hcs, ?_⟩⟩
    · rw [flat_len3 rsCells (fun _ => rfl), hlen]
    · rw [Array.toList_setIfInBounds, List.take_set, htake, e]
      exact flat_set rsCells (fun _ => rfl) A B' x _ nv' rfl
  · intro f hf
    exact own_frame (h.lims f hf) fun b hb => hsame b (own_lt (h.lims f hf) b hb) (fun e => (n3 f hf b hb).2.2 (by rw [e]; exact hgs)) (fun hm => (n4 x hxm b hm).2.2.2 f hf hb)
  · intro y hy
    simp only [List.mem_append, List.mem_cons] at hy
    have hold : ∀ y, y ∈ A ∨ y ∈ B' → World.ownsRow (w2.setCell ⟨ga, A.length * 3 + 2, none⟩ nv') 0 3 1 y.nv y.ns.length (ints y.ns) := fun y hy => by
      have hym : y ∈ r.ser := by
        rw [e]; simp only [List.mem_append, List.mem_cons]
        rcases hy with hy | hy
        · exact Or.inl hy
        · exact Or.inr (Or.inr hy)
      exact own_frame (h.nums y hym) fun b hb => hsame b (own_lt (h.nums y hym) b hb) (fun e => (n4 y hym b hb).2.2.1 (by rw [e]; exact hgs)) (hxx y hy b hb)
    rcases hy with hy | rfl | hy
    · exact hold y (Or.inl hy)
    · have := own_frame hnv (w' := w2.setCell ⟨ga, A.length * 3 + 2, none⟩ nv') (fun b hb => by rw [Below.heap_setCell _ _ _ _ (by show b ≠ ga; exact hnv'ne b hb)])
      simpa using this
    · exact hold y (Or.inr hy)
  · have e2 : ({ r with ser := A ++ { x with nv := nv', ns := x.ns ++ [n] } :: B' } : RB).own = (r.b :: (r.fv.ownBlock.toList ++ (r.sv.ownBlock.toList ++ (r.fams.flatMap (fun f => f.lv.ownBlock.toList) ++ A.flatMap (fun x => x.nv.ownBlock.toList))))) ++ (nv'.ownBlock.toList ++ B'.flatMap (fun x => x.nv.ownBlock.toList)) := by simp [RB.own]
    rw [e2]
    refine nodup_swap (n := wa.heap.size) hn0 (opt_nodup _) (fun b hb => ?_) (fun b hb => ?_)
    · rcases hft with e | e
      · rw [e] at hb; exact Or.inl hb
      · rw [e] at hb
        have : b = wa.heap.size := by simpa using hb
        exact Or.inr (by omega)
    · have hb' : b ∈ r.own := by
        rw [e0]
        simp only [List.mem_append] at hb ⊢
        rcases hb with hb | hb
        · exact Or.inl hb
        · exact Or.inr (Or.inr hb)
      have := hlt b hb'
      have := g1.size
      omega
  · show (A ++ ({ x with nv := nv', ns := x.ns ++ [n] } : RSer) :: B').length ≤ 24
    rw [hlen]; exact ho.slen
  · intro y hy
    simp only [List.mem_append, List.mem_cons] at hy
    rcases hy with hy | rfl | hy
    · have := ho.each y (by rw [e]; simp [hy]); omega
    · have := ho.each x hxm; simp; omega
    · have := ho.each y (by rw [e]; simp [hy]); omega
  · refine ⟨g2.os.trans g1.os, g2.tape.trans g1.tape, g2.output.trans g1.output, ?_, fun k hk hn => hsame k hk (fun e => hn (by rw [e]; simp only [RB.own, List.mem_cons, List.mem_append]; exact Or.inr (Or.inr (Or.inl hgs)))) (fun hm => hn (by rw [e0]; simp only [List.mem_append]; exact Or.inr (Or.inl hm)))⟩
    have := g2.size
    have := g1.size
    simp; omega
  · intro b hb
    have e2 : ({ r with ser := A ++ { x with nv := nv', ns := x.ns ++ [n] } :: B' } : RB).own = (r.b :: (r.fv.ownBlock.toList ++ (r.sv.ownBlock.toList ++ (r.fams.flatMap (fun f => f.lv.ownBlock.toList) ++ A.flatMap (fun x => x.nv.ownBlock.toList))))) ++ (nv'.ownBlock.toList ++ B'.flatMap (fun x => x.nv.ownBlock.toList)) := by simp [RB.own]
    rw [e2] at hb
    rw [e0]
    simp only [List.mem_append] at hb ⊢
    rcases hb with hb | hb | hb
    · exact Or.inl (Or.inl hb)
    · rcases hft with e | e
      · rw [e] at hb; exact Or.inl (Or.inr (Or.inl hb))
      · rw [e] at hb
        have : b = wa.heap.size := by simpa using hb
        have := g1.size
        exact Or.inr (by omega)
    · exact Or.inl (Or.inr (Or.inr hb))

/-- The row of series is laid anew: some of the old ones, or all and one without numbers. -/
theorem rrow_out {m : Nat} {r : RB} {w w2 : World} (h : RB.At w r) (ho : RB.Ok m r) (ser' : List RSer) (hs : ∀ y ∈ ser', y ∈ r.ser ∨ (y.nv = .slice none 0 0 ∧ y.ns = [])) (hl : ser'.length ≤ 24) (hnd : (ser'.flatMap (fun x => x.nv.ownBlock.toList)).Nodup)
    (g2 : Kept (r.sv.ownBlock.toList) w w2) (sv' : Value) (hsv : w2.ownsRow 0 156 3 sv' ser'.length (ser'.flatMap rsCells)) (hft : sv'.ownBlock = r.sv.ownBlock ∨ (∀ b ∈ sv'.ownBlock.toList, w.heap.size ≤ b)) :
    ROut m r { r with sv := sv', ser := ser' } w (w2.setCell ⟨r.b, 1, none⟩ sv') := by
  obtain ⟨n1, n2, n3, n4⟩ := rb_nodup h.nodup
  have hlt := h.lt
  have hbl := lt_of h.blk
  have hnot : ∀ b, b < w.heap.size → b ∉ r.sv.ownBlock.toList → w2.heap[b]? = w.heap[b]? := fun b hb hn => g2.block b hb hn
  have hsame : ∀ b, b < w.heap.size → b ≠ r.b → b ∉ r.sv.ownBlock.toList → (w2.setCell ⟨r.b, 1, none⟩ sv').heap[b]? = w.heap[b]? := fun b hb hne hn => by
    rw [Below.heap_setCell _ _ _ _ (by show b ≠ r.b; exact hne)]; exact hnot b hb hn
  have hsv'ne : ∀ b ∈ sv'.ownBlock.toList, b ≠ r.b := fun b hb => by
    rcases hft with e | e
    · rw [e] at hb; exact (n2 b hb).1
    · have := e b hb; omega
  have hsub : ∀ b ∈ ser'.flatMap (fun x => x.nv.ownBlock.toList), ∃ x ∈ r.ser, b ∈ x.nv.ownBlock.toList := by
    intro b hb
    rw [List.mem_flatMap] at hb
    obtain ⟨y, hy, hb⟩ := hb
    rcases hs y hy with h1 | ⟨h1, _⟩
    · exact ⟨y, h1, hb⟩
    · rw [h1] at hb; simp [Value.ownBlock] at hb
  refine ⟨⟨?_, ?_, ?_, ?_, ?_, ?_⟩, ⟨ho.flen, hl, ?_, ho.flim⟩, rfl, rfl, ?_, ?_⟩
  · rw [text_set ((hnot r.b hbl (fun hm => (n2 r.b hm).1 rfl)).trans h.blk)]; simp
  · exact own_frame h.frows fun b hb => hsame b (own_lt h.frows b hb) (n1 b hb) (fun hm => (n2 b hm).2 hb)
  · exact own_frame hsv (w' := w2.setCell ⟨r.b, 1, none⟩ sv') (fun b hb => by rw [Below.heap_setCell _ _ _ _ (by show b ≠ r.b; exact hsv'ne b hb)])
  · intro f hf
    exact own_frame (h.lims f hf) fun b hb => hsame b (own_lt (h.lims f hf) b hb) (n3 f hf b hb).1 (n3 f hf b hb).2.2
  · intro y hy
    rcases hs y hy with h1 | ⟨h1, h2⟩
    · exact own_frame (h.nums y h1) fun b hb => hsame b (own_lt (h.nums y h1) b hb) (n4 y h1 b hb).1 (n4 y h1 b hb).2.2.1
    · rw [h1, h2]; exact World.ownsRow_nil _ _ _ _
  · have hn := h.nodup
    have e0 : r.own = (r.b :: r.fv.ownBlock.toList) ++ (r.sv.ownBlock.toList ++ (r.fams.flatMap (fun f => f.lv.ownBlock.toList) ++ r.ser.flatMap (fun x => x.nv.ownBlock.toList))) := by simp [RB.own]
    rw [e0] at hn
    have hn1 := nodup_swap (n := w.heap.size) (G' := sv'.ownBlock.toList) hn (opt_nodup _) (fun b hb => by
      rcases hft with e | e
      · rw [e] at hb; exact Or.inl hb
      · exact Or.inr (e b hb)) (fun b hb => hlt b (by
        rw [e0]; simp only [List.mem_append] at hb ⊢
        rcases hb with hb | hb
        · exact Or.inl hb
        · exact Or.inr (Or.inr hb)))
    have e1 : (r.b :: r.fv.ownBlock.toList) ++ (sv'.ownBlock.toList ++ (r.fams.flatMap (fun f => f.lv.ownBlock.toList) ++ r.ser.flatMap (fun x => x.nv.ownBlock.toList))) = (r.b :: (r.fv.ownBlock.toList ++ (sv'.ownBlock.toList ++ r.fams.flatMap (fun f => f.lv.ownBlock.toList)))) ++ (r.ser.flatMap (fun x => x.nv.ownBlock.toList) ++ []) := by simp
    rw [e1] at hn1
    have e2 : ({ r with sv := sv', ser := ser' } : RB).own = (r.b :: (r.fv.ownBlock.toList ++ (sv'.ownBlock.toList ++ r.fams.flatMap (fun f => f.lv.ownBlock.toList)))) ++ (ser'.flatMap (fun x => x.nv.ownBlock.toList) ++ []) := by simp [RB.own]
    rw [e2]
    simp only [List.append_nil] at hn1 ⊢
    rw [List.nodup_append] at hn1 ⊢
    refine ⟨hn1.1, hnd, fun a ha b hb e => ?_⟩
    obtain ⟨x, hx, hbx⟩ := hsub b hb
    exact hn1.2.2 a ha b (by rw [List.mem_flatMap]; exact ⟨x, hx, hbx⟩) e
  · intro y hy
    rcases hs y hy with h1 | ⟨_, h2⟩
    · exact ho.each y h1
    · rw [h2]; exact Nat.zero_le _
  · refine ⟨g2.os, g2.tape, g2.output, by simpa using g2.size, fun k hk hn => hsame k hk (fun e => hn (by rw [e]; simp [RB.own])) (fun hm => hn (by simp only [RB.own, List.mem_cons, List.mem_append]; exact Or.inr (Or.inr (Or.inl hm))))⟩
  · intro b hb
    simp only [RB.own, List.mem_cons, List.mem_append] at hb ⊢
    rcases hb with hb | hb | hb | hb | hb
    · exact Or.inl (Or.inl hb)
    · exact Or.inl (Or.inr (Or.inl hb))
    · rcases hft with e | e
      · rw [e] at hb; exact Or.inl (Or.inr (Or.inr (Or.inl hb)))
      · exact Or.inr (e b hb)
    · exact Or.inl (Or.inr (Or.inr (Or.inr (Or.inl hb))))
    · obtain ⟨x, hx, hbx⟩ := hsub b hb
      exact Or.inl (Or.inr (Or.inr (Or.inr (Or.inr (by rw [List.mem_flatMap]; exact ⟨x, hx, hbx⟩)))))

end Go.Proofs.YtcfdemhokbddiaaGreatDoor

/-
  The document's Change, walked.
-/
namespace Go.Proofs.YtcfdemhokbddiaaGreatDoor
open Go.RowKit

def RChgOut (R : RV) (l : List UInt8) (n : Int) (code : Int) (R' : RV) : Prop :=
  ((readP l).err ≠ 0 ∧ code = ((readP l).err : Int) ∧ R' = R) ∨
  ((readP l).err = 0 ∧ (∀ f ∈ R.fams, f.1 ≠ (readP l).name) ∧ code = 6 ∧ R' = R) ∨
  ((readP l).err = 0 ∧ ∃ f ∈ R.fams, f.1 = (readP l).name ∧
    ((takesB f.2.1 n = false ∧ code = 4 ∧ R' = R) ∨
     (takesB f.2.1 n = true ∧ ∃ A x B', R.ser = A ++ x :: B' ∧ x.2.1 = plainP l ∧ code = 0 ∧ R' = ⟨R.fams, A ++ (x.1, x.2.1, x.2.2 ++ [n]) :: B'⟩) ∨
     (takesB f.2.1 n = true ∧ (∀ x ∈ R.ser, x.2.1 ≠ plainP l) ∧ R.ser.length = 24 ∧ code = 7 ∧ R' = R) ∨
     (takesB f.2.1 n = true ∧ (∀ x ∈ R.ser, x.2.1 ≠ plainP l) ∧ R.ser.length < 24 ∧ code = 0 ∧ R' = ⟨R.fams, R.ser ++ [((readP l).name, plainP l, [n])]⟩)))

theorem row3_froz {w : World} {base : Nat} {e : TypeId} {g n cap o : Nat} {xs : List Value} (h : w.ownsRow base e 3 (.slice (some ⟨g, 0, none⟩) n cap) n xs) : w.frozen? ⟨g, o, none⟩ = false := by
  rcases h.2 with ⟨h1, _⟩ | ⟨g', cap', cur, h1, _, h3, _⟩
  · simp at h1
  · simp at h1; obtain ⟨rfl, rfl⟩ := h1
    unfold World.frozen?; simp only [h3]; simp
theorem kept_of_opt {a b c : World} {o : Option Nat} (h : a.grownBy b none) (k : b.grownBy c o) : Kept o.toList a c :=
  ⟨k.os.trans h.os, k.tape.trans h.tape, k.output.trans h.output, Nat.le_trans h.size k.size, fun i hi hn => (k.block i (Nat.lt_of_lt_of_le hi h.size) (fun e => hn (by rw [← e]; simp))).trans (h.block i hi (by simp))⟩
theorem ROut.trans {m m' : Nat} {r r1 r2 : RB} {w w1 w2 : World} (h : ROut m r r1 w w1) (k : ROut m' r1 r2 w1 w2) : ROut m' r r2 w w2 :=
  ⟨k.at_, k.ok, k.b.trans h.b, k.rest.trans h.rest, h.kept.then k.kept h.sub, fun x hx => by
    rcases k.sub x hx with h1 | h1
    · exact h.sub x h1
    · exact Or.inr (Nat.le_trans h.kept.size h1)⟩

set_option maxRecDepth 100000 in
set_option maxRecDepth 100000 in
set_option maxHeartbeats 2000000 in
theorem refChg_any (r : RB) (s : ByteArray) (n : Int) (m : Nat) (w : World) (h : RB.At w r) (ho : RB.Ok m r) (hm : m ≤ 4398046511104) :
    Calls Tryz.prog 50 #[.pointer (some ⟨r.b, 0, none⟩), .string s, .int .i64 n] w fun e w' => ∃ r' code, e = .returned (.int .i64 code) ∧ ROut (m + 1) r r' w w' ∧ RChgOut r.view s.data.toList n code r'.view := by
  have HH : Hid (RB.At w r) := h
  have HO : Hid (RB.Ok m r) := ho
  have HO1 : Hid (RB.Ok (m + 1) r) := ⟨ho.flen, ho.slen, fun x hx => by have := ho.each x hx; omega, ho.flim⟩
  have hP := parse_any s w
  have HPE : Hid ((readP s.data.toList).err = 0 → (if (readP s.data.toList).err = 0 then 0 else (readP s.data.toList).at_) = 0) := fun h => if_pos h
  obtain ⟨T, hT⟩ : ∃ T, readP s.data.toList = T := ⟨_, rfl⟩
  obtain ⟨p, hp⟩ : ∃ p, plainP s.data.toList = p := ⟨_, rfl⟩
  have HT : Hid (readP s.data.toList = T) := hT
  have HPP : Hid (plainP s.data.toList = p) := hp
  obtain ⟨at2, hat2⟩ : ∃ at2, (if (readP s.data.toList).err = 0 then 0 else (readP s.data.toList).at_) = at2 := ⟨_, rfl⟩
  rw [hat2, hT, hp] at hP
  obtain ⟨err, at_, nm, ls⟩ := T
  simp only at hP
  unfold outV at hP
  have HP : Hid (Calls Tryz.prog 80 #[.string s] w _) := hP
  clear h ho hP hT hp hat2 HPE
  go_enter Tryz.func50, Tryz.ntmps50
  go_wp2_with fail
  refine HP.out.mono ?_
  rintro e w1 ⟨rfl, b1⟩
  have g1 := gb_of_below b1
  clear b1 HP
  by_cases h0 : err = 0
  · subst h0
    have HERR : Hid ((readP s.data.toList).err = 0 ∧ (readP s.data.toList).name = nm) := by rw [HT.out]; exact ⟨rfl, rfl⟩
    have hfl := HO.out.flen
    have hsl := HO.out.slen
    go_wp2_with fail
    refine (refFamily_any r nm _ (HH.out.gb g1) (by omega)).mono ?_
    rintro e w2 ⟨rfl, code, rfl, hlook⟩
    rcases hlook with ⟨hno, rfl⟩ | ⟨A, f, B', e1, e2, _, rfl⟩
    · have HNO : Hid (∀ f ∈ r.view.fams, f.1 ≠ (readP s.data.toList).name) := by
        intro f hf
        rw [HERR.out.2]
        simp only [RB.view, List.mem_map] at hf
        obtain ⟨g, hg, rfl⟩ := hf
        exact hno g hg
      clear hno
      go_wp2
      go_ret
      exact ⟨r, _, rfl, .same HH.out HO1.out g1, Or.inr (Or.inl ⟨HERR.out.1, HNO.out, rfl, rfl⟩)⟩
    · have hfm : f ∈ r.fams := by rw [e1]; simp
      have HFM : Hid ((f.nm, f.kind, f.ls) ∈ r.view.fams ∧ (f.nm, f.kind, f.ls).1 = (readP s.data.toList).name) := ⟨List.mem_map_of_mem (f := fun f : RF => (f.nm, f.kind, f.ls)) hfm, by rw [HERR.out.2]; exact e2⟩
      have hat := HH.out.gb g1
      obtain ⟨c0, c1, z0, z1⟩ := rb_cells hat
      obtain ⟨fa, fc, hfv, _, hfa⟩ := own_shape3 hat.frows
      have hal : A.length < r.fams.length := by rw [e1]; simp
      obtain ⟨ga, rfl⟩ : ∃ ga, fa = some ⟨ga, 0, none⟩ := by
        rcases hfa with ⟨_, h0, _⟩ | ⟨ga, h1, _⟩
        · omega
        · exact ⟨ga, h1⟩
      rw [hfv] at c0
      have hr := hat.frows
      rw [hfv] at hr
      have hget : r.fams[A.length]'hal = f := by simp [e1]
      have d1 := row3_cell hr (fun x => rfl) A.length hal 1 (by omega) (.int .i64 f.kind) (by rw [hget]; rfl)
      have hali : (A.length : Int) < (r.fams.length : Int) := by omega
      have hali0 : ¬ (A.length : Int) < 0 := by omega
      have HAT : Hid (RB.At w2 r) := hat
      clear hat hr hget hfv e1 e2 hfm hfa
      go_upto_region 7 with fail
      go_cut [48] (fun b w' => w' = w2 ∧ b = .bool (!(takesB f.kind n)))
      case first =>
        obtain ⟨kind, hkind⟩ : ∃ k, f.kind = k := ⟨_, rfl⟩
        rw [hkind] at d1
        have HTE : Hid (takesB f.kind n = (inB n && (decide (kind ≠ 1) || decide (0 ≤ n)))) := by rw [← hkind]; rfl
        clear hkind
        by_cases hb1 : n < -1000000000
        · have HTK : Hid (takesB f.kind n = false) := by
            show _ = _; rw [HTE.out, show inB n = false from by simp [inB]; omega]; rfl
          go_wp2
          go_meet
          case rel => exact ⟨rfl, by rw [HTK.out]; rfl⟩
        · by_cases hb2 : 1000000000 < n
          · have HTK : Hid (takesB f.kind n = false) := by
              show _ = _; rw [HTE.out, show inB n = false from by simp [inB]; omega]; rfl
            go_wp2
            go_meet
            case rel => exact ⟨rfl, by rw [HTK.out]; rfl⟩
          · have hinB : inB n = true := by simp [inB]; omega
            by_cases hk1 : kind = 1
            · subst hk1
              by_cases hn0 : n < 0
              · have HTK : Hid (takesB f.kind n = false) := by
                  show _ = _; rw [HTE.out, hinB]; simp; omega
                clear hinB
                go_wp2
                go_meet
                case rel => exact ⟨rfl, by rw [HTK.out]; rfl⟩
              · have HTK : Hid (takesB f.kind n = true) := by
                  show _ = _; rw [HTE.out, hinB]; simp; omega
                clear hinB
                go_wp2
                go_meet
                case rel => exact ⟨rfl, by rw [HTK.out]; rfl⟩
            · have hkb : (kind == 1) = false := by simpa using hk1
              have HTK : Hid (takesB f.kind n = true) := by
                show _ = _; rw [HTE.out, hinB]; simp [hk1]
              clear hinB hk1
              go_wp2
              go_meet
              case rel => exact ⟨rfl, by rw [HTK.out]; rfl⟩
      case rest =>
        obtain ⟨rfl, rfl⟩ := hcut
        cases htk : takesB f.kind n with
        | false =>
          have HTK : Hid (takesB f.kind n = false) := htk
          clear htk
          go_wp2
          go_ret
          exact ⟨r, _, rfl, .same HH.out HO1.out g1, Or.inr (Or.inr ⟨HERR.out.1, _, HFM.out.1, HFM.out.2, Or.inl ⟨HTK.out, rfl, rfl⟩⟩)⟩
        | true =>
          have HTK : Hid (takesB f.kind n = true) := htk
          clear htk
          have HS : Hid (Calls Tryz.prog 85 #[.pointer (some ⟨r.b, 0, none⟩), .string (B p)] wc _) := refSeries_any r p wc HAT.out (by omega)
          go_wp2_with fail
          refine HS.out.mono ?_
          rintro e w3 ⟨rfl, code, rfl, hlook⟩
          have HLK : Hid (LookOut r.ser RSer.text p code) := hlook
          clear hlook HS
          go_upto_if 53 with fail
          go_cut [12] (fun v w' => ∃ (r1 : RB) (C D : List RSer) (x : RSer), v = .int .i64 (C.length : Int) ∧ r1.ser = C ++ x :: D ∧ r1.b = r.b ∧ RB.At w' r1 ∧ RB.Ok m r1 ∧ (∀ nv' wf, ROut (m + 1) r1 { r1 with ser := C ++ { x with nv := nv', ns := x.ns ++ [n] } :: D } w' wf → ∃ r', ROut (m + 1) r r' w wf ∧ RChgOut r.view s.data.toList n 0 r'.view))
          case first =>
            rcases HLK.out with ⟨hno, rfl⟩ | ⟨C, x, D, e1, e2, _, rfl⟩
            · have HNS : Hid (∀ x ∈ r.view.ser, x.2.1 ≠ plainP s.data.toList) := by
                intro x hx
                rw [HPP.out]
                simp only [RB.view, List.mem_map] at hx
                obtain ⟨y, hy, rfl⟩ := hx
                exact hno y hy
              clear hno
              obtain ⟨sa1, sc1, hsv1, _, _⟩ := own_shape3 HAT.out.srows
              have HSV1 : Hid (r.sv = .slice sa1 r.ser.length sc1) := hsv1
              have hrow1 := HAT.out.srows
              rw [hsv1] at c1 hrow1
              by_cases h24 : r.ser.length = 24
              · have h24' : ((r.ser.length : Int) == 24) = true := by simp [h24]
                have HV24 : Hid (r.view.ser.length = 24) := by show _ = _; simp [RB.view, h24]
                clear h24 hsv1
                go_wp2
                go_ret
                exact ⟨r, _, rfl, .same HH.out HO1.out g1, Or.inr (Or.inr ⟨HERR.out.1, _, HFM.out.1, HFM.out.2, Or.inr (Or.inr (Or.inl ⟨HTK.out, HNS.out, HV24.out, rfl, rfl⟩))⟩)⟩
              · have h24' : ((r.ser.length : Int) == 24) = false := by simp; omega
                have HV24 : Hid (r.view.ser.length < 24) := by show _ < _; simp [RB.view]; omega
                have h24n : r.ser.length < 24 := by omega
                obtain ⟨i3, hi3, hz30, hz31, hz32⟩ := info_parts Tryz.info3
                have HI3 : Hid (Tryz.prog.info? 3 = some i3 ∧ i3.zero = some (.int .i64 0) ∧ i3.size = 1 ∧ i3.bytes = 8) := ⟨hi3, hz30, hz31, hz32⟩
                obtain ⟨i8, hi8, hz80, hz81, hz82⟩ := info_parts Tryz.info85
                have HI8 : Hid (Tryz.prog.info? 156 = some i8 ∧ i8.zero = some (.agg #[.string ⟨#[]⟩, .string ⟨#[]⟩, .slice none 0 0]) ∧ i8.size = 3 ∧ i8.bytes = 56) := ⟨hi8, hz80, hz81, hz82⟩
                have hbl : r.b < w3.heap.size := lt_of HAT.out.blk
                obtain ⟨_, n2, _, n4⟩ := rb_nodup HAT.out.nodup
                have hnb : some r.b ≠ Value.ownBlock (.slice sa1 r.ser.length sc1) := fun e => (n2 r.b (by rw [hsv1, ← e]; simp)).1 rfl
                have bn := alloc_new w3 (.cells #[.string (B nm), .string (B p), .slice none 0 0] 156) _ rfl
                have gal := gb_alloc (gb_refl w3 none) (.cells #[.string (B nm), .string (B p), .slice none 0 0] 156)
                have c1l := gb_cell gal c1 (by simp)
                have z1l := gb_froz gal hbl z1 (by simp)
                have hnd3 : Hid ((r.ser ++ [(⟨nm, p, .slice none 0 0, []⟩ : RSer)]).flatMap (fun x => x.nv.ownBlock.toList)).Nodup := by
                  show List.Nodup _
                  have hn := HAT.out.nodup
                  simp only [RB.own, List.nodup_cons, List.nodup_append] at hn
                  simpa [Value.ownBlock] using hn.2.2.1.2.1.2.1
                clear hi3 hz30 hz31 hz32 hi8 hz80 hz81 hz82 hsv1 n2 n4 h24
                go_wp2_with (at_builtin; refine wpList_append_foot _ rfl _ _ 144 rfl 156 i8 (.agg #[.string ⟨#[]⟩, .string ⟨#[]⟩, .slice none 0 0]) 3 56 Tryz.underlying144 HI8.out.1 HI8.out.2.1 HI8.out.2.2.1 HI8.out.2.2.2 rfl (by decide) (.slice sa1 r.ser.length sc1) r.ser.length (r.ser.flatMap rsCells) rfl (by exact hrow1.alloc _) ⟨w3.heap.size, 0, none⟩ 1 1 (by omega) (rsCells ⟨nm, p, .slice none 0 0, []⟩) rfl rfl (cells_blk _ bn) (fun v hv => by simp [rsCells] at hv; rcases hv with rfl | rfl | rfl <;> rfl) (by unfold maxLen; omega) (by omega) ?_; intro sv' w4 own4 g4 hft4; obtain ⟨ya1, yc1, rfl, _, _⟩ := own_shape3 own4; have z4 := gb_froz g4 (by simp; omega) z1l hnb; have c4 := gb_cell g4 c1l hnb)
                have RO1 := rrow_out HAT.out HO.out (r.ser ++ [(⟨nm, p, .slice none 0 0, []⟩ : RSer)]) (fun y hy => by
                    simp only [List.mem_append, List.mem_cons, List.not_mem_nil, or_false] at hy
                    rcases hy with hy | rfl
                    · exact Or.inl hy
                    · exact Or.inr ⟨rfl, rfl⟩) (by simp; omega) hnd3.out (by have := kept_of_opt gal g4; rw [← HSV1.out] at this; exact this) (.slice ya1 (r.ser.length + 1) yc1) (by simpa using own4) (by
                    rcases hft4 with h | h
                    · exact Or.inl (by rw [h, HSV1.out])
                    · exact Or.inr (fun b hb => by
                        rw [h] at hb
                        have : b = (w3.alloc (.cells #[.string (B nm), .string (B p), .slice none 0 0] 156)).heap.size := by simpa using hb
                        simp at this; omega))
                obtain ⟨x1, hx1⟩ : ∃ x1, (⟨nm, p, .slice none 0 0, []⟩ : RSer) = x1 := ⟨_, rfl⟩
                have HX1 : Hid (x1.fam = nm ∧ x1.text = p ∧ x1.ns = []) := by rw [← hx1]; exact ⟨rfl, rfl, rfl⟩
                rw [hx1] at RO1
                obtain ⟨r1, hr1⟩ : ∃ r1, ({ r with sv := .slice ya1 (r.ser.length + 1) yc1, ser := r.ser ++ [x1] } : RB) = r1 := ⟨_, rfl⟩
                rw [hr1] at RO1
                have HB1 : Hid (r1.b = r.b) := by show _ = _; rw [← hr1]
                have E1 : Hid (r1.ser = r.ser ++ x1 :: []) := by show _ = _; rw [← hr1]
                have HRF : Hid (r1.fams = r.fams) := by show _ = _; rw [← hr1]
                have HAT1 : Hid (RB.At _ r1) := RO1.at_
                have HOK1 : Hid (RB.Ok m r1) := RO1.ok
                have HRO1 : Hid (ROut m r r1 w3 _) := RO1
                clear RO1 hr1 hx1 hft4 own4 g4 z4 c4 c1l z1l gal bn hnb hbl hrow1 c1 z0 z1 hnd3 c0 d1
                go_meet
                case rel =>
                  refine ⟨r1, r.ser, [], x1, rfl, E1.out, HB1.out, HAT1.out, HOK1.out, fun nv' wf RO => ⟨_, .from g1 (HRO1.out.trans RO), Or.inr (Or.inr ⟨HERR.out.1, _, HFM.out.1, HFM.out.2, Or.inr (Or.inr (Or.inr ⟨HTK.out, HNS.out, HV24.out, rfl, ?_⟩))⟩)⟩⟩
                  obtain ⟨y1, y2, y3⟩ := HX1.out
                  simp [RB.view, HRF.out, y1, y2, y3, HPP.out, HERR.out.2]
            · have E1 : Hid (r.ser = C ++ x :: D) := e1
              have E2 : Hid (x.text = p) := e2
              have hCi0 : ¬ (C.length : Int) < 0 := by omega
              clear e1 e2
              go_wp2
              go_meet
              case rel =>
                refine ⟨r, C, D, x, rfl, E1.out, rfl, HAT.out, HO.out, fun nv' wf RO => ⟨_, .from g1 RO, Or.inr (Or.inr ⟨HERR.out.1, _, HFM.out.1, HFM.out.2, Or.inr (Or.inl ⟨HTK.out, C.map (fun x => (x.fam, x.text, x.ns)), (x.fam, x.text, x.ns), D.map (fun x => (x.fam, x.text, x.ns)), ?_, ?_, rfl, ?_⟩)⟩)⟩⟩
                · simp [RB.view, E1.out]
                · show x.text = _
                  rw [E2.out, HPP.out]
                · simp [RB.view]
          case rest =>
            obtain ⟨r1, C, D, x, rfl, e1, hb1, hat1, hok1, hfin⟩ := hcut
            have HAT1 : Hid (RB.At wc r1) := hat1
            have HOK1 : Hid (RB.Ok m r1) := hok1
            have E1 : Hid (r1.ser = C ++ x :: D) := e1
            have HB1 : Hid (r1.b = r.b) := hb1
            have HFIN : Hid (∀ nv' wf, _) := hfin
            obtain ⟨i3, hi3, hz30, hz31, hz32⟩ := info_parts Tryz.info3
            have HI3 : Hid (Tryz.prog.info? 3 = some i3 ∧ i3.zero = some (.int .i64 0) ∧ i3.size = 1 ∧ i3.bytes = 8) := ⟨hi3, hz30, hz31, hz32⟩
            clear hi3 hz30 hz31 hz32 c0 c1 z0 z1 d1 hat1 hok1 e1 hb1 hfin HAT
            obtain ⟨k1, k2, k3, k4⟩ := rb_nodup HAT1.out.nodup
            have hxm : x ∈ r1.ser := by rw [E1.out]; simp
            have hnum := HAT1.out.nums x hxm
            have hnsl := HOK1.out.each x hxm
            obtain ⟨xa, xc, hxnv, _, _⟩ := own_shape1 hnum
            obtain ⟨sa2, sc2, hsv2, _, hsa2⟩ := own_shape3 HAT1.out.srows
            have hCl : C.length < r1.ser.length := by rw [E1.out]; simp
            obtain ⟨gs, rfl⟩ : ∃ gs, sa2 = some ⟨gs, 0, none⟩ := by
              rcases hsa2 with ⟨_, h0, _⟩ | ⟨ga, h1, _⟩
              · omega
              · exact ⟨ga, h1⟩
            have q1 := (rb_cells HAT1.out).2.1
            rw [hsv2, HB1.out] at q1
            have hr2 := HAT1.out.srows
            rw [hsv2] at hr2
            have hget2 : r1.ser[C.length]'hCl = x := by simp [E1.out]
            have q2 := row3_cell hr2 (fun x => rfl) C.length hCl 2 (by omega) x.nv (by rw [hget2]; rfl)
            have q3 : wc.frozen? ⟨gs, C.length * 3 + 2, none⟩ = false := row3_froz hr2
            rw [hxnv] at q2 hnum
            have hgl := (hr2.lt gs rfl).2
            have hgs : some gs ≠ Value.ownBlock (.slice xa x.ns.length xc) := fun e => by
              rw [← hxnv] at e
              exact (k4 x hxm gs (by rw [← e]; simp)).2.2.1 (by rw [hsv2]; simp [Value.ownBlock])
            have hrb : some r.b ≠ Value.ownBlock (.slice xa x.ns.length xc) := fun e => by
              rw [← hxnv] at e
              exact (k4 x hxm r.b (by rw [← e]; simp)).1 HB1.out.symm
            have HRS : Hid (∀ (wa w2 : World) (nv' : Value), wc.grownBy wa none → wa.grownBy w2 (Value.ownBlock (.slice xa x.ns.length xc)) → w2.ownsRow 0 3 1 nv' (x.ns.length + 1) (ints x.ns ++ [.int .i64 n]) → (nv'.ownBlock = Value.ownBlock (.slice xa x.ns.length xc) ∨ nv'.ownBlock = some wa.heap.size) → ROut (m + 1) r1 { r1 with ser := C ++ { x with nv := nv', ns := x.ns ++ [n] } :: D } wc (w2.setCell ⟨gs, C.length * 3 + 2, none⟩ nv')) := by
              intro wa w2 nv' p1 p2 p3 p4
              rw [← hxnv] at p2 p4
              exact rset_out HAT1.out HOK1.out C D x E1.out n p1 nv' p2 (by simpa [ints] using p3) p4 gs sc2 hsv2
            have ga2 := gb_alloc (gb_refl wc none) (.cells #[.int .i64 n] 3)
            have q1a := gb_cell ga2 q1 (by simp)
            have q2a := gb_cell ga2 q2 (by simp)
            have q3a := gb_froz ga2 hgl q3 (by simp)
            have hnuma := hnum.alloc (.cells #[.int .i64 n] 3)
            have hCi : (C.length : Int) < (r1.ser.length : Int) := by omega
            have hb47 : (x.ns.length + 1) * 8 ≤ 140737488355328 := by omega
            have hmx : x.ns.length + 1 ≤ maxLen := by unfold maxLen; omega
            clear k1 k2 k3 k4 hsv2 hr2 hget2 hxnv hsa2 hxm hnsl hCl
            go_wp2_with fail
            go_region_law (refine step_append_foot rfl _ _ 26 rfl 3 i3 (.int .i64 0) 1 8 Tryz.underlying26 HI3.out.1 HI3.out.2.1 HI3.out.2.2.1 HI3.out.2.2.2 rfl (by decide) (.slice xa x.ns.length xc) x.ns.length (ints x.ns) (by simp [Act.eval]) (by exact hnuma) ⟨wc.heap.size, 0, none⟩ 1 1 (by omega) [.int .i64 n] (by simp [Act.eval]) rfl (by exact cells_new wc _ 3) (fun v hv => by simp at hv; subst hv; rfl) hmx hb47 ?_; intro nv' w5 own5 g5 hft; obtain ⟨ya, yc, rfl, _, _⟩ := own_shape1 own5; have q1' := gb_cell g5 (by exact q1a) hrb; have q2' := gb_cell g5 (by exact q2a) hgs; have q3' := gb_froz g5 (by simp; omega) (by exact q3a) hgs; have RO := HRS.out _ w5 _ (by first | exact gb_d (q := 1) ga2 | exact gb_alloc (gb_d (q := 1) (gb_refl wc none)) _) g5 own5 hft)
            all_goals go_wp2
            all_goals go_ret
            all_goals
              obtain ⟨r', k1, k2⟩ := HFIN.out _ _ RO
              exact ⟨r', 0, rfl, k1, k2⟩
  · have HE : Hid ((readP s.data.toList).err ≠ 0 ∧ (err : Int) = ((readP s.data.toList).err : Int)) := by rw [HT.out]; exact ⟨h0, rfl⟩
    have h0' : ((err : Int) != 0) = true := by simp; omega
    go_wp2
    go_ret
    exact ⟨r, _, rfl, .same HH.out HO1.out g1, Or.inl ⟨HE.out.1, HE.out.2, rfl⟩⟩

end Go.Proofs.YtcfdemhokbddiaaGreatDoor

/-
  The document's Drop, walked.
-/
namespace Go.Proofs.YtcfdemhokbddiaaGreatDoor
open Go.RowKit

def RDrpOut (R : RV) (l : List UInt8) (code : Int) (R' : RV) : Prop :=
  ((readP l).err ≠ 0 ∧ code = ((readP l).err : Int) ∧ R' = R) ∨
  ((readP l).err = 0 ∧ (∀ x ∈ R.ser, x.2.1 ≠ plainP l) ∧ code = 6 ∧ R' = R) ∨
  ((readP l).err = 0 ∧ ∃ A x B', R.ser = A ++ x :: B' ∧ x.2.1 = plainP l ∧ code = 0 ∧ R' = ⟨R.fams, A ++ B'⟩)

theorem gb_new_opt {a b c : World} {o : Option Nat} (h : a.grownBy b none) (k : b.grownBy c o) (hg : ∀ g ∈ o.toList, a.heap.size ≤ g) : a.grownBy c none :=
  ⟨k.os.trans h.os, k.tape.trans h.tape, k.output.trans h.output, Nat.le_trans h.size k.size, fun i hi hr => (k.block i (Nat.lt_of_lt_of_le hi h.size) (fun e => by have := hg i (by rw [← e]; simp); omega)).trans (h.block i hi hr)⟩

set_option maxRecDepth 100000 in
set_option maxRecDepth 100000 in
set_option maxHeartbeats 2000000 in
theorem refDrp_any (r : RB) (s : ByteArray) (m : Nat) (w : World) (h : RB.At w r) (ho : RB.Ok m r) :
    Calls Tryz.prog 51 #[.pointer (some ⟨r.b, 0, none⟩), .string s] w fun e w' => ∃ r' code, e = .returned (.int .i64 code) ∧ ROut m r r' w w' ∧ RDrpOut r.view s.data.toList code r'.view := by
  have HH : Hid (RB.At w r) := h
  have HO : Hid (RB.Ok m r) := ho
  have hP := parse_any s w
  obtain ⟨T, hT⟩ : ∃ T, readP s.data.toList = T := ⟨_, rfl⟩
  obtain ⟨p, hp⟩ : ∃ p, plainP s.data.toList = p := ⟨_, rfl⟩
  have HT : Hid (readP s.data.toList = T) := hT
  have HPP : Hid (plainP s.data.toList = p) := hp
  obtain ⟨at2, hat2⟩ : ∃ at2, (if (readP s.data.toList).err = 0 then 0 else (readP s.data.toList).at_) = at2 := ⟨_, rfl⟩
  rw [hat2, hT, hp] at hP
  obtain ⟨err, at_, nm, ls⟩ := T
  simp only at hP
  unfold outV at hP
  have HP : Hid (Calls Tryz.prog 80 #[.string s] w _) := hP
  clear h ho hP hT hp hat2
  go_enter Tryz.func51, Tryz.ntmps51
  go_wp2_with fail
  refine HP.out.mono ?_
  rintro e w1 ⟨rfl, b1⟩
  have g1 := gb_of_below b1
  clear b1 HP
  by_cases h0 : err = 0
  · subst h0
    have HERR : Hid ((readP s.data.toList).err = 0) := by show _ = _; rw [HT.out]
    have hsl := HO.out.slen
    go_wp2_with fail
    refine (refSeries_any r p _ (HH.out.gb g1) (by omega)).mono ?_
    rintro e w2 ⟨rfl, code, rfl, hlook⟩
    rcases hlook with ⟨hno, rfl⟩ | ⟨C, x, D, e1, e2, _, rfl⟩
    · have HNO : Hid (∀ x ∈ r.view.ser, x.2.1 ≠ plainP s.data.toList) := by
        intro f hf
        rw [HPP.out]
        simp only [RB.view, List.mem_map] at hf
        obtain ⟨g, hg, rfl⟩ := hf
        exact hno g hg
      clear hno
      go_wp2
      go_ret
      exact ⟨r, _, rfl, .same HH.out HO.out g1, Or.inr (Or.inl ⟨HERR.out, HNO.out, rfl, rfl⟩)⟩
    · have hat := HH.out.gb g1
      have HAT : Hid (RB.At w2 r) := hat
      obtain ⟨c0, c1, z0, z1⟩ := rb_cells hat
      obtain ⟨sa, sc, hsv, hsc, hsa⟩ := own_shape3 hat.srows
      have hCl : C.length < r.ser.length := by rw [e1]; simp
      obtain ⟨gs, rfl⟩ : ∃ gs, sa = some ⟨gs, 0, none⟩ := by
        rcases hsa with ⟨_, h0, _⟩ | ⟨ga, h1, _⟩
        · omega
        · exact ⟨ga, h1⟩
      rw [hsv] at c1
      have hrow := hat.srows
      rw [hsv] at hrow
      have hbl : r.b < w2.heap.size := lt_of hat.blk
      have hgl := (hrow.lt gs rfl).2
      have hCn : r.ser.length = C.length + 1 + D.length := by rw [e1]; simp; omega
      have hfl : (r.ser.flatMap rsCells) = C.flatMap rsCells ++ (rsCells x ++ D.flatMap rsCells) := by rw [e1]; simp
      have hlenC := flat_len3 rsCells (fun _ => rfl) C
      have hlenD := flat_len3 rsCells (fun _ => rfl) D
      have HS1 : Hid (∀ j u, (C.flatMap rsCells)[j]? = some u → w2.cell? ((⟨gs, 0, none⟩ : Addr).add j) = some u) := by
        intro j u hj
        have hjl := (List.getElem?_eq_some_iff.1 hj).1
        refine hrow.cells (g := gs) rfl j u ?_
        rw [hfl, List.getElem?_append_left hjl]; exact hj
      have HS2 : Hid (∀ j u, (D.flatMap rsCells)[j]? = some u → w2.cell? ⟨gs, (C.length + 1) * 3 + j, none⟩ = some u) := by
        intro j u hj
        have := hrow.cells (g := gs) rfl ((C.length + 1) * 3 + j) u (by
          rw [hfl, List.getElem?_append_right (by omega), List.getElem?_append_right (by rw [hlenC]; show 3 ≤ _; omega)]
          simp only [hlenC, rsCells, List.length_cons, List.length_nil]
          rw [show (C.length + 1) * 3 + j - C.length * 3 - (0 + 1 + 1 + 1) = j from by omega]
          exact hj)
        rw [Addr.add_lit] at this
        simpa using this
      have HD0 : Hid (sc = C.length + 1 → D = []) := by
        intro h; apply List.eq_nil_of_length_eq_zero; omega
      have HL1 : Hid ((C.flatMap rsCells).length = C.length * 3) := hlenC
      have HL2 : Hid ((D.flatMap rsCells).length = D.length * 3) := hlenD
      have H1c : Hid (∀ (Z : List RSer), (∀ z ∈ Z, z ∈ r.ser) → ∀ v ∈ Z.flatMap rsCells, v.oneCell' = true) := by
        intro Z hZ v hv
        rw [List.mem_flatMap] at hv
        obtain ⟨z, hz, hv⟩ := hv
        obtain ⟨za, zc, hzv, _⟩ := own_shape1 (HAT.out.nums z (hZ z hz))
        simp [rsCells] at hv
        rcases hv with rfl | rfl | rfl
        · rfl
        · rfl
        · rw [hzv]; rfl
      have H1C := H1c.out C (fun z hz => by rw [e1]; simp [hz])
      have H1D := H1c.out D (fun z hz => by rw [e1]; simp [hz])
      have E1 : Hid (r.ser = C ++ x :: D) := e1
      have E2 : Hid (x.text = p) := e2
      have HSVr : Hid (r.sv = .slice (some ⟨gs, 0, none⟩) r.ser.length sc) := hsv
      obtain ⟨i8, hi8, hz80, hz81, hz82⟩ := info_parts Tryz.info85
      have HI8 : Hid (Tryz.prog.info? 156 = some i8 ∧ i8.zero = some (.agg #[.string ⟨#[]⟩, .string ⟨#[]⟩, .slice none 0 0]) ∧ i8.size = 3 ∧ i8.bytes = 56) := ⟨hi8, hz80, hz81, hz82⟩
      have HFIN : Hid (∀ (w4 : World) (sv' : Value), w2.grownBy w4 none → w4.ownsRow w2.heap.size 156 3 sv' (C.length + D.length) (C.flatMap rsCells ++ D.flatMap rsCells) → ∃ r', ROut m r r' w (w4.setCell ⟨r.b, 1, none⟩ sv') ∧ RDrpOut r.view s.data.toList 0 r'.view) := by
        intro w4 sv' k1 k2
        have hn := HAT.out.nodup
        have hnd : ((C ++ D).flatMap (fun x => x.nv.ownBlock.toList)).Nodup := by
          simp only [RB.own, List.nodup_cons, List.nodup_append] at hn
          have h3 := hn.2.2.1.2.1.2.1
          rw [E1.out, List.flatMap_append, List.flatMap_cons] at h3
          rw [List.flatMap_append]
          simp only [List.nodup_append, List.mem_append] at h3 ⊢
          exact ⟨h3.1, h3.2.1.2.1, fun a ha b hb => h3.2.2 a ha b (Or.inr hb)⟩
        have hsubm : ∀ y ∈ C ++ D, y ∈ r.ser := by
          intro y hy
          rw [E1.out]
          simp only [List.mem_append, List.mem_cons] at hy ⊢
          rcases hy with hy | hy
          · exact Or.inl hy
          · exact Or.inr (Or.inr hy)
        have hro := rrow_out HAT.out HO.out (C ++ D) (fun y hy => Or.inl (hsubm y hy)) (by have := HO.out.slen; rw [E1.out] at this; simp at this ⊢; omega) hnd (Kept.of_none k1 _) sv' (by
            rw [List.length_append, List.flatMap_append]; exact own_base0 k2) (Or.inr (fun b hb => by
            have hb' : sv'.ownBlock = some b := by simpa using hb
            exact (k2.lt b hb').1))
        refine ⟨_, .from g1 hro, Or.inr (Or.inr ⟨HERR.out, C.map (fun x => (x.fam, x.text, x.ns)), (x.fam, x.text, x.ns), D.map (fun x => (x.fam, x.text, x.ns)), ?_, ?_, rfl, ?_⟩)⟩
        · simp [RB.view, E1.out]
        · show x.text = _
          rw [E2.out, HPP.out]
        · simp [RB.view]
      have hCi : (C.length : Int) ≤ (sc : Int) := by omega
      have hCi2 : (C.length : Int) + 1 ≤ (r.ser.length : Int) := by omega
      have hCi0 : ¬ (C.length : Int) < 0 := by omega
      have hC0 : (0 : Int) ≤ (C.length : Int) + 1 := by omega
      have htn : ((C.length : Int) + 1).toNat = C.length + 1 := by omega
      have HDn : Hid (r.ser.length - (C.length + 1) = D.length) := by show _ = _; omega
      have hC24 : C.length ≤ 24 := by omega
      have hD24 : D.length ≤ 24 := by omega
      clear hi8 hz80 hz81 hz82 hat hsv hrow hfl hlenC hlenD e1 e2 hsa c0 z0 H1c hCn
      have HS3 : Hid (∀ (ad : Addr) (w3 : World), w2.grownBy w3 none → ((ad = ⟨gs, 0, none⟩ ∧ sc = C.length + 1) ∨ ad = ⟨gs, (C.length + 1) * 3, none⟩) → ∀ j u, (D.flatMap rsCells)[j]? = some u → w3.cell? (ad.add j) = some u) := by
        intro ad w3 k1 k2 j u hj
        rcases k2 with ⟨rfl, e⟩ | rfl
        · rw [HD0.out e] at hj; simp at hj
        · rw [Addr.add_lit]; exact gb_cell k1 (HS2.out j u hj) (by simp)
      have HL3 : Hid ((D.flatMap rsCells).length = (r.ser.length - (C.length + 1)) * 3) := by show _ = _; rw [HL2.out, HDn.out]
      have hb63 : C.length + (r.ser.length - (C.length + 1)) ≤ maxLen := by unfold maxLen; omega
      have hb47 : (C.length + (r.ser.length - (C.length + 1))) * 56 ≤ 140737488355328 := by omega
      by_cases hq : sc = C.length + 1
      · have HDE : Hid (D = []) := HD0.out hq
        subst hq
        go_wp2_with (at_builtin; first
          | (refine wpList_append_own _ rfl _ _ 144 rfl w2.heap.size 156 i8 (.agg #[.string ⟨#[]⟩, .string ⟨#[]⟩, .slice none 0 0]) 3 56 Tryz.underlying144 HI8.out.1 HI8.out.2.1 HI8.out.2.2.1 HI8.out.2.2.2 rfl (by decide) (.slice none 0 0) 0 [] rfl (World.ownsRow_nil _ _ _ _) ⟨gs, 0, none⟩ C.length (C.length + 1) (C.flatMap rsCells) rfl HL1.out HS1.out H1C (by unfold maxLen; omega) (by omega) (Nat.le_refl _) ?_; intro lv w3 own3 g3 _; simp only [Nat.zero_add, List.nil_append] at own3; obtain ⟨la, lc, rfl, _, _⟩ := own_shape3 own3; have c1' := gb_cell g3 c1 (by simp [Value.ownBlock]); have z1' := gb_froz g3 hbl z1 (by simp [Value.ownBlock]); have hg3 : w2.grownBy w3 none := g3)
          | (refine wpList_append_own _ rfl _ _ 144 rfl w2.heap.size 156 i8 (.agg #[.string ⟨#[]⟩, .string ⟨#[]⟩, .slice none 0 0]) 3 56 Tryz.underlying144 HI8.out.1 HI8.out.2.1 HI8.out.2.2.1 HI8.out.2.2.2 rfl (by decide) (.slice la C.length lc) C.length (C.flatMap rsCells) rfl own3 ⟨gs, 0, none⟩ 0 0 [] rfl rfl (fun j u h => by simp at h) (fun v hv => by simp at hv) (by unfold maxLen; omega) (by omega) (by have := hg3.size; omega) ?_; intro sv' w4 own4 g4 _; obtain ⟨ya, yc, rfl, _, _⟩ := own_shape3 own4; have hrb : some r.b ≠ Value.ownBlock (.slice la C.length lc) := (fun e => by have := (own3.lt r.b e.symm).1; omega); have c4 := gb_cell g4 c1' hrb; have z4 := gb_froz g4 (by have := hg3.size; omega) z1' hrb))
        all_goals go_ret
        all_goals
          have g24 := gb_new_opt hg3 g4 (fun g hg => by
            have hg' : Value.ownBlock (.slice la C.length lc) = some g := by simpa using hg
            exact (own3.lt g hg').1)
          have own4' : w4.ownsRow w2.heap.size 156 3 (.slice ya (C.length + 0) yc) (C.length + D.length) (C.flatMap rsCells ++ D.flatMap rsCells) := by
            rw [HDE.out]; exact own4
          obtain ⟨r', k1, k2⟩ := HFIN.out w4 _ g24 own4'
          exact ⟨r', 0, rfl, k1, k2⟩
      · go_wp2_with (at_builtin; first
          | (refine wpList_append_own _ rfl _ _ 144 rfl w2.heap.size 156 i8 (.agg #[.string ⟨#[]⟩, .string ⟨#[]⟩, .slice none 0 0]) 3 56 Tryz.underlying144 HI8.out.1 HI8.out.2.1 HI8.out.2.2.1 HI8.out.2.2.2 rfl (by decide) (.slice none 0 0) 0 [] rfl (World.ownsRow_nil _ _ _ _) ⟨gs, 0, none⟩ C.length sc (C.flatMap rsCells) rfl HL1.out HS1.out H1C (by unfold maxLen; omega) (by omega) (Nat.le_refl _) ?_; intro lv w3 own3 g3 _; simp only [Nat.zero_add, List.nil_append] at own3; obtain ⟨la, lc, rfl, _, _⟩ := own_shape3 own3; have c1' := gb_cell g3 c1 (by simp [Value.ownBlock]); have z1' := gb_froz g3 hbl z1 (by simp [Value.ownBlock]); have hg3 : w2.grownBy w3 none := g3)
          | (refine wpList_append_own _ rfl _ _ 144 rfl w2.heap.size 156 i8 (.agg #[.string ⟨#[]⟩, .string ⟨#[]⟩, .slice none 0 0]) 3 56 Tryz.underlying144 HI8.out.1 HI8.out.2.1 HI8.out.2.2.1 HI8.out.2.2.2 rfl (by decide) (.slice la C.length lc) C.length (C.flatMap rsCells) rfl own3 ⟨gs, (C.length + 1) * 3, none⟩ (r.ser.length - (C.length + 1)) _ (D.flatMap rsCells) rfl HL3.out (HS3.out _ w3 hg3 (Or.inr rfl)) H1D hb63 hb47 (by have := hg3.size; omega) ?_; intro sv' w4 own4 g4 _; obtain ⟨ya, yc, rfl, _, _⟩ := own_shape3 own4; have hrb : some r.b ≠ Value.ownBlock (.slice la C.length lc) := (fun e => by have := (own3.lt r.b e.symm).1; omega); have c4 := gb_cell g4 c1' hrb; have z4 := gb_froz g4 (by have := hg3.size; omega) z1' hrb))
        all_goals go_ret
        all_goals
          have g24 := gb_new_opt hg3 g4 (fun g hg => by
            have hg' : Value.ownBlock (.slice la C.length lc) = some g := by simpa using hg
            exact (own3.lt g hg').1)
          have own4' := own4
          rw [HDn.out] at own4'
          obtain ⟨r', k1, k2⟩ := HFIN.out w4 _ g24 own4'
          exact ⟨r', 0, rfl, by rw [HDn.out]; exact k1, k2⟩
  · have HE : Hid ((readP s.data.toList).err ≠ 0 ∧ (err : Int) = ((readP s.data.toList).err : Int)) := by rw [HT.out]; exact ⟨h0, rfl⟩
    have h0' : ((err : Int) != 0) = true := by simp; omega
    go_wp2
    go_ret
    exact ⟨r, _, rfl, .same HH.out HO.out g1, Or.inl ⟨HE.out.1, HE.out.2, rfl⟩⟩

end Go.Proofs.YtcfdemhokbddiaaGreatDoor

/-
  What Family, Change and Drop answer, told apart by what is the case (plain facts).
-/
namespace Go.Proofs.YtcfdemhokbddiaaGreatDoor
open Go.RowKit

theorem key_split {α : Type} [Inhabited α] {key : α → List UInt8} {T : List α} {t : List UInt8} (h : kfnd lt t (T.map key) = true) :
    ∃ A f B', T = A ++ f :: B' ∧ key f = t ∧ kplace lt t (T.map key) = A.length ∧ T.getD (kplace lt t (T.map key)) default = f := by
  obtain ⟨hk, e⟩ := kfnd_get t (T.map key) h
  have hk' : kplace lt t (T.map key) < T.length := by simpa using hk
  generalize kplace lt t (T.map key) = i at *
  refine ⟨T.take i, T[i], T.drop (i + 1), ?_, by simpa using e, ?_, ?_⟩
  · rw [← List.drop_eq_getElem_cons hk', List.take_append_drop]
  · rw [List.length_take]; omega
  · rw [List.getD_eq_getElem?_getD, List.getElem?_eq_getElem hk']; rfl
theorem key_no {α : Type} {key : α → List UInt8} {T : List α} {t : List UInt8} (hs : KSrt lt (T.map key)) (h : kfnd lt t (T.map key) = false) : ∀ f ∈ T, key f ≠ t := fun f hf e => by
  have : kfnd lt t (T.map key) = true := (kfnd_iff ltB t _ hs).2 (by rw [← e]; exact List.mem_map_of_mem hf)
  rw [h] at this; cases this
theorem set_mid {α : Type} (A : List α) (f g : α) (B' : List α) : (A ++ f :: B').set A.length g = A ++ g :: B' := by
  simp
theorem cut_mid {α : Type} (A : List α) (f : α) (B' : List α) : cut1 (A ++ f :: B') A.length = A ++ B' := by
  unfold cut1
  rw [List.take_left, List.drop_append]
  simp

def FamOut (T : List Fam) (nm : List UInt8) (kind : Int) (xs : List Int) (code : Int) (T' : List Fam) : Prop :=
  (isNameB nm = false ∧ code = 2 ∧ T' = T) ∨
  (isNameB nm = true ∧ fitB kind xs = false ∧ code = 4 ∧ T' = T) ∨
  (isNameB nm = true ∧ fitB kind xs = true ∧ (∃ f ∈ T, f.nm = nm ∧ code = remP kind f.kind xs f.ls) ∧ T' = T) ∨
  (isNameB nm = true ∧ fitB kind xs = true ∧ (∀ f ∈ T, f.nm ≠ nm) ∧ 8 ≤ T.length ∧ code = 7 ∧ T' = T) ∨
  (isNameB nm = true ∧ fitB kind xs = true ∧ (∀ f ∈ T, f.nm ≠ nm) ∧ T.length < 8 ∧ code = 0 ∧ ∃ C D, T = C ++ D ∧ T' = C ++ ⟨nm, kind, xs, []⟩ :: D)
def ChgOut (T : List Fam) (l : List UInt8) (n : Int) (code : Int) (T' : List Fam) : Prop :=
  ((readP l).err ≠ 0 ∧ code = ((readP l).err : Int) ∧ T' = T) ∨
  ((readP l).err = 0 ∧ (∀ f ∈ T, f.nm ≠ (readP l).name) ∧ code = 6 ∧ T' = T) ∨
  ((readP l).err = 0 ∧ ∃ A f B', T = A ++ f :: B' ∧ f.nm = (readP l).name ∧
    ((takesB f.kind n = false ∧ code = 4 ∧ T' = T) ∨
     (takesB f.kind n = true ∧ ∃ C c D, f.ser = C ++ c :: D ∧ c.plain = plainP l ∧ code = 0 ∧ T' = A ++ { f with ser := C ++ countP f.kind f.ls n c :: D } :: B') ∨
     (takesB f.kind n = true ∧ (∀ c ∈ f.ser, c.plain ≠ plainP l) ∧ 24 ≤ sizeOfAll T ∧ code = 7 ∧ T' = T) ∨
     (takesB f.kind n = true ∧ (∀ c ∈ f.ser, c.plain ≠ plainP l) ∧ sizeOfAll T < 24 ∧ code = 0 ∧ ∃ C D, f.ser = C ++ D ∧ T' = A ++ { f with ser := C ++ countP f.kind f.ls n (zeroCnt (plainP l)) :: D } :: B')))
def DrpOut (T : List Fam) (l : List UInt8) (code : Int) (T' : List Fam) : Prop :=
  ((readP l).err ≠ 0 ∧ code = ((readP l).err : Int) ∧ T' = T) ∨
  ((readP l).err = 0 ∧ (∀ f ∈ T, f.nm ≠ (readP l).name) ∧ code = 6 ∧ T' = T) ∨
  ((readP l).err = 0 ∧ ∃ A f B', T = A ++ f :: B' ∧ f.nm = (readP l).name ∧
    (((∀ c ∈ f.ser, c.plain ≠ plainP l) ∧ code = 6 ∧ T' = T) ∨
     (∃ C c D, f.ser = C ++ c :: D ∧ c.plain = plainP l ∧ code = 0 ∧ T' = A ++ { f with ser := C ++ D } :: B')))

theorem famOut {T : List Fam} {nm : List UInt8} {kind : Int} {xs : List Int} {c : Int} {T' : List Fam} (hs : KSrt lt (T.map Fam.nm)) (h : (c, T') = famP T nm kind xs) : FamOut T nm kind xs c T' := by
  unfold famP at h
  unfold FamOut
  by_cases h1 : isNameB nm = false
  · rw [if_pos h1] at h; simp only [Prod.mk.injEq] at h; exact Or.inl ⟨h1, h.1, h.2⟩
  rw [if_neg h1] at h
  rw [Bool.not_eq_false] at h1
  by_cases h2 : fitB kind xs = false
  · rw [if_pos h2] at h; simp only [Prod.mk.injEq] at h; exact Or.inr (Or.inl ⟨h1, h2, h.1, h.2⟩)
  rw [if_neg h2] at h
  rw [Bool.not_eq_false] at h2
  by_cases h3 : kfnd lt nm (T.map Fam.nm) = true
  · rw [if_pos h3] at h
    obtain ⟨A, f, B', e, ek, _, eg⟩ := key_split h3
    rw [eg] at h
    simp only [Prod.mk.injEq] at h
    exact Or.inr (Or.inr (Or.inl ⟨h1, h2, ⟨f, by rw [e]; simp, ek, h.1⟩, h.2⟩))
  rw [if_neg h3] at h
  rw [Bool.not_eq_true] at h3
  have no := key_no hs h3
  by_cases h4 : 8 ≤ T.length
  · rw [if_pos h4] at h; simp only [Prod.mk.injEq] at h; exact Or.inr (Or.inr (Or.inr (Or.inl ⟨h1, h2, no, h4, h.1, h.2⟩)))
  · rw [if_neg h4] at h; simp only [Prod.mk.injEq] at h
    exact Or.inr (Or.inr (Or.inr (Or.inr ⟨h1, h2, no, by omega, h.1, _, _, (List.take_append_drop _ T).symm, h.2⟩)))
theorem chgOut {T : List Fam} {l : List UInt8} {n c : Int} {T' : List Fam} (hs : KSrt lt (T.map Fam.nm)) (hc : ∀ f ∈ T, KSrt lt (f.ser.map Cnt.plain)) (h : (c, T') = chgP T l n) : ChgOut T l n c T' := by
  unfold chgP at h
  unfold ChgOut
  by_cases h1 : (readP l).err ≠ 0
  · rw [if_pos h1] at h; simp only [Prod.mk.injEq] at h; exact Or.inl ⟨h1, h.1, h.2⟩
  rw [if_neg h1] at h
  have h1' : (readP l).err = 0 := Classical.byContradiction h1
  by_cases h2 : kfnd lt (readP l).name (T.map Fam.nm) = false
  · rw [if_pos h2] at h; simp only [Prod.mk.injEq] at h; exact Or.inr (Or.inl ⟨h1', key_no hs h2, h.1, h.2⟩)
  rw [if_neg h2] at h
  rw [Bool.not_eq_false] at h2
  obtain ⟨A, f, B', e, ek, ep, eg⟩ := key_split h2
  refine Or.inr (Or.inr ⟨h1', A, f, B', e, ek, ?_⟩)
  have hset : ∀ g, T.set (kplace lt (readP l).name (T.map Fam.nm)) g = A ++ g :: B' := fun g => by rw [ep, e, set_mid]
  have hfc := hc f (by rw [e]; simp)
  unfold chgAt at h
  rw [eg, hset, hset] at h
  by_cases h3 : takesB f.kind n = false
  · rw [if_pos h3] at h; simp only [Prod.mk.injEq] at h; exact Or.inl ⟨h3, h.1, h.2⟩
  rw [if_neg h3] at h
  rw [Bool.not_eq_false] at h3
  by_cases h4 : kfnd lt (plainP l) (f.ser.map Cnt.plain) = true
  · rw [if_pos h4] at h
    obtain ⟨C, d, D, es, ed, eq, eh⟩ := key_split h4
    rw [eh, eq] at h
    have hst : f.ser.set C.length (countP f.kind f.ls n d) = C ++ countP f.kind f.ls n d :: D := by rw [es, set_mid]
    rw [hst] at h
    simp only [Prod.mk.injEq] at h
    exact Or.inr (Or.inl ⟨h3, C, d, D, es, ed, h.1, h.2⟩)
  rw [if_neg h4] at h
  rw [Bool.not_eq_true] at h4
  have no := key_no hfc h4
  by_cases h5 : 24 ≤ sizeOfAll T
  · rw [if_pos h5] at h; simp only [Prod.mk.injEq] at h; exact Or.inr (Or.inr (Or.inl ⟨h3, no, h5, h.1, h.2⟩))
  · rw [if_neg h5] at h; simp only [Prod.mk.injEq] at h
    exact Or.inr (Or.inr (Or.inr ⟨h3, no, by omega, h.1, _, _, (List.take_append_drop _ _).symm, h.2⟩))
theorem drpOut {T : List Fam} {l : List UInt8} {c : Int} {T' : List Fam} (hs : KSrt lt (T.map Fam.nm)) (hc : ∀ f ∈ T, KSrt lt (f.ser.map Cnt.plain)) (h : (c, T') = drpP T l) : DrpOut T l c T' := by
  unfold drpP at h
  unfold DrpOut
  by_cases h1 : (readP l).err ≠ 0
  · rw [if_pos h1] at h; simp only [Prod.mk.injEq] at h; exact Or.inl ⟨h1, h.1, h.2⟩
  rw [if_neg h1] at h
  have h1' : (readP l).err = 0 := Classical.byContradiction h1
  by_cases h2 : kfnd lt (readP l).name (T.map Fam.nm) = false
  · rw [if_pos h2] at h; simp only [Prod.mk.injEq] at h; exact Or.inr (Or.inl ⟨h1', key_no hs h2, h.1, h.2⟩)
  rw [if_neg h2] at h
  rw [Bool.not_eq_false] at h2
  obtain ⟨A, f, B', e, ek, ep, eg⟩ := key_split h2
  refine Or.inr (Or.inr ⟨h1', A, f, B', e, ek, ?_⟩)
  have hset : ∀ g, T.set (kplace lt (readP l).name (T.map Fam.nm)) g = A ++ g :: B' := fun g => by rw [ep, e, set_mid]
  have hfc := hc f (by rw [e]; simp)
  unfold drpAt at h
  rw [eg, hset] at h
  by_cases h4 : kfnd lt (plainP l) (f.ser.map Cnt.plain) = false
  · rw [if_pos h4] at h; simp only [Prod.mk.injEq] at h; exact Or.inl ⟨key_no hfc h4, h.1, h.2⟩
  rw [if_neg h4] at h
  rw [Bool.not_eq_false] at h4
  obtain ⟨C, d, D, es, ed, eq, _⟩ := key_split h4
  have hct : cut1 f.ser (kplace lt (plainP l) (f.ser.map Cnt.plain)) = C ++ D := by rw [eq, es, cut_mid]
  rw [hct] at h
  simp only [Prod.mk.injEq] at h
  exact Or.inr ⟨C, d, D, es, ed, h.1, h.2⟩

end Go.Proofs.YtcfdemhokbddiaaGreatDoor
