/-
  The document's own answer: IsName, limited, same.
-/
import Derived.Test.YtcfdemhokbddiaaGreatDoorQKp
import Derived.Test.YtcfdemhokbddiaaGreatDoorQZa


namespace Go.Proofs.YtcfdemhokbddiaaGreatDoor
open Go.RowKit

set_option maxRecDepth 100000 in
set_option maxHeartbeats 1000000 in
theorem refSame_any (v u : Value) (xs ys : List Int) (w : World) (hv : IntSl w v xs) (hu : IntSl w u ys) (hm : xs.length ≤ 9223372036854775807) :
    Calls Tryz.prog 84 #[v, u] w fun e w' => e = .returned (.bool (decide (xs = ys))) ∧ ∃ q, w' = w.drewN q := by
  obtain ⟨sa, ca, rfl, _, hxs⟩ := hv
  obtain ⟨sb, cb, rfl, _, hys⟩ := hu
  by_cases hn : xs.length = ys.length
  · have HN : Hid (xs.length = ys.length) := hn
    rw [← hn]
    clear hn
    go_enter Tryz.func84, Tryz.ntmps84
    go_wp2_with fail
    go_loopw [5] (fun i wr => ∃ k : Nat, i = .int .i64 (k : Int) ∧ k ≤ xs.length ∧ Hid (∀ j (h : j < xs.length) (h' : j < ys.length), j < k → xs[j] = ys[j]) ∧ ∃ q, wr = w.drewN q) (fun i _ => xs.length - (intOf i).toNat)
    case atStart => exact ⟨0, rfl, by omega, fun j _ _ h => by omega, 0, rfl⟩
    case round =>
      obtain ⟨k, rfl, hk, HJ, q, rfl⟩ := hrel
      by_cases hlt : k < xs.length
      · have hlt2 : k < ys.length := by rw [← HN.out]; exact hlt
        rcases hxs with h | ⟨b1, o1, rfl, h1⟩
        · rw [h] at hlt; simp at hlt
        rcases hys with h | ⟨b2, o2, rfl, h2⟩
        · rw [h] at hlt2; simp at hlt2
        have c1 : w.cell? ⟨b1, o1 + k, none⟩ = some (.int .i64 xs[k]) := h1 k hlt
        have c2 : w.cell? ⟨b2, o2 + k, none⟩ = some (.int .i64 ys[k]) := h2 k hlt2
        have HE : Hid (decide (xs = ys) = true → xs[k] = ys[k]) := by intro h; have e := of_decide_eq_true h; subst e; rfl
        obtain ⟨x, hx⟩ : ∃ x, x = xs[k] := ⟨_, rfl⟩
        obtain ⟨y, hy⟩ : ∃ y, y = ys[k] := ⟨_, rfl⟩
        have HX : Hid (x = xs[k] ∧ y = ys[k]) := ⟨hx, hy⟩
        rw [← hx] at c1 HE
        rw [← hy] at c2 HE
        have hlti : (k : Int) < (xs.length : Int) := by omega
        clear hx hy h1 h2
        by_cases he : x = y
        · have HE2 : Hid (x = y) := he
          have hne : (x != y) = false := by simp [he]
          clear he HE
          go_wp2_with fail
          go_quiet (fail)
          go_wp2
          go_roundw
          case rel =>
            refine ⟨k + 1, by go_num, by omega, fun j h h' hj => ?_, _, rfl⟩
            by_cases e : j = k
            · subst e; rw [← HX.out.1, ← HX.out.2]; exact HE2.out
            · exact HJ.out j h h' (by omega)
          case measure => simp [intOf]; omega
        · have hne : (x != y) = true := by simp [he]
          have HE2 : Hid (decide (xs = ys) = false) := by
            show _ = _
            cases hd : decide (xs = ys) with
            | false => rfl
            | true => exact absurd (HE.out hd) he
          clear he HE
          go_wp2_with fail
          go_quiet (fail)
          go_wp2
          go_ret
          exact ⟨by rw [HE2.out]; rfl, drew2 _ _ _⟩
      · have HE2 : Hid (decide (xs = ys) = true) := by
          show _ = _
          refine decide_eq_true (List.ext_getElem HN.out fun j h h' => HJ.out j h h' (by omega))
        go_wp2
        go_ret
        exact ⟨by rw [HE2.out]; rfl, _, rfl⟩
  · have HE2 : Hid (decide (xs = ys) = false) := by
      show _ = _
      exact decide_eq_false fun e => hn (by rw [e])
    have hne : ((xs.length : Int) != (ys.length : Int)) = true := by simp; omega
    go_enter Tryz.func84, Tryz.ntmps84
    go_wp2
    go_ret
    exact ⟨by rw [HE2.out]; rfl, 0, rfl⟩


theorem nameLen_all (k : Nat) (l : List UInt8) : nameLen k l = l.length ↔ ∀ j (h : j < l.length), goesB (k + j) ((l[j]).toNat : Int) = true := by
  induction l generalizing k with
  | nil => simp [nameLen]
  | cons c l ih =>
    unfold nameLen
    constructor
    · intro h j hj
      split at h
      · rename_i hc
        have hl : nameLen (k + 1) l = l.length := by simp at h; omega
        cases j with
        | zero => simpa [goesB] using hc
        | succ j =>
          have := (ih (k + 1)).1 hl j (by simpa using hj)
          simpa [Nat.add_assoc, Nat.add_comm 1 j] using this
      · simp at h
    · intro h
      have h0 := h 0 (by simp)
      rw [if_pos (by simpa [goesB] using h0)]
      have hl := (ih (k + 1)).2 (fun j hj => by
        have := h (j + 1) (by simpa using hj)
        simpa [Nat.add_assoc, Nat.add_comm 1 j] using this)
      simp; omega
theorem isNameB_iff (l : List UInt8) : isNameB l = true ↔ l ≠ [] ∧ ∀ j (h : j < l.length), goesB j ((l[j]).toNat : Int) = true := by
  unfold isNameB
  rw [Bool.and_eq_true, decide_eq_true_eq, decide_eq_true_eq]
  constructor
  · rintro ⟨h1, h2⟩
    refine ⟨fun e => by rw [e] at h1; simp [nameLen] at h1, fun j hj => ?_⟩
    have := (nameLen_all 0 l).1 h2 j hj
    simpa using this
  · rintro ⟨h1, h2⟩
    have h3 : nameLen 0 l = l.length := (nameLen_all 0 l).2 (fun j hj => by simpa using h2 j hj)
    refine ⟨?_, h3⟩
    rw [h3]
    cases l with
    | nil => exact absurd rfl h1
    | cons c l => simp

set_option maxRecDepth 100000 in
set_option maxHeartbeats 400000 in
theorem refIsName_any (s : ByteArray) (w : World) :
    Calls Tryz.prog 81 #[.string s] w fun e w' => e = .returned (.bool (isNameB s.data.toList)) ∧ w' = w := by
  have HI : Hid (isNameB s.data.toList = true ↔ s.data.toList ≠ [] ∧ ∀ j (h : j < s.data.toList.length), goesB j (((s.data.toList)[j]).toNat : Int) = true) := isNameB_iff _
  go_enter Tryz.func81, Tryz.ntmps81
  go_wp2
  go_loop [3] (fun i => ∃ k : Nat, k ≤ s.size ∧ k ≤ 12 ∧ i = .int .i64 (k : Int) ∧ Hid (∀ j (h : j < s.size), j < k → goesB j ((s[j]'h).toNat : Int) = true)) (fun i => 13 - (intOf i).toNat)
  case atStart => exact ⟨0, Nat.zero_le _, by omega, rfl, fun j h hj => by omega⟩
  case round =>
    obtain ⟨k, hk, hk12, rfl, HA⟩ := hrel
    by_cases hlt : k < s.size
    · have hlti : (k : Int) < (s.size : Int) := by omega
      have HG : Hid (Calls Tryz.prog 118 #[.int .i64 (k : Int), .int .u8 (s[k].toNat : Int)] w fun e w' => e = .returned (.bool (goesB k (s[k].toNat : Int))) ∧ w' = w) := goes_any k _ w (by omega)
      cases hg : goesB k (s[k].toNat : Int) with
      | true =>
        have HG2 : Hid (goesB k (s[k].toNat : Int) = true) := hg
        rw [hg] at HG
        have h12 : k < 12 := by have := hg; unfold goesB at this; exact (of_decide_eq_true this).1
        clear hg
        go_wp2_with (go_at_call 118; refine HG.out.mono ?_; rintro e w' ⟨rfl, rfl⟩)
        go_round
        case rel =>
          refine ⟨k + 1, by omega, by omega, by go_num, fun j h hj => ?_⟩
          by_cases hjk : j = k
          · subst hjk; exact HG2.out
          · exact HA.out j h (by omega)
        case measure => simp [intOf]; omega
      | false =>
        have HE : Hid (isNameB s.data.toList = false) := by
          show _ = _
          cases hq : isNameB s.data.toList with
          | false => rfl
          | true =>
            have := (HI.out.1 hq).2 k hlt
            have e : goesB k (s[k].toNat : Int) = true := this
            rw [hg] at e; cases e
        rw [hg] at HG
        clear hg
        go_wp2_with (go_at_call 118; refine HG.out.mono ?_; rintro e w' ⟨rfl, rfl⟩)
        go_ret
        exact ⟨by rw [HE.out]; rfl, rfl⟩
    · have hki : ¬ (k : Int) < (s.size : Int) := by omega
      have HK : Hid (k = s.size) := by show _ = _; omega
      by_cases h0 : s.size = 0
      · obtain rfl : s = ⟨#[]⟩ := by
          apply ByteArray.ext
          exact Array.eq_empty_of_size_eq_zero h0
        have HE : Hid (isNameB (⟨#[]⟩ : ByteArray).data.toList = false) := by simp [Hid, isNameB, nameLen]
        clear h0
        go_wp2
        go_ret
        exact ⟨by rw [HE.out]; simp, rfl⟩
      · have HE : Hid (isNameB s.data.toList = true) := by
          refine HI.out.2 ⟨fun e => h0 ?_, fun j hj => ?_⟩
          · have : s.data.toList.length = 0 := by rw [e]; rfl
            exact this
          · have hj' : j < s.size := hj
            exact HA.out j hj' (by have := HK.out; omega)
        have hne : (s.toList == []) = false := by
          rw [Lib.toList_data]
          cases hq : s.data.toList with
          | nil => exact absurd (by have : s.data.toList.length = 0 := by rw [hq]; rfl
                                    exact this) h0
          | cons c l => rfl
        clear h0
        go_wp2
        go_ret
        exact ⟨by rw [HE.out]; simp, rfl⟩

/-- What the document's 'limited' answers. -/
def limB (kind : Int) (xs : List Int) : Bool := if kind = 3 then (xs.all inB && riseB xs) && decide (1 ≤ xs.length ∧ xs.length ≤ 4) else decide (xs = [])

theorem rise_step {xs : List Int} {k : Nat} (hk : k < xs.length) (h0 : 0 < k) (h : riseB xs = true) : xs[k - 1] < xs[k] := by
  have := ((riseB_iff xs).1 h).get _ (k - 1) k hk (by omega)
  simpa [ltI] using this
theorem rise_of {xs : List Int} (h : ∀ k (hk : k < xs.length), 0 < k → xs[k - 1] < xs[k]) : riseB xs = true := by
  rw [riseB_iff]
  unfold KSrt
  rw [List.pairwise_iff_getElem]
  intro i j hi hj hij
  have : ∀ d, (hd : i + d < xs.length) → 0 < d → xs[i] < xs[i + d] := by
    intro d
    induction d with
    | zero => intro _ h; omega
    | succ d ih =>
      intro hd _
      have h1 := h (i + (d + 1)) hd (by omega)
      have e : i + (d + 1) - 1 = i + d := by omega
      simp only [e] at h1
      by_cases d0 : d = 0
      · subst d0; simpa using h1
      · have h2 := ih (by omega) (by omega)
        omega
  have h2 := this (j - i) (by omega) (by omega)
  have e : i + (j - i) = j := by omega
  simp only [e] at h2
  simpa [ltI] using h2

set_option maxRecDepth 100000 in
set_option maxRecDepth 100000 in
set_option maxHeartbeats 1000000 in
theorem limited_any (kind : Int) (v : Value) (xs : List Int) (w : World) (hv : IntSl w v xs) (hm : xs.length ≤ 9223372036854775807) :
    Calls Tryz.prog 82 #[.int .i64 kind, v] w fun e w' => e = .returned (.bool (limB kind xs)) ∧ ∃ q, w' = w.drewN q := by
  obtain ⟨sa, ca, rfl, _, hxs⟩ := hv
  by_cases h3 : kind = 3
  · subst h3
    have HL : Hid (limB 3 xs = ((xs.all inB && riseB xs) && decide (1 ≤ xs.length ∧ xs.length ≤ 4))) := by simp [Hid, limB]
    go_enter Tryz.func82, Tryz.ntmps82
    go_wp2_with fail
    go_loopw [5] (fun i wr => ∃ k : Nat, i = .int .i64 (k : Int) ∧ k ≤ xs.length ∧ (∃ q, wr = w.drewN q) ∧ Hid (∀ j (h : j < xs.length), j < k → inB xs[j] = true ∧ (0 < j → xs[j - 1] < xs[j]))) (fun i _ => xs.length - (intOf i).toNat)
    case atStart => exact ⟨0, rfl, by omega, ⟨0, rfl⟩, fun j _ h => by omega⟩
    case round =>
      obtain ⟨k, rfl, hk, ⟨q, rfl⟩, HJ⟩ := hrel
      by_cases hlt : k < xs.length
      · rcases hxs with h | ⟨b1, o1, rfl, h1⟩
        · rw [h] at hlt; simp at hlt
        have c1 : w.cell? ⟨b1, o1 + k, none⟩ = some (.int .i64 xs[k]) := h1 k hlt
        have hlti : (k : Int) < (xs.length : Int) := by omega
        have HB : Hid (inB xs[k] = false → limB 3 xs = false) := by
          intro h
          rw [HL.out]
          have : xs.all inB = false := by
            rw [List.all_eq_false]
            exact ⟨xs[k], List.getElem_mem hlt, by rw [h]; simp⟩
          rw [this]; simp
        have HR : Hid (0 < k → ¬ xs[k - 1] < xs[k] → limB 3 xs = false) := by
          intro h0 h
          rw [HL.out]
          have : riseB xs = false := by
            cases hq : riseB xs with
            | false => rfl
            | true => exact absurd (rise_step hlt h0 hq) h
          rw [this]; simp
        have HS : Hid (inB xs[k] = true → (0 < k → xs[k - 1] < xs[k]) → ∀ j (h : j < xs.length), j < k + 1 → inB xs[j] = true ∧ (0 < j → xs[j - 1] < xs[j])) := by
          intro p1 p2 j h hj
          by_cases e : j = k
          · subst e; exact ⟨p1, p2⟩
          · exact HJ.out j h (by omega)
        have HC0 : Hid (0 < k → w.cell? ⟨b1, o1 + (k - 1), none⟩ = some (.int .i64 (xs[k - 1]'(by omega)))) := fun h0 => h1 (k - 1) (by omega)
        obtain ⟨x, hx⟩ : ∃ x, xs[k] = x := ⟨_, rfl⟩
        rw [hx] at c1 HB HR HS
        clear hx h1
        by_cases hx1 : x < -1000000000
        · have HE : Hid (limB 3 xs = false) := HB.out (by simp [inB]; omega)
          go_wp2_with fail
          go_quiet (fail)
          go_wp2
          go_ret
          exact ⟨by rw [HE.out]; rfl, drew2 _ _ _⟩
        · have hx1' : decide (x < -1000000000) = false := decide_eq_false hx1
          by_cases hx2 : x > 1000000000
          · have HE : Hid (limB 3 xs = false) := HB.out (by simp [inB]; omega)
            have hx2' : (1000000000 : Int) < x := hx2
            go_wp2_with fail
            go_quiet (fail)
            go_wp2
            go_ret
            exact ⟨by rw [HE.out]; rfl, drew2 _ _ _⟩
          · have hx2' : decide ((1000000000 : Int) < x) = false := decide_eq_false hx2
            have HIN : Hid (inB x = true) := by simp [Hid, inB]; omega
            by_cases h0 : 0 < k
            · have h0i : (0 : Int) < (k : Int) := by omega
              have c2 := HC0.out h0
              have htn : ((k : Int) - 1).toNat = k - 1 := by omega
              have hb1 : (k : Int) - 1 < (xs.length : Int) := by omega
              have hb2 : (0 : Int) ≤ (k : Int) - 1 := by omega
              have hw1 : IntKind.i64.wrap ((k : Int) - 1) = (k : Int) - 1 := by rw [IntKind.wrap_i64]; omega
              obtain ⟨y, hy⟩ : ∃ y, xs[k - 1]'(by omega) = y := ⟨_, rfl⟩
              rw [hy] at c2
              have HRY : Hid (¬ y < x → limB 3 xs = false) := fun h => HR.out h0 (by rw [hy]; exact h)
              have HSY : Hid (y < x → ∀ j (h : j < xs.length), j < k + 1 → inB xs[j] = true ∧ (0 < j → xs[j - 1] < xs[j])) := fun h => HS.out HIN.out (fun _ => by rw [hy]; exact h)
              clear hy HR HS HC0
              by_cases hxy : x ≤ y
              · have HE : Hid (limB 3 xs = false) := HRY.out (by omega)
                go_wp2_with fail
                go_quiet (fail)
                go_wp2
                go_ret
                exact ⟨by rw [HE.out]; rfl, drew2 _ _ _⟩
              · have hxy' : decide (x ≤ y) = false := decide_eq_false hxy
                have HNEW := HSY.out (by omega)
                have HN : Hid (∀ j (h : j < xs.length), j < k + 1 → inB xs[j] = true ∧ (0 < j → xs[j - 1] < xs[j])) := HNEW
                clear HNEW HSY HRY
                go_wp2_with fail
                go_quiet (fail)
                go_wp2
                go_roundw
                case rel => exact ⟨k + 1, by go_num, by omega, by first | exact ⟨_, rfl⟩ | exact drew2 _ _ _, HN.out⟩
                case measure => simp [intOf]; omega
            · have h0i : decide ((0 : Int) < (k : Int)) = false := decide_eq_false (by omega)
              have HNEW := HS.out HIN.out (fun h => absurd h h0)
              have HN : Hid (∀ j (h : j < xs.length), j < k + 1 → inB xs[j] = true ∧ (0 < j → xs[j - 1] < xs[j])) := HNEW
              clear HNEW HS HR HC0
              go_wp2_with fail
              go_quiet (fail)
              go_wp2
              go_roundw
              case rel => exact ⟨k + 1, by go_num, by omega, by first | exact ⟨_, rfl⟩ | exact drew2 _ _ _, HN.out⟩
              case measure => simp [intOf]; omega
      · have hki : ¬ (k : Int) < (xs.length : Int) := by omega
        have HE : Hid (limB 3 xs = decide (1 ≤ xs.length ∧ xs.length ≤ 4)) := by
          show _ = _
          rw [HL.out]
          have h1 : xs.all inB = true := by
            rw [List.all_eq_true]
            intro x hx
            obtain ⟨j, hj, rfl⟩ := List.getElem_of_mem hx
            exact (HJ.out j hj (by omega)).1
          have h2 : riseB xs = true := rise_of fun j hj h0 => (HJ.out j hj (by omega)).2 h0
          rw [h1, h2]; simp
        by_cases ha : 1 ≤ xs.length
        · have ha' : (1 : Int) ≤ (xs.length : Int) := by omega
          by_cases hb : xs.length ≤ 4
          · have hb' : (xs.length : Int) ≤ 4 := by omega
            have HD : Hid (decide (1 ≤ xs.length ∧ xs.length ≤ 4) = true) := decide_eq_true ⟨ha, hb⟩
            go_wp2
            go_ret
            exact ⟨by rw [HE.out, HD.out]; rfl, _, rfl⟩
          · have hb' : ¬ (xs.length : Int) ≤ 4 := by omega
            have HD : Hid (decide (1 ≤ xs.length ∧ xs.length ≤ 4) = false) := decide_eq_false (fun h => hb h.2)
            go_wp2
            go_ret
            exact ⟨by rw [HE.out, HD.out]; rfl, _, rfl⟩
        · have ha' : ¬ (1 : Int) ≤ (xs.length : Int) := by omega
          have HD : Hid (decide (1 ≤ xs.length ∧ xs.length ≤ 4) = false) := decide_eq_false (fun h => ha h.1)
          go_wp2
          go_ret
          exact ⟨by rw [HE.out, HD.out]; rfl, _, rfl⟩
  · have h3' : (kind != 3) = true := by simpa using h3
    have HE : Hid (limB kind xs = ((xs.length : Int) == 0)) := by
      show _ = _
      unfold limB
      rw [if_neg h3, Bool.eq_iff_iff]; simp
    clear h3
    go_enter Tryz.func82, Tryz.ntmps82
    go_wp2
    go_ret
    exact ⟨by rw [HE.out]; rfl, 0, rfl⟩

/-- Both say the same of the limits. -/
theorem fit_lim (kind : Int) (xs : List Int) : fitB kind xs = (decide (1 ≤ kind ∧ kind ≤ 3) && limB kind xs) := by
  by_cases h1 : kind = 1
  · subst h1; simp [fitB, limB]
  by_cases h2 : kind = 2
  · subst h2; simp [fitB, limB]
  by_cases h3 : kind = 3
  · subst h3
    rw [Bool.eq_iff_iff]
    simp only [fitB, limB]
    simp only [Bool.and_eq_true, decide_eq_true_eq]
    simp
    constructor
    · rintro ⟨⟨a, b⟩, c, d, e⟩
      refine ⟨⟨?_, c⟩, a, b⟩
      intro x hx
      obtain ⟨j, hj, rfl⟩ := List.getElem_of_mem hx
      have hs := (riseB_iff xs).1 c
      have h0 : xs.head?.getD 0 = xs[0]'(by omega) := by
        cases xs with
        | nil => simp at hj
        | cons x xs => rfl
      have hl : xs.getLast?.getD 0 = xs[xs.length - 1]'(by omega) := by
        rw [List.getLast?_eq_getElem?, List.getElem?_eq_getElem (by omega)]; rfl
      rw [h0] at d
      rw [hl] at e
      simp only [inB, decide_eq_true_eq] at d e ⊢
      constructor
      · by_cases hj0 : j = 0
        · subst hj0; omega
        · have := hs.get _ 0 j hj (by omega)
          simp [ltI] at this
          omega
      · by_cases hjl : j = xs.length - 1
        · subst hjl; omega
        · have := hs.get _ j (xs.length - 1) (by omega) (by omega)
          simp [ltI] at this
          omega
    · rintro ⟨⟨a, b⟩, c, d⟩
      refine ⟨⟨c, d⟩, b, ?_, ?_⟩
      · cases xs with
        | nil => simp at c
        | cons x xs => exact a x (by simp)
      · cases hq : xs.getLast? with
        | none => simp at hq; subst hq; simp at c
        | some x => exact a x (List.mem_of_getLast? hq)
  · have : ¬ (1 ≤ kind ∧ kind ≤ 3) := by omega
    simp [fitB, h1, h2, h3, this]

end Go.Proofs.YtcfdemhokbddiaaGreatDoor

/-
  The document's own board: its blocks; looking up a family, a series.
-/
namespace Go.Proofs.YtcfdemhokbddiaaGreatDoor
open Go.RowKit

structure RF where
  nm : List UInt8
  kind : Int
  lv : Value
  ls : List Int
structure RSer where
  fam : List UInt8
  text : List UInt8
  nv : Value
  ns : List Int
structure RB where
  b : Nat
  fv : Value
  fams : List RF
  sv : Value
  ser : List RSer
  rest : List Value
def rfCells (f : RF) : List Value := [.string (B f.nm), .int .i64 f.kind, f.lv]
def rsCells (x : RSer) : List Value := [.string (B x.fam), .string (B x.text), x.nv]
def RB.own (r : RB) : List Nat := r.b :: (r.fv.ownBlock.toList ++ (r.sv.ownBlock.toList ++ (r.fams.flatMap (fun f => f.lv.ownBlock.toList) ++ r.ser.flatMap (fun x => x.nv.ownBlock.toList))))
structure RB.At (w : World) (r : RB) : Prop where
  blk : w.heap[r.b]? = some (.cells (r.fv :: r.sv :: r.rest).toArray 149)
  frows : w.ownsRow 0 154 3 r.fv r.fams.length (r.fams.flatMap rfCells)
  srows : w.ownsRow 0 156 3 r.sv r.ser.length (r.ser.flatMap rsCells)
  lims : ∀ f ∈ r.fams, w.ownsRow 0 3 1 f.lv f.ls.length (ints f.ls)
  nums : ∀ x ∈ r.ser, w.ownsRow 0 3 1 x.nv x.ns.length (ints x.ns)
  nodup : r.own.Nodup
structure RB.Ok (m : Nat) (r : RB) : Prop where
  flen : r.fams.length ≤ 8
  slen : r.ser.length ≤ 24
  each : ∀ x ∈ r.ser, x.ns.length ≤ m
  flim : ∀ f ∈ r.fams, f.ls.length ≤ 4

theorem RB.At.lt {w : World} {r : RB} (h : RB.At w r) : ∀ b ∈ r.own, b < w.heap.size := by
  intro b hb
  simp only [RB.own, List.mem_cons, List.mem_append, List.mem_flatMap] at hb
  rcases hb with rfl | hb | hb | ⟨f, hf, hb⟩ | ⟨x, hx, hb⟩
  · exact lt_of h.blk
  · exact own_lt h.frows b hb
  · exact own_lt h.srows b hb
  · exact own_lt (h.lims f hf) b hb
  · exact own_lt (h.nums x hx) b hb
theorem RB.At.frame {w w' : World} {r : RB} (h : RB.At w r) (hk : ∀ b ∈ r.own, w'.heap[b]? = w.heap[b]?) : RB.At w' r := by
  have hm : ∀ b, (b = r.b ∨ b ∈ r.fv.ownBlock.toList ∨ b ∈ r.sv.ownBlock.toList ∨ (∃ f ∈ r.fams, b ∈ f.lv.ownBlock.toList) ∨ (∃ x ∈ r.ser, b ∈ x.nv.ownBlock.toList)) → w'.heap[b]? = w.heap[b]? := fun b hb => hk b (by
    simp only [RB.own, List.mem_cons, List.mem_append, List.mem_flatMap]; exact hb)
  exact ⟨(hm _ (Or.inl rfl)).trans h.blk, own_frame h.frows fun b hb => hm b (Or.inr (Or.inl hb)), own_frame h.srows fun b hb => hm b (Or.inr (Or.inr (Or.inl hb))),
    fun f hf => own_frame (h.lims f hf) fun b hb => hm b (Or.inr (Or.inr (Or.inr (Or.inl ⟨f, hf, hb⟩)))), fun x hx => own_frame (h.nums x hx) fun b hb => hm b (Or.inr (Or.inr (Or.inr (Or.inr ⟨x, hx, hb⟩)))), h.nodup⟩
theorem RB.At.gb {w w' : World} {r : RB} (h : RB.At w r) (hg : w.grownBy w' none) : RB.At w' r := h.frame fun b hb => hg.block b (h.lt b hb) (by simp)
theorem RB.At.kept {w w' : World} {r : RB} {L : List Nat} (h : RB.At w r) (hk : Kept L w w') (hd : ∀ b ∈ r.own, b ∉ L) : RB.At w' r :=
  h.frame fun b hb => hk.block b (h.lt b hb) (hd b hb)

theorem rb_cells {w : World} {r : RB} (h : RB.At w r) : w.cell? ⟨r.b, 0, none⟩ = some r.fv ∧ w.cell? ⟨r.b, 1, none⟩ = some r.sv ∧ w.frozen? ⟨r.b, 0, none⟩ = false ∧ w.frozen? ⟨r.b, 1, none⟩ = false := by
  have hb := h.blk
  refine ⟨?_, ?_, ?_, ?_⟩
  · unfold World.cell?; simp only [hb]; rfl
  · unfold World.cell?; simp only [hb]; rfl
  · unfold World.frozen?; simp only [hb]; simp
  · unfold World.frozen?; simp only [hb]; simp
theorem own_shape3 {w : World} {base : Nat} {e : TypeId} {v : Value} {n : Nat} {xs : List Value} (h : w.ownsRow base e 3 v n xs) :
    ∃ sa sc, v = .slice sa n sc ∧ n ≤ sc ∧ ((sa = none ∧ n = 0 ∧ sc = 0) ∨ ∃ g, sa = some ⟨g, 0, none⟩ ∧ g < w.heap.size) := by
  rcases h.2 with ⟨rfl, rfl⟩ | ⟨g, cap, cur, rfl, _, hg, hn, _⟩
  · exact ⟨none, 0, rfl, Nat.le_refl _, Or.inl ⟨rfl, rfl, rfl⟩⟩
  · exact ⟨_, _, rfl, hn, Or.inr ⟨g, rfl, lt_of hg⟩⟩
theorem flat3_get {α : Type} (f : α → List Value) (hf : ∀ x, (f x).length = 3) (xs : List α) (k : Nat) (hk : k < xs.length) (j : Nat) (hj : j < 3) : (xs.flatMap f)[k * 3 + j]? = (f xs[k])[j]? := by
  induction xs generalizing k with
  | nil => simp at hk
  | cons x xs ih =>
    rw [List.flatMap_cons]
    cases k with
    | zero => rw [List.getElem?_append_left (by rw [hf]; omega)]; simp
    | succ k =>
      rw [List.getElem?_append_right (by rw [hf]; omega), hf, show (k + 1) * 3 + j - 3 = k * 3 + j from by omega]
      exact ih k (by simpa using hk)
theorem row3_cell {α : Type} {f : α → List Value} {w : World} {base : Nat} {e : TypeId} {g n cap : Nat} {xs : List α} (h : w.ownsRow base e 3 (.slice (some ⟨g, 0, none⟩) n cap) n (xs.flatMap f)) (hf : ∀ x, (f x).length = 3) (k : Nat) (hk : k < xs.length) (j : Nat) (hj : j < 3) (v : Value) (hv : (f xs[k])[j]? = some v) :
    w.cell? ⟨g, k * 3 + j, none⟩ = some v := by
  have := h.cells (g := g) rfl (k * 3 + j) v (by rw [flat3_get f hf xs k hk j hj]; exact hv)
  rw [Addr.add_lit] at this
  simpa using this

/-- Where a key stands first; -1: nowhere. -/
def LookOut {α : Type} (L : List α) (key : α → List UInt8) (nm : List UInt8) (code : Int) : Prop :=
  ((∀ f ∈ L, key f ≠ nm) ∧ code = -1) ∨ (∃ A f B', L = A ++ f :: B' ∧ key f = nm ∧ (∀ g ∈ A, key g ≠ nm) ∧ code = (A.length : Int))

set_option maxRecDepth 100000 in
set_option maxHeartbeats 400000 in
theorem refFamily_any (r : RB) (nm : List UInt8) (w : World) (h : RB.At w r) (hl : r.fams.length ≤ 100) :
    Calls Tryz.prog 83 #[.pointer (some ⟨r.b, 0, none⟩), .string (B nm)] w fun e w' => w' = w ∧ ∃ code, e = .returned (.int .i64 code) ∧ LookOut r.fams RF.nm nm code := by
  obtain ⟨c0, c1, z0, z1⟩ := rb_cells h
  obtain ⟨sa, sc, hfv, _, hsa⟩ := own_shape3 h.frows
  have HC : Hid (∀ ga, sa = some ⟨ga, 0, none⟩ → ∀ k (hk : k < r.fams.length), w.cell? ⟨ga, k * 3 + 0, none⟩ = some (.string (B (r.fams[k]).nm))) := by
    rintro ga rfl k hk
    have hr := h.frows
    rw [hfv] at hr
    exact row3_cell hr (fun x => rfl) k hk 0 (by omega) _ rfl
  rw [hfv] at c0
  have en := toList_B nm
  clear h hfv
  go_enter Tryz.func83, Tryz.ntmps83
  go_wp2_with fail
  go_loop [5] (fun i => ∃ k : Nat, i = .int .i64 (k : Int) ∧ k ≤ r.fams.length ∧ Hid (∀ j (h : j < r.fams.length), j < k → (r.fams[j]).nm ≠ nm)) (fun i => 100 - (intOf i).toNat)
  case atStart => exact ⟨0, rfl, by omega, fun j _ h => by omega⟩
  case round =>
    obtain ⟨k, rfl, hk, HJ⟩ := hrel
    by_cases hlt : k < r.fams.length
    · obtain ⟨ga, rfl⟩ : ∃ ga, sa = some ⟨ga, 0, none⟩ := by
        rcases hsa with ⟨_, h0, _⟩ | ⟨ga, h1, _⟩
        · omega
        · exact ⟨ga, h1⟩
      have d1 := HC.out ga rfl k hlt
      rw [Nat.add_zero] at d1
      have hki : (k : Int) < (r.fams.length : Int) := by omega
      by_cases he : (r.fams[k]).nm = nm
      · have HE : Hid (r.fams = r.fams.take k ++ r.fams[k] :: r.fams.drop (k + 1) ∧ (r.fams[k]).nm = nm ∧ (∀ g ∈ r.fams.take k, g.nm ≠ nm) ∧ (r.fams.take k).length = k) := by
          refine ⟨split_at _ _ hlt, he, fun g hg => ?_, by simp; omega⟩
          obtain ⟨j, hj, rfl⟩ := List.getElem_of_mem hg
          rw [List.length_take] at hj
          rw [List.getElem_take]
          exact HJ.out j (by omega) (by omega)
        rw [he] at d1
        clear he
        go_wp2
        go_ret
        obtain ⟨q1, q2, q3, q4⟩ := HE.out
        exact ⟨rfl, _, rfl, Or.inr ⟨_, _, _, q1, q2, q3, by rw [q4]⟩⟩
      · have HE : Hid ((r.fams[k]).nm ≠ nm) := he
        have ek := toList_B (r.fams[k]).nm
        have hb : ((r.fams[k]).nm == nm) = false := by simpa using he
        clear he
        obtain ⟨x, hx⟩ : ∃ x, (r.fams[k]).nm = x := ⟨_, rfl⟩
        rw [hx] at d1 ek hb
        clear hx
        go_wp2
        go_round
        case rel =>
          refine ⟨k + 1, by go_num, by omega, fun j h hj => ?_⟩
          by_cases e : j = k
          · subst e; exact HE.out
          · exact HJ.out j h (by omega)
        case measure => simp [intOf]; omega
    · have hki : ¬ (k : Int) < (r.fams.length : Int) := by omega
      have HE : Hid (∀ f ∈ r.fams, f.nm ≠ nm) := by
        intro f hf
        obtain ⟨j, hj, rfl⟩ := List.getElem_of_mem hf
        exact HJ.out j hj (by omega)
      go_wp2
      go_ret
      exact ⟨rfl, _, rfl, Or.inl ⟨HE.out, rfl⟩⟩

set_option maxRecDepth 100000 in
set_option maxHeartbeats 400000 in
theorem refSeries_any (r : RB) (nm : List UInt8) (w : World) (h : RB.At w r) (hl : r.ser.length ≤ 100) :
    Calls Tryz.prog 85 #[.pointer (some ⟨r.b, 0, none⟩), .string (B nm)] w fun e w' => w' = w ∧ ∃ code, e = .returned (.int .i64 code) ∧ LookOut r.ser RSer.text nm code := by
  obtain ⟨c0, c1, z0, z1⟩ := rb_cells h
  obtain ⟨sa, sc, hfv, _, hsa⟩ := own_shape3 h.srows
  have HC : Hid (∀ ga, sa = some ⟨ga, 0, none⟩ → ∀ k (hk : k < r.ser.length), w.cell? ⟨ga, k * 3 + 1, none⟩ = some (.string (B (r.ser[k]).text))) := by
    rintro ga rfl k hk
    have hr := h.srows
    rw [hfv] at hr
    exact row3_cell hr (fun x => rfl) k hk 1 (by omega) _ rfl
  rw [hfv] at c1
  have en := toList_B nm
  clear h hfv
  go_enter Tryz.func85, Tryz.ntmps85
  go_wp2_with fail
  go_loop [5] (fun i => ∃ k : Nat, i = .int .i64 (k : Int) ∧ k ≤ r.ser.length ∧ Hid (∀ j (h : j < r.ser.length), j < k → (r.ser[j]).text ≠ nm)) (fun i => 100 - (intOf i).toNat)
  case atStart => exact ⟨0, rfl, by omega, fun j _ h => by omega⟩
  case round =>
    obtain ⟨k, rfl, hk, HJ⟩ := hrel
    by_cases hlt : k < r.ser.length
    · obtain ⟨ga, rfl⟩ : ∃ ga, sa = some ⟨ga, 0, none⟩ := by
        rcases hsa with ⟨_, h0, _⟩ | ⟨ga, h1, _⟩
        · omega
        · exact ⟨ga, h1⟩
      have d1 := HC.out ga rfl k hlt
      have hki : (k : Int) < (r.ser.length : Int) := by omega
      by_cases he : (r.ser[k]).text = nm
      · have HE : Hid (r.ser = r.ser.take k ++ r.ser[k] :: r.ser.drop (k + 1) ∧ (r.ser[k]).text = nm ∧ (∀ g ∈ r.ser.take k, g.text ≠ nm) ∧ (r.ser.take k).length = k) := by
          refine ⟨split_at _ _ hlt, he, fun g hg => ?_, by simp; omega⟩
          obtain ⟨j, hj, rfl⟩ := List.getElem_of_mem hg
          rw [List.length_take] at hj
          rw [List.getElem_take]
          exact HJ.out j (by omega) (by omega)
        rw [he] at d1
        clear he
        go_wp2
        go_ret
        obtain ⟨q1, q2, q3, q4⟩ := HE.out
        exact ⟨rfl, _, rfl, Or.inr ⟨_, _, _, q1, q2, q3, by rw [q4]⟩⟩
      · have HE : Hid ((r.ser[k]).text ≠ nm) := he
        have ek := toList_B (r.ser[k]).text
        have hb : ((r.ser[k]).text == nm) = false := by simpa using he
        clear he
        obtain ⟨x, hx⟩ : ∃ x, (r.ser[k]).text = x := ⟨_, rfl⟩
        rw [hx] at d1 ek hb
        clear hx
        go_wp2
        go_round
        case rel =>
          refine ⟨k + 1, by go_num, by omega, fun j h hj => ?_⟩
          by_cases e : j = k
          · subst e; exact HE.out
          · exact HJ.out j h (by omega)
        case measure => simp [intOf]; omega
    · have hki : ¬ (k : Int) < (r.ser.length : Int) := by omega
      have HE : Hid (∀ f ∈ r.ser, f.text ≠ nm) := by
        intro f hf
        obtain ⟨j, hj, rfl⟩ := List.getElem_of_mem hf
        exact HJ.out j hj (by omega)
      go_wp2
      go_ret
      exact ⟨rfl, _, rfl, Or.inl ⟨HE.out, rfl⟩⟩

end Go.Proofs.YtcfdemhokbddiaaGreatDoor

/-
  append onto a row of one's own: it stays in its block, or goes to a new one. The document's Family.
-/
namespace Go.Proofs.YtcfdemhokbddiaaGreatDoor
open Go.RowKit

theorem run_append_foot {P : Program} (w : World) (t ty e : TypeId) (i : TypeInfo) (z : Value) (size bytes : Nat) (ht : P.underlying t = some (.slice e)) (hi : P.info? e = some i) (hz : i.zero = some z)
    (hsize : i.size = size) (hby : i.bytes = bytes) (hzs : z.cells.size = size) (hsz : 0 < size)
    (v : Value) (n : Nat) (xs : List Value) (hown : w.ownsRow 0 e size v n xs)
    (a : Addr) (m c : Nat) (hm : 0 < m) (news : List Value) (hl : news.length = m * size) (hnews : ∀ j u, news[j]? = some u → w.cell? (a.add j) = some u) (h1 : ∀ u ∈ news, u.oneCell' = true)
    (h63 : n + m ≤ maxLen) (hbytes : (n + m) * bytes ≤ 140737488355328) :
    ∃ v' w', (Builtin.append_ #[t, t] ty #[v, .slice (some a) m c]).run P w = .ok v' w' ∧ w'.ownsRow 0 e size v' (n + m) (xs ++ news) ∧ w.grownBy w' v.ownBlock ∧ (v'.ownBlock = v.ownBlock ∨ v'.ownBlock = some w.heap.size) := by
  obtain ⟨v', w', hr, h2, h3, _⟩ := run_append_own (P := P) w 0 t ty e i z size bytes ht hi hz hsize hby hzs hsz v n xs hown a m c news hl hnews h1 h63 hbytes (Nat.zero_le _)
  refine ⟨v', w', hr, h2, h3, ?_⟩
  subst hsize
  subst hby
  have hmx : ((n + m : Nat) : Int) ≤ 9223372036854775807 := by unfold maxLen at h63; omega
  rcases hown.2 with ⟨rfl, rfl⟩ | ⟨g, cap, cur, rfl, hbg, hg, hnc, hcm, hcs, htake⟩
  · have hr2 := run_append_nil (P := P) w t ty e i z ht hi hz a m c news hl hnews hm (by omega) (by have hb := hbytes; simp only [Nat.zero_add] at hb; rw [Nat.mul_comm] at hb ⊢; omega)
    have := hr.symm.trans hr2
    injection this with e1 _
    right; rw [e1]; rfl
  · by_cases hroom : n + m ≤ cap
    · have hfit : n * i.size + news.length ≤ cur.size := by rw [hl, hcs, ← Nat.add_mul]; exact Nat.mul_le_mul_right _ hroom
      have hr2 := run_append_room (P := P) w t ty e i ht hi g n cap cur hg a m c news hl hnews h1 hroom hfit
      have := hr.symm.trans hr2
      injection this with e1 _
      left; rw [e1]; rfl
    · have holds : ∀ j u, xs[j]? = some u → w.cell? ((⟨g, 0, none⟩ : Addr).add j) = some u := hown.cells (g := g) rfl
      have hr2 := run_append_grow (P := P) w t ty e i z ht hi hz ⟨g, 0, none⟩ n cap xs hown.1 holds a m c news hl hnews (by omega) hmx (growslice_fits (by omega) hbytes)
      have := hr.symm.trans hr2
      injection this with e1 _
      right; rw [e1]; rfl

theorem wpList_append_foot {P : Program} (w : World) {ops : Array Oper} {rest : List Oper} {o : Oper} {a : Act} {Q : Exit → Act → World → Prop} (hgd : o.guard = none) (s x : Operand) (t : TypeId)
    (ho : o.op = .call { callee := .builtin .append, args := #[s, x], argTypes := #[t, t] })
    (e : TypeId) (i : TypeInfo) (z : Value) (size bytes : Nat) (ht : P.underlying t = some (.slice e)) (hi : P.info? e = some i) (hz : i.zero = some z)
    (hsize : i.size = size) (hby : i.bytes = bytes) (hzs : z.cells.size = size) (hsz : 0 < size)
    (v : Value) (n : Nat) (xs : List Value) (hs : a.eval s = v) (hown : w.ownsRow 0 e size v n xs)
    (ad : Addr) (m c : Nat) (hm : 0 < m) (news : List Value) (hx : a.eval x = .slice (some ad) m c) (hl : news.length = m * size) (hnews : ∀ j u, news[j]? = some u → w.cell? (ad.add j) = some u) (h1 : ∀ u ∈ news, u.oneCell' = true)
    (h63 : n + m ≤ maxLen) (hbytes : (n + m) * bytes ≤ 140737488355328)
    (h : ∀ v' w', w'.ownsRow 0 e size v' (n + m) (xs ++ news) → w.grownBy w' v.ownBlock → (v'.ownBlock = v.ownBlock ∨ v'.ownBlock = some w.heap.size) → wpList P ops Q rest (a.put o.dst v') w') : wpList P ops Q (o :: rest) a w := by
  obtain ⟨v', w', hr, h2, h3, h4⟩ := run_append_foot (P := P) w t o.type e i z size bytes ht hi hz hsize hby hzs hsz v n xs hown ad m c hm news hl hnews h1 h63 hbytes
  refine wpList_plain hgd fun K hK => ?_
  unfold Oper.wp
  simp [execOp, ho, resolve, invoke, builtin, hs, hx, hr, Result.andThen]
  exact hK _ _ (h v' w' h2 h3 h4)

theorem step_append_foot {P : Program} {ops : Array Oper} {o : Oper} {a : Act} {w : World} {K : Act → World → Prop} {Q : Exit → Act → World → Prop} {E : Prop} (hgd : o.guard = none) (s x : Operand) (t : TypeId)
    (ho : o.op = .call { callee := .builtin .append, args := #[s, x], argTypes := #[t, t] })
    (e : TypeId) (i : TypeInfo) (z : Value) (size bytes : Nat) (ht : P.underlying t = some (.slice e)) (hi : P.info? e = some i) (hz : i.zero = some z)
    (hsize : i.size = size) (hby : i.bytes = bytes) (hzs : z.cells.size = size) (hsz : 0 < size)
    (v : Value) (n : Nat) (xs : List Value) (hs : a.eval s = v) (hown : w.ownsRow 0 e size v n xs)
    (ad : Addr) (m c : Nat) (hm : 0 < m) (news : List Value) (hx : a.eval x = .slice (some ad) m c) (hl : news.length = m * size) (hnews : ∀ j u, news[j]? = some u → w.cell? (ad.add j) = some u) (h1 : ∀ u ∈ news, u.oneCell' = true)
    (h63 : n + m ≤ maxLen) (hbytes : (n + m) * bytes ≤ 140737488355328)
    (h : ∀ v' w', w'.ownsRow 0 e size v' (n + m) (xs ++ news) → w.grownBy w' v.ownBlock → (v'.ownBlock = v.ownBlock ∨ v'.ownBlock = some w.heap.size) → K (a.put o.dst v') w') :
    if Region.wanted o (yielded ops a.tmps) = true then Oper.wp P o a w K Q else E := by
  obtain ⟨v', w', hr, h2, h3, h4⟩ := run_append_foot (P := P) w t o.type e i z size bytes ht hi hz hsize hby hzs hsz v n xs hown ad m c hm news hl hnews h1 h63 hbytes
  rw [if_pos (by simp [Region.wanted, hgd])]
  unfold Oper.wp
  simp [execOp, ho, resolve, invoke, builtin, hs, hx, hr, Result.andThen]
  exact h v' w' h2 h3 h4

theorem nodup_swap {P G S G' : List Nat} {n : Nat} (h : (P ++ (G ++ S)).Nodup) (hg : G'.Nodup) (hs : ∀ b ∈ G', b ∈ G ∨ n ≤ b) (hl : ∀ b ∈ P ++ S, b < n) : (P ++ (G' ++ S)).Nodup := by
  simp only [List.nodup_append, List.mem_append] at h hl ⊢
  obtain ⟨h1, ⟨h2, h3, h4⟩, h5⟩ := h
  refine ⟨h1, ⟨hg, h3, fun a ha b hb e => ?_⟩, fun a ha b hb e => ?_⟩
  · subst e
    rcases hs a ha with h | h
    · exact h4 a h a hb rfl
    · have := hl a (Or.inr hb); omega
  · subst e
    rcases hb with hb | hb
    · rcases hs a hb with h | h
      · exact h5 a ha a (Or.inl h) rfl
      · have := hl a (Or.inl ha); omega
    · exact h5 a ha a (Or.inr hb) rfl

/-- What is told of the document's board. -/
structure RV where
  fams : List (List UInt8 × Int × List Int)
  ser : List (List UInt8 × List UInt8 × List Int)
def RB.view (r : RB) : RV := ⟨r.fams.map fun f => (f.nm, f.kind, f.ls), r.ser.map fun x => (x.fam, x.text, x.ns)⟩

structure ROut (m : Nat) (r r' : RB) (w w' : World) : Prop where
  at_ : RB.At w' r'
  ok : RB.Ok m r'
  b : r'.b = r.b
  rest : r'.rest = r.rest
  kept : Kept r.own w w'
  sub : ∀ x ∈ r'.own, x ∈ r.own ∨ w.heap.size ≤ x
theorem ROut.same {m : Nat} {r : RB} {w w' : World} (h : RB.At w r) (ho : RB.Ok m r) (hg : w.grownBy w' none) : ROut m r r w w' :=
  ⟨h.gb hg, ho, rfl, rfl, Kept.of_none hg _, fun _ hx => Or.inl hx⟩
theorem ROut.from {m : Nat} {r r' : RB} {w w1 w' : World} (hg : w.grownBy w1 none) (h : ROut m r r' w1 w') : ROut m r r' w w' :=
  ⟨h.at_, h.ok, h.b, h.rest, (Kept.of_none hg _).trans h.kept, fun x hx => by
    rcases h.sub x hx with h1 | h1
    · exact Or.inl h1
    · exact Or.inr (Nat.le_trans hg.size h1)⟩

def RFamOut (R : RV) (nm : List UInt8) (kind : Int) (xs : List Int) (code : Int) (R' : RV) : Prop :=
  (isNameB nm = false ∧ code = 2 ∧ R' = R) ∨
  (isNameB nm = true ∧ fitB kind xs = false ∧ code = 4 ∧ R' = R) ∨
  (isNameB nm = true ∧ fitB kind xs = true ∧ (∃ f ∈ R.fams, f.1 = nm ∧ code = remP kind f.2.1 xs f.2.2) ∧ R' = R) ∨
  (isNameB nm = true ∧ fitB kind xs = true ∧ (∀ f ∈ R.fams, f.1 ≠ nm) ∧ R.fams.length = 8 ∧ code = 7 ∧ R' = R) ∨
  (isNameB nm = true ∧ fitB kind xs = true ∧ (∀ f ∈ R.fams, f.1 ≠ nm) ∧ R.fams.length < 8 ∧ code = 0 ∧ R' = ⟨R.fams ++ [(nm, kind, xs)], R.ser⟩)

end Go.Proofs.YtcfdemhokbddiaaGreatDoor
