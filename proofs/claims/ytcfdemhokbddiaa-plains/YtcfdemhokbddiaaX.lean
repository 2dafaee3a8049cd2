/-
  The document's Parse where a label stands twice.
-/
import Derived.Test.YtcfdemhokbddiaaW
namespace Go.Proofs.Ytcfdemhokbddiaa
open Go.RowKit

set_option maxRecDepth 100000 in
set_option maxHeartbeats 2000000 in
theorem parse_dup (s : ByteArray) (st : St) (i0 k0 : Nat) (w : World) (h : ¬ 100 < s.size) (hr : runR st0 0 s.data.toList = .ok st) (hgood : badEnd st = false) (hD : Dup st.labs i0 k0) (hl3 : st.labs.length ≤ 100) :
    Calls Try.prog 9 #[.string s] w fun e w' => e = .returned (outV [] [] 3 ((st.labs[i0]'hD.lti).at_)) ∧ Below w.heap.size w w' := by
  have h' : ¬ (100 : Int) < (s.size : Int) := by omega
  have HR : Hid (runR st0 0 s.data.toList = .ok st) := hr
  have HG : Hid (badEnd st = false) := hgood
  have HDp : Hid (Dup st.labs i0 k0) := hD
  have hlti := hD.lti
  have hltk := hD.ltk
  obtain ⟨AT, hAT⟩ : ∃ AT, AT = (st.labs[i0]'hD.lti).at_ := ⟨_, rfl⟩
  rw [← hAT]
  have HAT : Hid (AT = (st.labs[i0]'hD.lti).at_) := hAT
  clear hr hgood hAT
  go_enter Try.func9, Try.ntmps9
  go_wp2
  go_loopw [7] (fun i wr => ∃ (k : Nat) (sx : St), i = .int .i64 (k : Int) ∧ k ≤ s.size ∧ TextAt w.heap.size sx wr ∧ Inv k sx ∧ Below w.heap.size w wr ∧ Hid (runR st0 0 s.data.toList = runR sx k (s.data.toList.drop k)))
    (fun i _ => 100 - (intOf i).toNat)
  case atStart => exact ⟨0, st0, rfl, Nat.zero_le _, text0 w, inv0, (Below.refl _ _).alloc (Nat.le_refl _) _, rfl⟩
  case round =>
    obtain ⟨k, sx, rfl, hk, hT, hI, hB, HK⟩ := hrel
    by_cases hlt : k < s.size
    · have HD : Hid (s.data.toList.drop k = s[k] :: s.data.toList.drop (k + 1)) := drop_cons s k hlt
      go_wp2_with fail
      refine (step_any k w.heap.size sx s[k] k _ hT hI (by omega) (by omega)).mono ?_
      rintro e w1 ⟨rfl, t1, b1⟩
      cases hs : stepR sx s[k] k with
      | none =>
        exfalso
        have hrun : runR st0 0 s.data.toList = .error k := by
          rw [HK.out, HD.out]; unfold runR; rw [hs]
        rw [HR.out] at hrun; cases hrun
      | some st' =>
        have HS : Hid (stepR sx s[k] k = some st') := hs
        have hT' := t1 st' hs
        have hI' := step_inv k k sx st' s[k] hI hs
        clear hs t1
        simp only [Option.isSome_some]
        go_wp2
        go_roundw
        case rel =>
          refine ⟨k + 1, st', by go_num, by omega, hT', hI', hB.trans b1, ?_⟩
          show _ = _
          rw [HK.out, HD.out]
          conv => lhs; unfold runR
          rw [HS.out]
        case measure => simp [intOf]; omega
    · have hend : sx = st := by
        have h1 : runR st0 0 s.data.toList = .ok sx := by
          rw [HK.out, List.drop_of_length_le (by show s.size ≤ k; omega)]; rfl
        rw [HR.out] at h1; cases h1; rfl
      subst hend
      obtain ⟨a, cp, hb, c0, c1, c3, _⟩ := hT.cells
      have c2 : wr.cell? ⟨w.heap.size, 2, none⟩ = some (.string (B sx.name)) := by simp [World.cell?, hb]
      have hcase : ((sx.next : Int) != 6) = false ∨ (((sx.next : Int) != 6) = true ∧ ((sx.next : Int) != 0) = false ∧ (B sx.name).toList.isEmpty = false) := by
        have := HG.out
        rw [toList_B]
        by_cases h6 : sx.next = 6
        · left; simp; omega
        · right
          have h6' : (sx.next != 6) = true := by simpa using h6
          simp only [badEnd, h6', Bool.true_and, Bool.or_eq_false_iff] at this
          obtain ⟨u1, u2⟩ := this
          exact ⟨by simp; omega, by simp at u1; simp; omega, u2⟩
      clear hb hI HK
      rcases hcase with n6 | ⟨n6, n0, hemp⟩
      all_goals
        go_wp2
        clear c0 c1 c2 c3
        go_loopw [9] (fun i wx => ∃ (m : Nat), i = .int .i64 (m : Int) ∧ m ≤ i0 ∧ TextAt w.heap.size sx wx ∧ Below w.heap.size w wx) (fun i _ => 100 - (intOf i).toNat)
        case atStart => exact ⟨0, rfl, Nat.zero_le _, hT, hB⟩
        case round =>
          clear hT hB
          obtain ⟨m, rfl, hm, hT, hB⟩ := hrel
          obtain ⟨ad, cp2, e3, hcl⟩ := hT.lab
          have hmi : (m : Int) < (sx.labs.length : Int) := by omega
          clear hcl
          go_wp2
          go_loopw [10] (fun k wy => ∃ (q : Nat), k = .int .i64 (q : Int) ∧ q ≤ m ∧ (m = i0 → q ≤ k0) ∧ TextAt w.heap.size sx wy ∧ Below w.heap.size w wy) (fun k _ => 100 - (intOf k).toNat)
          case atStart => exact ⟨0, rfl, Nat.zero_le _, fun _ => Nat.zero_le _, hT, hB⟩
          case round =>
            clear hT hB e3
            obtain ⟨q, rfl, hq, hqk, hT, hB⟩ := hrel
            have HQK : Hid (m = i0 → q ≤ k0) := hqk
            clear hqk
            by_cases hqm : q < m
            · obtain ⟨ad, cp2, e3, hcl⟩ := hT.lab
              obtain ⟨g, rfl, n1, _, _⟩ := hcl q (by omega)
              obtain ⟨g', hg', n2, _, a2⟩ := hcl m (by omega)
              simp only [Option.some.injEq, Addr.mk.injEq, and_true] at hg'
              subst hg'
              have hqi : (q : Int) < (sx.labs.length : Int) := by omega
              clear hcl
              by_cases hhit : m = i0 ∧ q = k0
              · obtain ⟨rfl, rfl⟩ := hhit
                have heq : ((B (sx.labs[q]).name).toList == (B (sx.labs[m]).name).toList) = true := by
                  rw [toList_B, toList_B]; have := HDp.out.eq; simpa using this
                have HA2 : Hid (AT = (sx.labs[m]).at_) := HAT.out
                clear HAT
                go_wp2_with fail
                go_quiet (fail)
                go_wp2
                go_quiet (fail)
                go_wp2
                refine bodyPost_ret (v := outV [] [] 3 AT) (by rw [HA2.out]; simp [results, Try.results9, go_sem, outV, B]) rfl ⟨rfl, below_drewN (below_drewN hB _) _⟩
              · have hne : ((B (sx.labs[q]).name).toList == (B (sx.labs[m]).name).toList) = false := by
                  rw [toList_B, toList_B]
                  simp only [beq_eq_false_iff_ne]
                  by_cases hmi0 : m = i0
                  · subst hmi0
                    have h1 := HQK.out rfl
                    exact HDp.out.least q (by omega)
                  · exact HDp.out.first m (by omega) q hqm
                have HH : Hid (¬ (m = i0 ∧ q = k0)) := hhit
                clear hhit
                go_wp2_with fail
                go_quiet (fail)
                go_wp2
                go_roundw
                case rel => exact ⟨q + 1, by go_num, by omega, fun e => by have := HQK.out e; have := HH.out; omega, hT, below_drewN hB _⟩
                case measure => simp [intOf]; omega
            · have hmi0 : m < i0 := by
                rcases Nat.lt_or_ge m i0 with h | h
                · exact h
                · have : m = i0 := by omega
                  have := HQK.out this; omega
              go_wp2
              go_roundw
              case rel => exact ⟨m + 1, by go_num, by omega, hT, hB⟩
              case measure => simp [intOf]; omega

end Go.Proofs.Ytcfdemhokbddiaa
