/-
  The document's Parse where it refuses: too long, a byte that cannot stand, an end too early.
-/
import Derived.Test.YtcfdemhokbddiaaGreatDoorQT

namespace Go.Proofs.YtcfdemhokbddiaaGreatDoor
open Go.RowKit

def txt0 : Obj := .cells #[.int .i64 0, .int .i64 0, .string ⟨#[]⟩, .slice none 0 0] 199
theorem text0 (w : World) : TextAt w.heap.size st0 (w.alloc txt0) :=
  ⟨none, 0, alloc_new _ _ _ rfl, World.ownsRow_nil _ _ _ _⟩
theorem inv0 : Inv 0 st0 := ⟨by simp [st0], by simp [st0], by simp [st0], by simp [st0], by simp [st0], by simp [st0]⟩

/-- The four results of Parse. -/
def outV (a c : List UInt8) (e p : Nat) : Value := .tuple #[.string (B a), .string (B c), .int .i64 (e : Int), .int .i64 (p : Int)]

set_option maxRecDepth 100000 in
set_option maxHeartbeats 400000 in
theorem parse_long (s : ByteArray) (w : World) (h : 100 < s.size) :
    Calls Tryz.prog 80 #[.string s] w fun e w' => e = .returned (outV [] [] 1 0) ∧ Below w.heap.size w w' := by
  have h' : (100 : Int) < (s.size : Int) := by omega
  go_enter Tryz.func80, Tryz.ntmps80
  go_wp2
  exact bodyPost_ret (v := outV [] [] 1 0) (by simp [results, Tryz.results80, go_sem, outV, B]) rfl ⟨rfl, Below.refl _ _⟩

theorem badEnd_zero {st : St} (h : badEnd st = true) : st.next ≠ 0 ∨ st.name = [] := by
  simp [badEnd] at h
  rcases h.2 with h | h
  · exact Or.inl h
  · exact Or.inr h

set_option maxRecDepth 100000 in
set_option maxHeartbeats 1000000 in
theorem parse_bad (s : ByteArray) (p : Nat) (w : World) (h : ¬ 100 < s.size) (hr : runR st0 0 s.data.toList = .error p ∨ ∃ st, runR st0 0 s.data.toList = .ok st ∧ badEnd st = true ∧ p = s.size) :
    Calls Tryz.prog 80 #[.string s] w fun e w' => e = .returned (outV [] [] 2 p) ∧ Below w.heap.size w w' := by
  have h' : ¬ (100 : Int) < (s.size : Int) := by omega
  have HR : Hid (runR st0 0 s.data.toList = .error p ∨ ∃ st, runR st0 0 s.data.toList = .ok st ∧ badEnd st = true ∧ p = s.size) := hr
  clear hr
  go_enter Tryz.func80, Tryz.ntmps80
  go_wp2
  go_loopw [7] (fun i wr => ∃ (k : Nat) (st : St), i = .int .i64 (k : Int) ∧ k ≤ s.size ∧ TextAt w.heap.size st wr ∧ Inv k st ∧ Below w.heap.size w wr ∧ Hid (runR st0 0 s.data.toList = runR st k (s.data.toList.drop k)))
    (fun i _ => 100 - (intOf i).toNat)
  case atStart => exact ⟨0, st0, rfl, Nat.zero_le _, text0 w, inv0, (Below.refl _ _).alloc (Nat.le_refl _) _, rfl⟩
  case round =>
    obtain ⟨k, st, rfl, hk, hT, hI, hB, HK⟩ := hrel
    by_cases hlt : k < s.size
    · have HD : Hid (s.data.toList.drop k = s[k] :: s.data.toList.drop (k + 1)) := drop_cons s k hlt
      go_wp2_with fail
      refine (step_any k w.heap.size st s[k] k _ hT hI (by omega) (by omega)).mono ?_
      rintro e w1 ⟨rfl, t1, b1⟩
      cases hs : stepR st s[k] k with
      | none =>
        have HS : Hid (stepR st s[k] k = none) := hs
        have hrun : runR st0 0 s.data.toList = .error k := by
          rw [HK.out, HD.out]; unfold runR; rw [hs]
        have hp : p = k := by
          rcases HR.out with h | ⟨st', h, _⟩
          · rw [hrun] at h; cases h; rfl
          · rw [hrun] at h; cases h
        have HP : Hid (p = k) := hp
        clear hs hrun hp t1
        simp only [Option.isSome_none]
        go_wp2
        refine bodyPost_ret (v := outV [] [] 2 k) (by simp [results, Tryz.results80, go_sem, outV, B]) rfl ⟨by rw [HP.out], hB.trans b1⟩
      | some st' =>
        have HS : Hid (stepR st s[k] k = some st') := hs
        have hT' := t1 st' hs
        have hI' := step_inv k k st st' s[k] hI hs
        clear hs t1
        simp only [Option.isSome_some]
        go_wp2
        go_roundw
        case rel =>
          refine ⟨k + 1, st', by go_num, by omega, hT', hI', hB.trans b1, ?_⟩
          show _ = _
          rw [HK.out, HD.out]
          conv => lhs; unfold runR
          rw [HS.out]
        case measure => simp [intOf]; omega
    · have hend : runR st0 0 s.data.toList = .ok st := by
        rw [HK.out, List.drop_of_length_le (by show s.size ≤ k; omega)]; rfl
      have hbad : badEnd st = true ∧ p = s.size := by
        rcases HR.out with h | ⟨st', h, h2⟩
        · rw [hend] at h; cases h
        · rw [hend] at h; cases h; exact h2
      have HBad : Hid (badEnd st = true ∧ p = s.size) := hbad
      obtain ⟨a, cp, hb, c0, c1, c3, _⟩ := hT.cells
      have c2 : wr.cell? ⟨w.heap.size, 2, none⟩ = some (.string (B st.name)) := by simp [World.cell?, hb]
      have n6 : ((st.next : Int) != 6) = true := by
        have := hbad.1; simp [badEnd] at this; simp; omega
      clear hend hb
      by_cases h0 : st.next = 0
      · have n0 : ((st.next : Int) != 0) = false := by simp; omega
        have hnm : st.name = [] := by
          rcases badEnd_zero hbad.1 with h | h
          · exact absurd h0 h
          · exact h
        have hemp : (B st.name).toList.isEmpty = true := by rw [hnm, toList_B]; rfl
        clear hbad hnm h0
        go_wp2
        refine bodyPost_ret (v := outV [] [] 2 s.size) (by simp [results, Tryz.results80, go_sem, outV, B]) rfl ⟨by rw [HBad.out.2], hB⟩
      · have n0 : ((st.next : Int) != 0) = true := by simp; omega
        clear hbad h0
        go_wp2
        refine bodyPost_ret (v := outV [] [] 2 s.size) (by simp [results, Tryz.results80, go_sem, outV, B]) rfl ⟨by rw [HBad.out.2], hB⟩

/-- The cells of the labels, behind any number of draws. -/
theorem TextAt.lab {b : Nat} {st : St} {w : World} (h : TextAt b st w) : ∃ a cp, w.cell? ⟨b, 3, none⟩ = some (.slice a st.labs.length cp) ∧
    (∀ k (hk : k < st.labs.length), ∃ g, a = some ⟨g, 0, none⟩ ∧ w.cell? ⟨g, k * 3, none⟩ = some (.string (B (st.labs[k]).name)) ∧ w.cell? ⟨g, k * 3 + 1, none⟩ = some (.string (B (st.labs[k]).val)) ∧ w.cell? ⟨g, k * 3 + 2, none⟩ = some (.int .i64 ((st.labs[k]).at_ : Int))) := by
  obtain ⟨a, cp, hb, own⟩ := h
  refine ⟨a, cp, by simp [World.cell?, hb], fun k hk => ?_⟩
  rcases own.2 with ⟨_, h0⟩ | ⟨g, cap, cur, h1, _⟩
  · omega
  · simp at h1
    obtain ⟨rfl, rfl⟩ := h1
    obtain ⟨e1, e2, e3⟩ := labCells_get st.labs k hk
    exact ⟨g, rfl, by rw [own.cellAt _ (by omega), e1], by rw [own.cellAt _ (by omega), e2], by rw [own.cellAt _ (by omega), e3]⟩
theorem TextAt.drewN {b : Nat} {st : St} {w : World} (h : TextAt b st w) (q : Nat) : TextAt b st (w.drewN q) := h
theorem below_drewN {B : Nat} {a w : World} (h : Below B a w) (q : Nat) : Below B a (w.drewN q) := ⟨h.os, h.tape, h.output, h.size, h.block⟩

/-- Where the first name stands that stood already: i, and k the first place at which it stood. -/
structure Dup (ls : List Lab) (i k : Nat) : Prop where
  lti : i < ls.length
  ltk : k < i
  eq : (ls[k]'(by omega)).name = (ls[i]).name
  first : ∀ m (hi : m < i) n (hk : n < m), (ls[n]'(by omega)).name ≠ (ls[m]'(by omega)).name
  least : ∀ n (hk : n < k), (ls[n]'(by omega)).name ≠ (ls[i]).name
def Distinct (ls : List Lab) : Prop := ∀ i (hi : i < ls.length) k (hk : k < i), (ls[k]'(by omega)).name ≠ (ls[i]).name

end Go.Proofs.YtcfdemhokbddiaaGreatDoor

/-
  The document's Parse where a label stands twice.
-/
namespace Go.Proofs.YtcfdemhokbddiaaGreatDoor
open Go.RowKit

set_option maxRecDepth 100000 in
set_option maxHeartbeats 2000000 in
theorem parse_dup (s : ByteArray) (st : St) (i0 k0 : Nat) (w : World) (h : ¬ 100 < s.size) (hr : runR st0 0 s.data.toList = .ok st) (hgood : badEnd st = false) (hD : Dup st.labs i0 k0) (hl3 : st.labs.length ≤ 100) :
    Calls Tryz.prog 80 #[.string s] w fun e w' => e = .returned (outV [] [] 3 ((st.labs[i0]'hD.lti).at_)) ∧ Below w.heap.size w w' := by
  have h' : ¬ (100 : Int) < (s.size : Int) := by omega
  have HR : Hid (runR st0 0 s.data.toList = .ok st) := hr
  have HG : Hid (badEnd st = false) := hgood
  have HDp : Hid (Dup st.labs i0 k0) := hD
  have hlti := hD.lti
  have hltk := hD.ltk
  obtain ⟨AT, hAT⟩ : ∃ AT, AT = (st.labs[i0]'hD.lti).at_ := ⟨_, rfl⟩
  rw [← hAT]
  have HAT : Hid (AT = (st.labs[i0]'hD.lti).at_) := hAT
  clear hr hgood hAT
  go_enter Tryz.func80, Tryz.ntmps80
  go_wp2
  go_loopw [7] (fun i wr => ∃ (k : Nat) (sx : St), i = .int .i64 (k : Int) ∧ k ≤ s.size ∧ TextAt w.heap.size sx wr ∧ Inv k sx ∧ Below w.heap.size w wr ∧ Hid (runR st0 0 s.data.toList = runR sx k (s.data.toList.drop k)))
    (fun i _ => 100 - (intOf i).toNat)
  case atStart => exact ⟨0, st0, rfl, Nat.zero_le _, text0 w, inv0, (Below.refl _ _).alloc (Nat.le_refl _) _, rfl⟩
  case round =>
    obtain ⟨k, sx, rfl, hk, hT, hI, hB, HK⟩ := hrel
    by_cases hlt : k < s.size
    · have HD : Hid (s.data.toList.drop k = s[k] :: s.data.toList.drop (k + 1)) := drop_cons s k hlt
      go_wp2_with fail
      refine (step_any k w.heap.size sx s[k] k _ hT hI (by omega) (by omega)).mono ?_
      rintro e w1 ⟨rfl, t1, b1⟩
      cases hs : stepR sx s[k] k with
      | none =>
        exfalso
        have hrun : runR st0 0 s.data.toList = .error k := by
          rw [HK.out, HD.out]; unfold runR; rw [hs]
        rw [HR.out] at hrun; cases hrun
      | some st' =>
        have HS : Hid (stepR sx s[k] k = some st') := hs
        have hT' := t1 st' hs
        have hI' := step_inv k k sx st' s[k] hI hs
        clear hs t1
        simp only [Option.isSome_some]
        go_wp2
        go_roundw
        case rel =>
          refine ⟨k + 1, st', by go_num, by omega, hT', hI', hB.trans b1, ?_⟩
          show _ = _
          rw [HK.out, HD.out]
          conv => lhs; unfold runR
          rw [HS.out]
        case measure => simp [intOf]; omega
    · have hend : sx = st := by
        have h1 : runR st0 0 s.data.toList = .ok sx := by
          rw [HK.out, List.drop_of_length_le (by show s.size ≤ k; omega)]; rfl
        rw [HR.out] at h1; cases h1; rfl
      subst hend
      obtain ⟨a, cp, hb, c0, c1, c3, _⟩ := hT.cells
      have c2 : wr.cell? ⟨w.heap.size, 2, none⟩ = some (.string (B sx.name)) := by simp [World.cell?, hb]
      have hcase : ((sx.next : Int) != 6) = false ∨ (((sx.next : Int) != 6) = true ∧ ((sx.next : Int) != 0) = false ∧ (B sx.name).toList.isEmpty = false) := by
        have := HG.out
        rw [toList_B]
        by_cases h6 : sx.next = 6
        · left; simp; omega
        · right
          have h6' : (sx.next != 6) = true := by simpa using h6
          simp only [badEnd, h6', Bool.true_and, Bool.or_eq_false_iff] at this
          obtain ⟨u1, u2⟩ := this
          exact ⟨by simp; omega, by simp at u1; simp; omega, u2⟩
      clear hb hI HK
      rcases hcase with n6 | ⟨n6, n0, hemp⟩
      all_goals
        go_wp2
        clear c0 c1 c2 c3
        go_loopw [9] (fun i wx => ∃ (m : Nat), i = .int .i64 (m : Int) ∧ m ≤ i0 ∧ TextAt w.heap.size sx wx ∧ Below w.heap.size w wx) (fun i _ => 100 - (intOf i).toNat)
        case atStart => exact ⟨0, rfl, Nat.zero_le _, hT, hB⟩
        case round =>
          clear hT hB
          obtain ⟨m, rfl, hm, hT, hB⟩ := hrel
          obtain ⟨ad, cp2, e3, hcl⟩ := hT.lab
          have hmi : (m : Int) < (sx.labs.length : Int) := by omega
          clear hcl
          go_wp2
          go_loopw [10] (fun k wy => ∃ (q : Nat), k = .int .i64 (q : Int) ∧ q ≤ m ∧ (m = i0 → q ≤ k0) ∧ TextAt w.heap.size sx wy ∧ Below w.heap.size w wy) (fun k _ => 100 - (intOf k).toNat)
          case atStart => exact ⟨0, rfl, Nat.zero_le _, fun _ => Nat.zero_le _, hT, hB⟩
          case round =>
            clear hT hB e3
            obtain ⟨q, rfl, hq, hqk, hT, hB⟩ := hrel
            have HQK : Hid (m = i0 → q ≤ k0) := hqk
            clear hqk
            by_cases hqm : q < m
            · obtain ⟨ad, cp2, e3, hcl⟩ := hT.lab
              obtain ⟨g, rfl, n1, _, _⟩ := hcl q (by omega)
              obtain ⟨g', hg', n2, _, a2⟩ := hcl m (by omega)
              simp only [Option.some.injEq, Addr.mk.injEq, and_true] at hg'
              subst hg'
              have hqi : (q : Int) < (sx.labs.length : Int) := by omega
              clear hcl
              by_cases hhit : m = i0 ∧ q = k0
              · obtain ⟨rfl, rfl⟩ := hhit
                have heq : ((B (sx.labs[q]).name).toList == (B (sx.labs[m]).name).toList) = true := by
                  rw [toList_B, toList_B]; have := HDp.out.eq; simpa using this
                have HA2 : Hid (AT = (sx.labs[m]).at_) := HAT.out
                clear HAT
                go_wp2_with fail
                go_quiet (fail)
                go_wp2
                go_quiet (fail)
                go_wp2
                refine bodyPost_ret (v := outV [] [] 3 AT) (by rw [HA2.out]; simp [results, Tryz.results80, go_sem, outV, B]) rfl ⟨rfl, below_drewN (below_drewN hB _) _⟩
              · have hne : ((B (sx.labs[q]).name).toList == (B (sx.labs[m]).name).toList) = false := by
                  rw [toList_B, toList_B]
                  simp only [beq_eq_false_iff_ne]
                  by_cases hmi0 : m = i0
                  · subst hmi0
                    have h1 := HQK.out rfl
                    exact HDp.out.least q (by omega)
                  · exact HDp.out.first m (by omega) q hqm
                have HH : Hid (¬ (m = i0 ∧ q = k0)) := hhit
                clear hhit
                go_wp2_with fail
                go_quiet (fail)
                go_wp2
                go_roundw
                case rel => exact ⟨q + 1, by go_num, by omega, fun e => by have := HQK.out e; have := HH.out; omega, hT, below_drewN hB _⟩
                case measure => simp [intOf]; omega
            · have hmi0 : m < i0 := by
                rcases Nat.lt_or_ge m i0 with h | h
                · exact h
                · have : m = i0 := by omega
                  have := HQK.out this; omega
              go_wp2
              go_roundw
              case rel => exact ⟨m + 1, by go_num, by omega, hT, hB⟩
              case measure => simp [intOf]; omega

end Go.Proofs.YtcfdemhokbddiaaGreatDoor
