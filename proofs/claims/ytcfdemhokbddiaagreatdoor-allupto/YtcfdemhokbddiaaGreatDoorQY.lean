/-
  The document's Parse where it lets a text in: the plain form.
-/
import Derived.Test.YtcfdemhokbddiaaGreatDoorQW

namespace Go.Proofs.YtcfdemhokbddiaaGreatDoor
open Go.RowKit

theorem outQ_snoc (a : UInt8) (ls : List Lab) (x : Lab) : outQ a (ls ++ [x]) = outQ a ls ++ ((if ls.isEmpty then a else 44) :: labQ x) := by
  induction ls generalizing a with
  | nil => simp [outQ]
  | cons y ls ih => simp only [List.cons_append, outQ, ih]; cases ls <;> simp
theorem labQ_len (x : Lab) (h1 : x.name.length ≤ 100) (h2 : x.val.length ≤ 100) : (labQ x).length ≤ 310 := by
  have := plainV_len x.val
  simp [labQ]; omega
theorem outQ_len (a : UInt8) (ls : List Lab) (h : ∀ x ∈ ls, x.name.length ≤ 100 ∧ x.val.length ≤ 100) : (outQ a ls).length ≤ 320 * ls.length := by
  induction ls generalizing a with
  | nil => simp [outQ]
  | cons y ls ih =>
    have h1 := h y (by simp)
    have h2 := labQ_len y h1.1 h1.2
    have h3 := ih 44 (fun x hx => h x (by simp [hx]))
    simp [outQ]; omega

theorem gtr_eq (a b : List UInt8) : (!(Op.bytesLess (B a).toList (B b).toList || (B a).toList == (B b).toList)) = lt b a := by
  rw [toList_B, toList_B]
  show (!(lt a b || a == b)) = lt b a
  cases h1 : lt a b with
  | true => rw [lt_asymm a b h1]; rfl
  | false =>
    by_cases e : a = b
    · subst e; rw [lt_irrefl]; simp
    · have : (a == b) = false := by simpa using e
      rw [this]
      cases h2 : lt b a with
      | true => rfl
      | false => exact absurd (lt_total a b h1 h2) e

def bi : Option Nat → Int
  | none => -1
  | some j => (j : Int)

theorem text_below {b : Nat} {st : St} {w : World} (h : TextAt b st w) : ∀ w', Below w.heap.size w w' → TextAt b st w' := by
  intro w' hB
  obtain ⟨a, c, h1, h2⟩ := h
  refine ⟨a, c, by rw [hB.block b (lt_of h1)]; exact h1, ?_⟩
  have hg : w.grownBy w' none := ⟨hB.os, hB.tape, hB.output, hB.size, fun k hk _ => hB.block k hk⟩
  refine h2.kept hg ?_
  rcases hk : Value.ownBlock _ with _ | k
  · exact Or.inl rfl
  · right; simp

theorem chain (O : List UInt8) (c : UInt8) (nm v : List UInt8) (h1 : O.length ≤ 33000) (h2 : nm.length ≤ 100) (h3 : v.length ≤ 2000) : ∃ O1 O2 O3 O4 O5 : List UInt8,
    (∀ w, (Op.stringOp .add (B O) ⟨#[c]⟩).run Tryz.prog w = .ok (.string (B O1)) w) ∧ (∀ w, (Op.stringOp .add (B O1) (B nm)).run Tryz.prog w = .ok (.string (B O2)) w) ∧ (∀ w, (Op.stringOp .add (B O2) ⟨#[61, 34]⟩).run Tryz.prog w = .ok (.string (B O3)) w) ∧
    (∀ w, (Op.stringOp .add (B O3) (B v)).run Tryz.prog w = .ok (.string (B O4)) w) ∧ (∀ w, (Op.stringOp .add (B O4) ⟨#[34]⟩).run Tryz.prog w = .ok (.string (B O5)) w) ∧ Hid (O5 = O ++ [c] ++ nm ++ [61, 34] ++ v ++ [34]) :=
  ⟨_, _, _, _, _, add_lists O [c] (by omega) (by simp), add_lists (O ++ [c]) nm (by simp; omega) (by omega), add_lists (O ++ [c] ++ nm) [61, 34] (by simp; omega) (by simp),
    add_lists (O ++ [c] ++ nm ++ [61, 34]) v (by simp; omega) (by omega), add_lists (O ++ [c] ++ nm ++ [61, 34] ++ v) [34] (by simp; omega) (by simp), rfl⟩

set_option maxRecDepth 100000 in
set_option maxHeartbeats 4000000 in
theorem parse_ok (s : ByteArray) (st : St) (r : List Lab) (w : World) (h : ¬ 100 < s.size) (hr : runR st0 0 s.data.toList = .ok st) (hgood : badEnd st = false) (hD : Distinct st.labs) (hl3 : st.labs.length ≤ 100)
    (hs : Srt r) (hm : ∀ x, x ∈ st.labs ↔ x ∈ r) (hlen : r.length = st.labs.length) (hne : ∀ x ∈ r, x.name ≠ []) (hnm : st.name.length ≤ 100) (hx : ∀ x ∈ r, x.name.length ≤ 100 ∧ x.val.length ≤ 100) :
    Calls Tryz.prog 80 #[.string s] w fun e w' => e = .returned (outV st.name (plainQ st.name r) 0 0) ∧ Below w.heap.size w w' := by
  have h' : ¬ (100 : Int) < (s.size : Int) := by omega
  have HR : Hid (runR st0 0 s.data.toList = .ok st) := hr
  have HG : Hid (badEnd st = false) := hgood
  have HDp : Hid (Distinct st.labs) := hD
  have HN : Hid (∀ n, n < r.length → ∃ j, ∃ h : j < st.labs.length, bestTo (lastOf r n) st.labs st.labs.length = some j ∧ st.labs[j] = r[n]?.getD ⟨[], [], 0⟩) := fun n hn => by
    obtain ⟨j, hj, e1, e2⟩ := best_next st.labs r n hs hm hn hne
    exact ⟨j, hj, e1, by rw [e2, List.getElem?_eq_getElem hn]; rfl⟩
  have HX : Hid (∀ x ∈ r, x.name.length ≤ 100 ∧ x.val.length ≤ 100) := hx
  have HL : Hid (r.length = st.labs.length) := hlen
  have HB1 : Hid (∀ n, n ≤ r.length → (B (lastOf r n)).size ≤ 100) := fun n hn => by
    rw [B_size]; unfold lastOf; split
    · simp
    · rw [List.getElem?_eq_getElem (by omega)]; exact (hx _ (List.getElem_mem _)).1
  clear hr hgood hD hs hm hlen hne hx
  go_enter Tryz.func80, Tryz.ntmps80
  go_wp2
  go_loopw [7] (fun i wr => ∃ (k : Nat) (sx : St), i = .int .i64 (k : Int) ∧ k ≤ s.size ∧ TextAt w.heap.size sx wr ∧ Inv k sx ∧ Below w.heap.size w wr ∧ Hid (runR st0 0 s.data.toList = runR sx k (s.data.toList.drop k)))
    (fun i _ => 100 - (intOf i).toNat)
  case atStart => exact ⟨0, st0, rfl, Nat.zero_le _, text0 w, inv0, (Below.refl _ _).alloc (Nat.le_refl _) _, rfl⟩
  case round =>
    obtain ⟨k, sx, rfl, hk, hT, hI, hB, HK⟩ := hrel
    by_cases hlt : k < s.size
    · have HD : Hid (s.data.toList.drop k = s[k] :: s.data.toList.drop (k + 1)) := drop_cons s k hlt
      go_wp2_with fail
      refine (step_any k w.heap.size sx s[k] k _ hT hI (by omega) (by omega)).mono ?_
      rintro e w1 ⟨rfl, t1, b1⟩
      cases hs : stepR sx s[k] k with
      | none =>
        exfalso
        have hrun : runR st0 0 s.data.toList = .error k := by
          rw [HK.out, HD.out]; unfold runR; rw [hs]
        rw [HR.out] at hrun; cases hrun
      | some st' =>
        have HS : Hid (stepR sx s[k] k = some st') := hs
        have hT' := t1 st' hs
        have hI' := step_inv k k sx st' s[k] hI hs
        clear hs t1
        simp only [Option.isSome_some]
        go_wp2
        go_roundw
        case rel =>
          refine ⟨k + 1, st', by go_num, by omega, hT', hI', hB.trans b1, ?_⟩
          show _ = _
          rw [HK.out, HD.out]
          conv => lhs; unfold runR
          rw [HS.out]
        case measure => simp [intOf]; omega
    · have hend : sx = st := by
        have h1 : runR st0 0 s.data.toList = .ok sx := by
          rw [HK.out, List.drop_of_length_le (by show s.size ≤ k; omega)]; rfl
        rw [HR.out] at h1; cases h1; rfl
      subst hend
      obtain ⟨a, cp, hb, c0, c1, c3, _⟩ := hT.cells
      have c2 : wr.cell? ⟨w.heap.size, 2, none⟩ = some (.string (B sx.name)) := by simp [World.cell?, hb]
      have hcase : ((sx.next : Int) != 6) = false ∨ (((sx.next : Int) != 6) = true ∧ ((sx.next : Int) != 0) = false ∧ (B sx.name).toList.isEmpty = false) := by
        have := HG.out
        rw [toList_B]
        by_cases h6 : sx.next = 6
        · left; simp; omega
        · right
          have h6' : (sx.next != 6) = true := by simpa using h6
          simp only [badEnd, h6', Bool.true_and, Bool.or_eq_false_iff] at this
          obtain ⟨u1, u2⟩ := this
          exact ⟨by simp; omega, by simp at u1; simp; omega, u2⟩
      clear hb hI HK
      rcases hcase with n6 | ⟨n6, n0, hemp⟩
      all_goals
        go_wp2
        clear c0 c1 c3
        go_loopw [9] (fun i wx => ∃ (m : Nat), i = .int .i64 (m : Int) ∧ m ≤ sx.labs.length ∧ TextAt w.heap.size sx wx ∧ Below w.heap.size w wx) (fun i _ => 100 - (intOf i).toNat)
        case atStart => exact ⟨0, rfl, Nat.zero_le _, hT, hB⟩
        case round =>
          clear hT hB c2
          obtain ⟨m, rfl, hm, hT, hB⟩ := hrel
          obtain ⟨ad, cp2, e3, hcl⟩ := hT.lab
          clear hcl
          by_cases hml : m < sx.labs.length
          · have hmi : (m : Int) < (sx.labs.length : Int) := by omega
            go_wp2
            go_loopw [10] (fun k wy => ∃ (q : Nat), k = .int .i64 (q : Int) ∧ q ≤ m ∧ TextAt w.heap.size sx wy ∧ Below w.heap.size w wy) (fun k _ => 100 - (intOf k).toNat)
            case atStart => exact ⟨0, rfl, Nat.zero_le _, hT, hB⟩
            case round =>
              clear hT hB e3
              obtain ⟨q, rfl, hq, hT, hB⟩ := hrel
              by_cases hqm : q < m
              · obtain ⟨ad, cp2, e3, hcl⟩ := hT.lab
                obtain ⟨g, rfl, n1, _, _⟩ := hcl q (by omega)
                obtain ⟨g', hg', n2, _, a2⟩ := hcl m (by omega)
                simp only [Option.some.injEq, Addr.mk.injEq, and_true] at hg'
                subst hg'
                have hqi : (q : Int) < (sx.labs.length : Int) := by omega
                clear hcl
                have hne : ((B (sx.labs[q]).name).toList == (B (sx.labs[m]).name).toList) = false := by
                  rw [toList_B, toList_B]
                  simp only [beq_eq_false_iff_ne]
                  exact HDp.out m hml q hqm
                go_wp2_with fail
                go_quiet (fail)
                go_wp2
                go_roundw
                case rel => exact ⟨q + 1, by go_num, by omega, hT, below_drewN hB _⟩
                case measure => simp [intOf]; omega
              · go_wp2
                go_roundw
                case rel => exact ⟨m + 1, by go_num, by omega, hT, hB⟩
                case measure => simp [intOf]; omega
          · have hmi : ¬ (m : Int) < (sx.labs.length : Int) := by omega
            obtain ⟨a, cp, hb, c0, c1, c3, _⟩ := hT.cells
            have c2 := Lib.cell_of_heap hb 2
            simp only [List.getElem?_toArray, List.getElem?_cons_succ, List.getElem?_cons_zero] at c2
            clear hb c0 c1 c3
            go_wp2
            go_loopw [11, 12, 13] (fun o l i wx => ∃ (n : Nat), i = .int .i64 (n : Int) ∧ n ≤ r.length ∧ o = .string (B (sx.name ++ outQ 123 (r.take n))) ∧ l = .string (B (lastOf r n)) ∧ TextAt w.heap.size sx wx ∧ Below w.heap.size w wx) (fun _ _ i _ => 100 - (intOf i).toNat)
            case atStart => exact ⟨0, rfl, Nat.zero_le _, by simp [outQ], by simp [lastOf, B], hT, hB⟩
            case round =>
              clear hT hB c2 e3
              obtain ⟨n, rfl, hn, rfl, rfl, hT, hB⟩ := hrel
              obtain ⟨ad, cp2, e3, hcl⟩ := hT.lab
              clear hcl
              by_cases hnl : n < r.length
              · have hni : (n : Int) < (sx.labs.length : Int) := by have := HL.out; omega
                go_wp2
                go_loopw [14, 15] (fun b i wy => ∃ (q : Nat), i = .int .i64 (q : Int) ∧ q ≤ sx.labs.length ∧ b = .int .i64 (bi (bestTo (lastOf r n) sx.labs q)) ∧ TextAt w.heap.size sx wy ∧ Below w.heap.size w wy) (fun _ i _ => 100 - (intOf i).toNat)
                case atStart => exact ⟨0, rfl, Nat.zero_le _, rfl, hT, hB⟩
                case round =>
                  clear hT hB e3
                  obtain ⟨q, rfl, hq, rfl, hT, hB⟩ := hrel
                  obtain ⟨ad, cp2, e3, hcl⟩ := hT.lab
                  by_cases hql : q < sx.labs.length
                  · have hqi : (q : Int) < (sx.labs.length : Int) := by omega
                    obtain ⟨g, rfl, n1, _, _⟩ := hcl q hql
                    have hgt := gtr_eq (sx.labs[q]).name (lastOf r n)
                    rcases best_spec (lastOf r n) sx.labs q (by omega) with ⟨b1, b2⟩ | ⟨j, hj, b1, b2, b3, b4⟩
                    · clear b2 hcl
                      cases hl : lt (lastOf r n) (sx.labs[q]).name with
                      | false =>
                        rw [hl] at hgt
                        have HE : Hid (bestTo (lastOf r n) sx.labs (q + 1) = none) := by show _ = _; simp [bestTo, hql, b1, hl]
                        rw [b1]
                        clear b1 hl
                        simp only [bi]
                        go_wp2_with fail
                        go_quiet (fail)
                        go_wp2
                        go_roundw
                        case rel => exact ⟨q + 1, by go_num, by omega, by rw [HE.out], hT, below_drewN hB _⟩
                        case measure => simp [intOf]; omega
                      | true =>
                        rw [hl] at hgt
                        have HE : Hid (bestTo (lastOf r n) sx.labs (q + 1) = some q) := by show _ = _; simp [bestTo, hql, b1, hl]
                        rw [b1]
                        clear b1 hl
                        simp only [bi]
                        go_wp2_with fail
                        go_quiet (fail)
                        go_wp2
                        go_roundw
                        case rel => exact ⟨q + 1, by go_num, by omega, by rw [HE.out], hT, below_drewN hB _⟩
                        case measure => simp [intOf]; omega
                    · clear b4 b3
                      obtain ⟨g', hg', n2, _, _⟩ := hcl j hj
                      simp only [Option.some.injEq, Addr.mk.injEq, and_true] at hg'
                      subst hg'
                      have hji : (j : Int) < (sx.labs.length : Int) := by omega
                      clear hcl
                      cases hl : lt (lastOf r n) (sx.labs[q]).name with
                      | false =>
                        rw [hl] at hgt
                        have HE : Hid (bestTo (lastOf r n) sx.labs (q + 1) = some j) := by show _ = _; simp [bestTo, hql, b1, hl]
                        rw [b1]
                        clear b1 hl
                        simp only [bi]
                        go_wp2_with fail
                        go_quiet (fail)
                        go_wp2
                        go_roundw
                        case rel => exact ⟨q + 1, by go_num, by omega, by rw [HE.out], hT, below_drewN hB _⟩
                        case measure => simp [intOf]; omega
                      | true =>
                        rw [hl] at hgt
                        have hj0 : decide ((j : Int) < 0) = false := by simp
                        cases hl2 : lt (sx.labs[q]).name (sx.labs[j]).name with
                        | false =>
                          have hless : Op.bytesLess (B (sx.labs[q]).name).toList (B (sx.labs[j]).name).toList = false := by rw [toList_B, toList_B]; exact hl2
                          have HE : Hid (bestTo (lastOf r n) sx.labs (q + 1) = some j) := by show _ = _; simp [bestTo, hql, b1, hl, hj, hl2]
                          rw [b1]
                          clear b1 hl hl2
                          simp only [bi]
                          go_wp2_with fail
                          go_quiet (fail)
                          go_wp2
                          go_roundw
                          case rel => exact ⟨q + 1, by go_num, by omega, by rw [HE.out], hT, below_drewN hB _⟩
                          case measure => simp [intOf]; omega
                        | true =>
                          have hless : Op.bytesLess (B (sx.labs[q]).name).toList (B (sx.labs[j]).name).toList = true := by rw [toList_B, toList_B]; exact hl2
                          have HE : Hid (bestTo (lastOf r n) sx.labs (q + 1) = some q) := by show _ = _; simp [bestTo, hql, b1, hl, hj, hl2]
                          rw [b1]
                          clear b1 hl hl2
                          simp only [bi]
                          go_wp2_with fail
                          go_quiet (fail)
                          go_wp2
                          go_roundw
                          case rel => exact ⟨q + 1, by go_num, by omega, by rw [HE.out], hT, below_drewN hB _⟩
                          case measure => simp [intOf]; omega
                  · have hqi : ¬ (q : Int) < (sx.labs.length : Int) := by omega
                    have hqe : q = sx.labs.length := by omega
                    obtain ⟨j, hj, hb1, hb2⟩ := HN.out n hnl
                    have hrn : r[n]?.getD ⟨[], [], 0⟩ = r[n] := by rw [List.getElem?_eq_getElem hnl]; rfl
                    rw [hrn] at hb2
                    rw [hqe, hb1]
                    obtain ⟨g', rfl, n2, v2, _⟩ := hcl j hj
                    obtain ⟨x, hx⟩ : ∃ x, x = r[n] := ⟨_, rfl⟩
                    rw [hb2, ← hx] at n2 v2
                    have hxb := HX.out x (by rw [hx]; exact List.getElem_mem hnl)
                    obtain ⟨hx1, hx2⟩ := hxb
                    have HTK : Hid (r.take (n + 1) = r.take n ++ [x]) := by show _ = _; rw [hx]; exact List.take_succ_eq_append_getElem hnl
                    have HLA : Hid (lastOf r (n + 1) = x.name) := by
                      show _ = _; unfold lastOf; rw [if_neg (by omega), Nat.add_sub_cancel, hrn, hx]
                    have hji : (j : Int) < (sx.labs.length : Int) := by omega
                    have hol : (sx.name ++ outQ 123 (r.take n)).length ≤ 33000 := by
                      have h1 := outQ_len 123 (r.take n) (fun y hy => HX.out y (List.mem_of_mem_take hy))
                      have h2 := HL.out
                      simp at h1 ⊢; omega
                    have hpv := plainV_len x.val
                    clear hcl hb1 hb2 hrn hqe hx
                    simp only [bi]
                    obtain ⟨O, hO⟩ : ∃ O, O = sx.name ++ outQ 123 (r.take n) := ⟨_, rfl⟩
                    rw [← hO] at hol ⊢
                    have HO : Hid (O = sx.name ++ outQ 123 (r.take n)) := hO
                    clear hO
                    by_cases hn0 : n = 0
                    · have hn0' : ((n : Int) == 0) = true := by simp; omega
                      have HOUT : Hid (sx.name ++ outQ 123 (r.take (n + 1)) = O ++ [123] ++ x.name ++ [61, 34] ++ plainV x.val ++ [34]) := by
                        show _ = _
                        rw [HTK.out, outQ_snoc, HO.out]
                        have : (r.take n).isEmpty = true := by rw [hn0]; rfl
                        rw [this]; simp [labQ]
                      obtain ⟨O1, O2, O3, O4, O5, a1, a2, a3, a4, a5, HO5⟩ := chain O 123 x.name (plainV x.val) hol hx1 (by omega)
                      have KEEP : Hid (∀ w', Below _ _ w' → TextAt w.heap.size sx w') := text_below hT
                      clear hn0 hpv
                      go_wp2_with fail
                      refine (plainValue_any x.val _ (by omega)).mono ?_
                      rintro e w5 ⟨rfl, b5⟩
                      have hT5 := KEEP.out w5 b5
                      have hB5 := hB.trans (b5.mono hB.size)
                      clear hT hB e3 n2 v2 b5 KEEP
                      go_wp2
                      go_roundw
                      case rel => exact ⟨n + 1, by go_num, by omega, by rw [HOUT.out, ← HO5.out], by rw [HLA.out], hT5, hB5⟩
                      case measure => simp [intOf]; omega
                    · have hn0' : ((n : Int) == 0) = false := by simp; omega
                      have HOUT : Hid (sx.name ++ outQ 123 (r.take (n + 1)) = O ++ [44] ++ x.name ++ [61, 34] ++ plainV x.val ++ [34]) := by
                        show _ = _
                        rw [HTK.out, outQ_snoc, HO.out]
                        have : (r.take n).isEmpty = false := by
                          cases hc : r.take n with
                          | nil => have : (r.take n).length = 0 := by rw [hc]; rfl
                                   rw [List.length_take] at this; omega
                          | cons y ys => rfl
                        rw [this]; simp [labQ]
                      obtain ⟨O1, O2, O3, O4, O5, a1, a2, a3, a4, a5, HO5⟩ := chain O 44 x.name (plainV x.val) hol hx1 (by omega)
                      have KEEP : Hid (∀ w', Below _ _ w' → TextAt w.heap.size sx w') := text_below hT
                      clear hn0 hpv
                      go_wp2_with fail
                      refine (plainValue_any x.val _ (by omega)).mono ?_
                      rintro e w5 ⟨rfl, b5⟩
                      have hT5 := KEEP.out w5 b5
                      have hB5 := hB.trans (b5.mono hB.size)
                      clear hT hB e3 n2 v2 b5 KEEP
                      go_wp2
                      go_roundw
                      case rel => exact ⟨n + 1, by go_num, by omega, by rw [HOUT.out, ← HO5.out], by rw [HLA.out], hT5, hB5⟩
                      case measure => simp [intOf]; omega
              · have hni : ¬ (n : Int) < (sx.labs.length : Int) := by have := HL.out; omega
                have HTK : Hid (r.take n = r) := List.take_of_length_le (by omega)
                obtain ⟨a, cp, hb, c0, c1, c3, _⟩ := hT.cells
                have c2 := Lib.cell_of_heap hb 2
                simp only [List.getElem?_toArray, List.getElem?_cons_succ, List.getElem?_cons_zero] at c2
                clear hb c0 c1 c3
                by_cases hpos : 0 < sx.labs.length
                · have hpos' : (0 : Int) < (sx.labs.length : Int) := by omega
                  have hol : (sx.name ++ outQ 123 (r.take n)).length ≤ 33000 := by
                    have h1 := outQ_len 123 (r.take n) (fun y hy => HX.out y (List.mem_of_mem_take hy))
                    have h2 := HL.out
                    simp at h1 ⊢; omega
                  have a1 : ∀ w, (Op.stringOp .add (B (sx.name ++ outQ 123 (r.take n))) ⟨#[125]⟩).run Tryz.prog w = .ok (.string (B (sx.name ++ outQ 123 (r.take n) ++ [125]))) w := add_lists (sx.name ++ outQ 123 (r.take n)) [125] (by omega) (by simp)
                  have HPQ : Hid (plainQ sx.name r = sx.name ++ outQ 123 (r.take n) ++ [125]) := by
                    show _ = _
                    rw [HTK.out]; unfold plainQ
                    have : r.isEmpty = false := by
                      cases hc : r with
                      | nil => have := HL.out; rw [hc] at this; simp at this; omega
                      | cons y ys => rfl
                    rw [this]; rfl
                  clear hol
                  go_wp2
                  refine bodyPost_ret (v := outV sx.name (plainQ sx.name r) 0 0) (by rw [HPQ.out]; simp [results, Tryz.results80, go_sem, outV]) rfl ⟨rfl, hB⟩
                · have hpos' : ¬ (0 : Int) < (sx.labs.length : Int) := by omega
                  have HPQ : Hid (plainQ sx.name r = sx.name ++ outQ 123 (r.take n)) := by
                    show _ = _
                    rw [HTK.out]; unfold plainQ
                    have : r = [] := List.length_eq_zero_iff.1 (by have := HL.out; omega)
                    rw [this]; simp
                  go_wp2
                  refine bodyPost_ret (v := outV sx.name (plainQ sx.name r) 0 0) (by rw [HPQ.out]; simp [results, Tryz.results80, go_sem, outV]) rfl ⟨rfl, hB⟩

end Go.Proofs.YtcfdemhokbddiaaGreatDoor
