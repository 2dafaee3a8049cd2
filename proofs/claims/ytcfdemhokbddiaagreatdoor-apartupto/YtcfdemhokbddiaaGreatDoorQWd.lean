/-
  Apart: the law (unfinished).
-/
import Derived.Test.YtcfdemhokbddiaaGreatDoorQWa
import Derived.BigQuiet
import Derived.Deep.QuietTactic

namespace Go.Proofs.YtcfdemhokbddiaaGreatDoor
open Go.RowKit

theorem ApI.gb {base bl : Nat} {V P : List UInt8} {b : Nat} {w : World} {i : Nat} {wr w' : World} (h : ApI base bl V P b w i wr) (hg : wr.grownBy w' none) : ApI base bl V P b w i w' := by
  obtain ⟨t, h1, h2, h3, h4, h5, h6⟩ := h
  exact ⟨t, h1.gb hg, h2, h3.trans (gb_below hg h1.size), h4, h5, h6.gb hg⟩

theorem ApI.bl {base bl : Nat} {V P : List UInt8} {b : Nat} {w : World} {i : Nat} {wr w' : World} (h : ApI base bl V P b w i wr) (hb : Below wr.heap.size wr w') : ApI base bl V P b w i w' := by
  obtain ⟨t, h1, h2, h3, h4, h5, h6⟩ := h
  have hk : Kept [] wr w' := ⟨hb.os, hb.tape, hb.output, hb.size, fun k hk _ => hb.block k hk⟩
  exact ⟨t, h1.kept hk (by simp), h2, h3.trans (hb.mono h1.size), h4, h5, ⟨by rw [hb.block bl (lt_of h6.at_)]; exact h6.at_, h6.far⟩⟩
theorem ApI.chg {base bl : Nat} {V P S : List UInt8} {b : Nat} {w : World} {i : Nat} {wr : World} (h : ApI base bl V P b w i wr) (ht : Txt 0 S P) (hi : i ≤ 1048577) :
    Calls Tryz.prog 20 #[.pointer (some ⟨b, 0, none⟩), .string (B S), .int .i64 2] wr fun e w' => e = .returned (.int .i64 0) ∧ ApI base bl V P b w (i + 1) w' := by
  obtain ⟨t, h1, h2, h3, h4, h5, h6⟩ := h
  have hc := cChange h1 (B S) 2 (by omega)
  rw [h2, h5, data_B, ap_step ht i hi] at hc
  refine hc.mono fun e w' ⟨t', code, he, hst, hr, hv⟩ => ?_
  simp only [Prod.mk.injEq] at hv
  obtain ⟨rfl, hv⟩ := hv
  exact ⟨he, t', hst.bd, hst.b.trans h2, h3.trans (hst.below h1.low h1.size), hr.trans h4, hv, h6.stp hst⟩

set_option maxRecDepth 100000 in
set_option maxHeartbeats 8000000 in
theorem apart_law (zs : List Int) (s : ByteArray) (vs : Value) (w : World) (hs : IntsArg w.heap.size w vs zs) (ht : Tab w) (hzl : zs.length ≤ 1048576) :
    Calls Tryz.prog 9 #[vs, .string s] w fun e w' => e = .returned (.bool true) ∧ Below w.heap.size w w' := by
  obtain ⟨base, hbase⟩ : ∃ base, w.heap.size = base := ⟨_, rfl⟩
  have hpos : 0 < base := by rw [← hbase]; exact ht.lt
  have HBG : Hid (Calls Tryz.prog 12 #[] w _) := begun_any base w ht hpos (by omega)
  rw [hbase] at hs ⊢
  have HS : Hid (IntsArg base w vs zs) := hs
  obtain ⟨sa, scap, rfl, _⟩ := id hs
  have HBS : Hid (w.heap.size = base) := hbase
  clear hs ht hbase
  go_enter Tryz.func9, Tryz.ntmps9
  go_wp2_with fail
  refine HBG.out.mono ?_
  rintro e w0 ⟨t0, rfl, g0, hb0, hv0, hr0, ho0⟩
  have HI0 : Hid (Bd base 0 w0 t0 ∧ Below base w w0 ∧ t0.rview = [none, none, none] ∧ t0.view = V0) := ⟨hb0, gb_below g0 (by rw [HBS.out]; exact Nat.le_refl _), hr0, hv0⟩
  clear hb0 g0 hv0 hr0 HBG ho0
  go_wp2_with fail
  go_loopw [6, 7] (fun vv v wr => ∃ (i : Nat) (V : List UInt8), vv = .string (B V) ∧ v = .int .i64 (i : Int) ∧ i ≤ 8 ∧ i ≤ s.size ∧ Hid (V = vOf s i ∧ wr = w0)) (fun _ v _ => 8 - (intOf v).toNat)
  case atStart => exact ⟨0, [], rfl, rfl, Nat.zero_le _, Nat.zero_le _, (vOf_zero s).symm, rfl⟩
  case round =>
    obtain ⟨i, V, rfl, rfl, hi8, his, HV⟩ := hrel
    obtain rfl := HV.out.2
    by_cases hgo : i < s.size ∧ i < 8
    · obtain ⟨hlt, hlt8⟩ := hgo
      have hli : (i : Int) < (s.size : Int) := by omega
      have hli8 : (i : Int) < 8 := by omega
      have hVl : V.length ≤ 8 := by rw [HV.out.1]; have := vOf_len s i; omega
      have HE1 : Hid (s.extract i (i + 1) = B [s[i]]) := ex1 s i hlt
      have hG : goodD s[i] = (decide (s[i].toNat ≠ 34) && decide (s[i].toNat ≠ 92) && decide (s[i].toNat ≠ 10)) := rfl
      by_cases h34 : s[i].toNat = 34
      · have HN : Hid (V = vOf s (i + 1)) := by
          show _ = _
          rw [vOf_out s i hlt (by rw [hG]; simp [h34])]; exact HV.out.1
        have c1 : ((s[i].toNat : Int) != 34) = false := by simp [h34]
        clear hG
        go_wp2
        go_roundw
        case rel => exact ⟨i + 1, V, rfl, by go_num, by omega, by omega, HN.out, trivial⟩
        case measure => simp [intOf]; omega
      · have c1 : ((s[i].toNat : Int) != 34) = true := by simp; omega
        by_cases h92 : s[i].toNat = 92
        · have HN : Hid (V = vOf s (i + 1)) := by
            show _ = _
            rw [vOf_out s i hlt (by rw [hG]; simp [h92])]; exact HV.out.1
          have c2 : ((s[i].toNat : Int) != 92) = false := by simp [h92]
          clear hG
          go_wp2
          go_roundw
          case rel => exact ⟨i + 1, V, rfl, by go_num, by omega, by omega, HN.out, trivial⟩
          case measure => simp [intOf]; omega
        · have c2 : ((s[i].toNat : Int) != 92) = true := by simp; omega
          by_cases h10 : s[i].toNat = 10
          · have HN : Hid (V = vOf s (i + 1)) := by
              show _ = _
              rw [vOf_out s i hlt (by rw [hG]; simp [h10])]; exact HV.out.1
            have c3 : ((s[i].toNat : Int) != 10) = false := by simp [h10]
            clear hG
            go_wp2
            go_roundw
            case rel => exact ⟨i + 1, V, rfl, by go_num, by omega, by omega, HN.out, trivial⟩
            case measure => simp [intOf]; omega
          · have c3 : ((s[i].toNat : Int) != 10) = true := by simp; omega
            have HN : Hid (V ++ [s[i]] = vOf s (i + 1)) := by
              show _ = _
              rw [vOf_in s i hlt (by rw [hG]; simp [h34, h92, h10]), HV.out.1]
            have a1 : ∀ w, (Op.stringOp .add (B V) (s.extract i (i + 1))).run Tryz.prog w = .ok (.string (B (V ++ [s[i]]))) w := by
              rw [HE1.out]; exact add_lists V [s[i]] (by omega) (by simp)
            generalize V ++ [s[i]] = V' at a1 HN
            clear hG
            go_wp2
            go_roundw
            case rel => exact ⟨i + 1, V', rfl, by go_num, by omega, by omega, HN.out, trivial⟩
            case measure => simp [intOf]; omega
    · have hVl : V.length ≤ 8 := by rw [HV.out.1]; have := vOf_len s i; omega
      have HVG : Hid (∀ c ∈ V, goodB c) := by show ∀ c ∈ V, goodB c; rw [HV.out.1]; exact vOf_good s i
      have a1 : ∀ w, (Op.stringOp .add ⟨#[97, 61, 34]⟩ (B V)).run Tryz.prog w = .ok (.string (B ([97, 61, 34] ++ V))) w := add_lists [97, 61, 34] V (by simp) (by omega)
      have a2 : ∀ w, (Op.stringOp .add (B ([97, 61, 34] ++ V)) ⟨#[34]⟩).run Tryz.prog w = .ok (.string (B (lA V))) w := add_lists ([97, 61, 34] ++ V) [34] (by simp; omega) (by simp)
      generalize [97, 61, 34] ++ V = O1 at a1 a2
      have g1 := gb_alloc (gb_refl wr none) (.cells #[.string (B (lA V)), .string ⟨#[98, 61, 34, 92, 34, 92, 92, 34]⟩, .string ⟨#[99, 61, 34, 92, 110, 34]⟩] 9)
      have h1 := alloc_new wr (.cells #[.string (B (lA V)), .string ⟨#[98, 61, 34, 92, 34, 92, 92, 34]⟩, .string ⟨#[99, 61, 34, 92, 110, 34]⟩] 9) _ rfl
      obtain ⟨W, hW⟩ : ∃ W, wr.alloc (.cells #[.string (B (lA V)), .string ⟨#[98, 61, 34, 92, 34, 92, 92, 34]⟩, .string ⟨#[99, 61, 34, 92, 110, 34]⟩] 9) = W := ⟨_, rfl⟩
      rw [hW] at g1 h1
      have HW : Hid (wr.alloc (.cells #[.string (B (lA V)), .string ⟨#[98, 61, 34, 92, 34, 92, 92, 34]⟩, .string ⟨#[99, 61, 34, 92, 110, 34]⟩] 9) = W) := hW
      have hlb : LB3 wr.heap.size V t0 W := ⟨h1, fun hm => by have := HI0.out.1.lt _ hm; omega⟩
      obtain ⟨bl, hbl⟩ : ∃ bl, wr.heap.size = bl := ⟨_, rfl⟩
      rw [hbl] at hlb
      have HLB : Hid (LB3 bl V t0 W) := hlb
      obtain ⟨k0, k1, k2⟩ := hlb.cells
      have b1 : ∀ w, (Op.stringOp .add ⟨#[104, 105, 116, 115, 123]⟩ (B (lA V))).run Tryz.prog w = .ok (.string (B ([104, 105, 116, 115, 123] ++ lA V))) w := add_lists [104, 105, 116, 115, 123] (lA V) (by simp) (by simp [lA]; omega)
      have b2 : ∀ w, (Op.stringOp .add (B ([104, 105, 116, 115, 123] ++ lA V)) ⟨#[44]⟩).run Tryz.prog w = .ok (.string (B ([104, 105, 116, 115, 123] ++ lA V ++ [44]))) w := add_lists _ [44] (by simp [lA]; omega) (by simp)
      have b3 : ∀ w, (Op.stringOp .add (B ([104, 105, 116, 115, 123] ++ lA V ++ [44])) ⟨#[98, 61, 34, 92, 34, 92, 92, 34]⟩).run Tryz.prog w = .ok (.string (B ([104, 105, 116, 115, 123] ++ lA V ++ [44] ++ lB))) w := add_lists _ lB (by simp [lA]; omega) (by simp [lB])
      have b4 : ∀ w, (Op.stringOp .add (B ([104, 105, 116, 115, 123] ++ lA V ++ [44] ++ lB)) ⟨#[44]⟩).run Tryz.prog w = .ok (.string (B ([104, 105, 116, 115, 123] ++ lA V ++ [44] ++ lB ++ [44]))) w := add_lists _ [44] (by simp [lA, lB]; omega) (by simp)
      have b5 : ∀ w, (Op.stringOp .add (B ([104, 105, 116, 115, 123] ++ lA V ++ [44] ++ lB ++ [44])) ⟨#[99, 61, 34, 92, 110, 34]⟩).run Tryz.prog w = .ok (.string (B ([104, 105, 116, 115, 123] ++ lA V ++ [44] ++ lB ++ [44] ++ lC))) w := add_lists _ lC (by simp [lA, lB]; omega) (by simp [lC])
      have b6 : ∀ w, (Op.stringOp .add (B ([104, 105, 116, 115, 123] ++ lA V ++ [44] ++ lB ++ [44] ++ lC)) ⟨#[125]⟩).run Tryz.prog w = .ok (.string (B (ser3 (lA V) lB lC))) w := add_lists _ [125] (by simp [lA, lB, lC]; omega) (by simp)
      obtain ⟨P, hP⟩ : ∃ P, ser3 (lA V) lB lC = P := ⟨_, rfl⟩
      rw [hP] at b6
      have HP : Hid (ser3 (lA V) lB lC = P) := hP
      generalize [104, 105, 116, 115, 123] ++ lA V ++ [44] ++ lB ++ [44] ++ lC = O6 at b5 b6
      generalize [104, 105, 116, 115, 123] ++ lA V ++ [44] ++ lB ++ [44] = O5 at b4 b5
      generalize [104, 105, 116, 115, 123] ++ lA V ++ [44] ++ lB = O4 at b3 b4
      generalize [104, 105, 116, 115, 123] ++ lA V ++ [44] = O3 at b2 b3
      generalize [104, 105, 116, 115, 123] ++ lA V = O2 at b1 b2
      have HIA : Hid (ApI base bl V P t0.b w 0 W) := ⟨t0, HI0.out.1.gb g1, rfl, HI0.out.2.1.trans (gb_below g1 HI0.out.1.size), HI0.out.2.2.1, HI0.out.2.2.2, HLB.out⟩
      have HBLE : Hid (wr.heap.size = bl) := hbl
      clear g1 h1 hW hlb hbl hP
      go_wp2_with fail
      all_goals
        rw [HW.out, HBLE.out]
        go_quiet (fail)
        go_wp2_with fail
        go_loopw [10, 11] (fun vn v wr => ∃ i : Nat, vn = .int .i64 (2 * (i : Int)) ∧ v = .int .i64 (i : Int) ∧ i ≤ zs.length + 1 ∧ Hid (ApI base bl V P t0.b w i wr)) (fun _ v _ => zs.length + 1 - (intOf v).toNat)
        case atStart => exact ⟨0, rfl, rfl, Nat.zero_le _, HIA.out.gb (gb_drewN _ _ _)⟩
        case round =>
          obtain ⟨i, rfl, rfl, hiz, HR⟩ := hrel
          by_cases hlt : i < zs.length + 1
          · have hli : (i : Int) < (zs.length : Int) + 1 := by omega
            by_cases hz : i < zs.length
            · have hzi : (i : Int) < (zs.length : Int) := by omega
              obtain ⟨zb, zoff, hzb, _, hz64, hzc⟩ := (HS.out.below HR.out.choose_spec.2.2.1).get hz
              subst hzb
              obtain ⟨zv, hzv⟩ : ∃ zv, zs[i] = zv := ⟨_, rfl⟩
              rw [hzv] at hz64 hzc
              have hpk := kpick_any zv 6 wr hz64 (by omega) (by omega)
              obtain ⟨hn1, hn2⟩ := pickP_bound zv 6 (by omega)
              obtain ⟨k, hkn⟩ : ∃ k : Nat, pickP zv 6 = (k : Int) := ⟨(pickP zv 6).toNat, by omega⟩
              rw [hkn] at hpk hn2
              have hk : k < 6 := by omega
              have hk6 : (k : Int) < 6 := by omega
              have HPK : Hid (Calls Tryz.prog 23 #[.int .i64 zv, .int .i64 6] wr _) := hpk
              have hK : (((((((wr.alloc (.cells #[.int .i64 0, .int .i64 1, .int .i64 2] 3)).alloc (.cells #[.int .i64 0, .int .i64 2, .int .i64 1] 3)).alloc (.cells #[.int .i64 1, .int .i64 0, .int .i64 2] 3)).alloc (.cells #[.int .i64 1, .int .i64 2, .int .i64 0] 3)).alloc (.cells #[.int .i64 2, .int .i64 0, .int .i64 1] 3)).alloc (.cells #[.int .i64 2, .int .i64 1, .int .i64 0] 3)).alloc (.cells #[.slice (some ⟨wr.heap.size, 0, none⟩) 3 3, .slice (some ⟨wr.heap.size + 1, 0, none⟩) 3 3, .slice (some ⟨wr.heap.size + 1 + 1, 0, none⟩) 3 3, .slice (some ⟨wr.heap.size + 1 + 1 + 1, 0, none⟩) 3 3, .slice (some ⟨wr.heap.size + 1 + 1 + 1 + 1, 0, none⟩) 3 3, .slice (some ⟨wr.heap.size + 1 + 1 + 1 + 1 + 1, 0, none⟩) 3 3] 26)).cell? ⟨wr.heap.size + 1 + 1 + 1 + 1 + 1 + 1, k, none⟩ = some (.slice (some ⟨wr.heap.size + k, 0, none⟩) 3 3) := perms_out wr k hk
              clear hpk hn1 hkn hzv hz64
              have HI7 : Hid (ApI base bl V P t0.b w i (perms wr)) := HR.out.gb (perms_gb wr)
              have hpi := perms_in wr k hk
              obtain ⟨a, ha⟩ : ∃ a, ordA k = a := ⟨_, rfl⟩
              obtain ⟨b, hb⟩ : ∃ b, ordB k = b := ⟨_, rfl⟩
              obtain ⟨c, hc⟩ : ∃ c, ordC k = c := ⟨_, rfl⟩
              obtain ⟨ha3, hb3, hc3⟩ := ord_lt k
              have htx := ord_txt hVl HVG.out k hk
              rw [ha, hb, hc] at hpi htx
              rw [ha] at ha3
              rw [hb] at hb3
              rw [hc] at hc3
              obtain ⟨t7, hbd7, htb7, hBl7, hrv7, hvw7, hlb7⟩ := HI7.out
              have x0 := labN_at hlb7 a ha3
              have x1 := labN_at hlb7 b hb3
              have x2 := labN_at hlb7 c hc3
              obtain ⟨p0, p1, p2⟩ := hpi
              clear hbd7 htb7 hBl7 hrv7 hvw7 hlb7 ha hb hc k0 k1 k2
              go_wp2_with fail
              refine HPK.out.mono ?_
              rintro e w4 ⟨rfl, hw4⟩
              have hw5 := hw4.symm
              subst hw5
              go_wp2_with fail
              rw [← perms_def wr]
              clear hK hzc
              generalize hW7 : perms wr = W7 at *
              clear hW7
              obtain ⟨x, hx⟩ : ∃ x, labN V a = x := ⟨_, rfl⟩
              obtain ⟨y, hy⟩ : ∃ y, labN V b = y := ⟨_, rfl⟩
              obtain ⟨z, hz'⟩ : ∃ z, labN V c = z := ⟨_, rfl⟩
              have lx := labN_len hVl a
              have ly := labN_len hVl b
              have lz := labN_len hVl c
              rw [hx] at x0 htx lx
              rw [hy] at x1 htx ly
              rw [hz'] at x2 htx lz
              rw [HP.out] at htx
              have c1 : ∀ w, (Op.stringOp .add ⟨#[104, 105, 116, 115, 123]⟩ (B x)).run Tryz.prog w = .ok (.string (B ([104, 105, 116, 115, 123] ++ x))) w := add_lists [104, 105, 116, 115, 123] x (by simp) (by omega)
              have c2 : ∀ w, (Op.stringOp .add (B ([104, 105, 116, 115, 123] ++ x)) ⟨#[44]⟩).run Tryz.prog w = .ok (.string (B ([104, 105, 116, 115, 123] ++ x ++ [44]))) w := add_lists _ [44] (by simp; omega) (by simp)
              have c3 : ∀ w, (Op.stringOp .add (B ([104, 105, 116, 115, 123] ++ x ++ [44])) (B y)).run Tryz.prog w = .ok (.string (B ([104, 105, 116, 115, 123] ++ x ++ [44] ++ y))) w := add_lists _ y (by simp; omega) (by omega)
              have c4 : ∀ w, (Op.stringOp .add (B ([104, 105, 116, 115, 123] ++ x ++ [44] ++ y)) ⟨#[44]⟩).run Tryz.prog w = .ok (.string (B ([104, 105, 116, 115, 123] ++ x ++ [44] ++ y ++ [44]))) w := add_lists _ [44] (by simp; omega) (by simp)
              have c5 : ∀ w, (Op.stringOp .add (B ([104, 105, 116, 115, 123] ++ x ++ [44] ++ y ++ [44])) (B z)).run Tryz.prog w = .ok (.string (B ([104, 105, 116, 115, 123] ++ x ++ [44] ++ y ++ [44] ++ z))) w := add_lists _ z (by simp; omega) (by omega)
              have c6 : ∀ w, (Op.stringOp .add (B ([104, 105, 116, 115, 123] ++ x ++ [44] ++ y ++ [44] ++ z)) ⟨#[125]⟩).run Tryz.prog w = .ok (.string (B (ser3 x y z))) w := add_lists _ [125] (by simp; omega) (by simp)
              generalize ser3 x y z = S at c6 htx
              generalize [104, 105, 116, 115, 123] ++ x ++ [44] ++ y ++ [44] ++ z = Q6 at c5 c6
              generalize [104, 105, 116, 115, 123] ++ x ++ [44] ++ y ++ [44] = Q5 at c4 c5
              generalize [104, 105, 116, 115, 123] ++ x ++ [44] ++ y = Q4 at c3 c4
              generalize [104, 105, 116, 115, 123] ++ x ++ [44] = Q3 at c2 c3
              generalize [104, 105, 116, 115, 123] ++ x = Q2 at c1 c2
              have HPL : Hid (∀ W', Calls Tryz.prog 26 #[.string (B S)] W' fun e w' => e = .returned (.tuple #[.string (B P), .int .i64 0, .int .i64 0]) ∧ Below W'.heap.size W' w') := fun W' => (plain_any (B S) W').mono fun e w' ⟨he, hb⟩ => ⟨by rw [he, data_B, htx.plain, htx.err]; rfl, hb⟩
              have HCH : Hid (∀ W', ApI base bl V P t0.b w i W' → Calls Tryz.prog 20 #[.pointer (some ⟨t0.b, 0, none⟩), .string (B S), .int .i64 2] W' fun e w' => e = .returned (.int .i64 0) ∧ ApI base bl V P t0.b w (i + 1) w') := fun W' hW' => hW'.chg htx (by omega)
              have hai : (a : Int) < 3 := by omega
              have hbi : (b : Int) < 3 := by omega
              have hci : (c : Int) < 3 := by omega
              clear htx hx hy hz' lx ly lz b1 b2 b3 b4 b5 b6
              go_quiet (fail)
              go_wp2_with fail
              refine (HPL.out _).mono ?_
              rintro e w8 ⟨rfl, hb8⟩
              have HA8 : Hid (ApI base bl V P t0.b w i w8) := (HI7.out.gb (gb_drewN _ _ _)).bl hb8
              clear hb8
              go_wp2_with fail
              refine (HCH.out _ HA8.out).mono ?_
              rintro e w9 ⟨rfl, h9⟩
              have H9 : Hid (ApI base bl V P t0.b w (i + 1) w9) := h9
              clear h9
              go_wp2
              go_roundw
              case rel => exact ⟨i + 1, by rw [show 2 * ((i + 1 : Nat) : Int) = 2 * (i : Int) + 2 by omega], by go_num, by omega, H9.out⟩
              case measure => simp [intOf]; omega
            · have hzl' : ¬ (i : Int) < (zs.length : Int) := by omega
              obtain ⟨k, hk, hk0⟩ : ∃ k, k < 6 ∧ k = 0 := ⟨0, by omega, rfl⟩
              have HI7 : Hid (ApI base bl V P t0.b w i (perms wr)) := HR.out.gb (perms_gb wr)
              have hpi := perms_in wr 0 (by omega)
              obtain ⟨a, ha⟩ : ∃ a, ordA 0 = a := ⟨_, rfl⟩
              obtain ⟨b, hb⟩ : ∃ b, ordB 0 = b := ⟨_, rfl⟩
              obtain ⟨c, hc⟩ : ∃ c, ordC 0 = c := ⟨_, rfl⟩
              obtain ⟨ha3, hb3, hc3⟩ := ord_lt 0
              have htx := ord_txt hVl HVG.out 0 (by omega)
              rw [ha, hb, hc] at hpi htx
              rw [ha] at ha3
              rw [hb] at hb3
              rw [hc] at hc3
              obtain ⟨t7, hbd7, htb7, hBl7, hrv7, hvw7, hlb7⟩ := HI7.out
              have x0 := labN_at hlb7 a ha3
              have x1 := labN_at hlb7 b hb3
              have x2 := labN_at hlb7 c hc3
              obtain ⟨p0, p1, p2⟩ := hpi
              simp only [Nat.add_zero] at p0 p1 p2
              clear hbd7 htb7 hBl7 hrv7 hvw7 hlb7 ha hb hc k0 k1 k2
              go_wp2_with fail
              rw [← perms_def wr]
              generalize hW7 : perms wr = W7 at *
              clear hW7
              obtain ⟨x, hx⟩ : ∃ x, labN V a = x := ⟨_, rfl⟩
              obtain ⟨y, hy⟩ : ∃ y, labN V b = y := ⟨_, rfl⟩
              obtain ⟨z, hz'⟩ : ∃ z, labN V c = z := ⟨_, rfl⟩
              have lx := labN_len hVl a
              have ly := labN_len hVl b
              have lz := labN_len hVl c
              rw [hx] at x0 htx lx
              rw [hy] at x1 htx ly
              rw [hz'] at x2 htx lz
              rw [HP.out] at htx
              have c1 : ∀ w, (Op.stringOp .add ⟨#[104, 105, 116, 115, 123]⟩ (B x)).run Tryz.prog w = .ok (.string (B ([104, 105, 116, 115, 123] ++ x))) w := add_lists [104, 105, 116, 115, 123] x (by simp) (by omega)
              have c2 : ∀ w, (Op.stringOp .add (B ([104, 105, 116, 115, 123] ++ x)) ⟨#[44]⟩).run Tryz.prog w = .ok (.string (B ([104, 105, 116, 115, 123] ++ x ++ [44]))) w := add_lists _ [44] (by simp; omega) (by simp)
              have c3 : ∀ w, (Op.stringOp .add (B ([104, 105, 116, 115, 123] ++ x ++ [44])) (B y)).run Tryz.prog w = .ok (.string (B ([104, 105, 116, 115, 123] ++ x ++ [44] ++ y))) w := add_lists _ y (by simp; omega) (by omega)
              have c4 : ∀ w, (Op.stringOp .add (B ([104, 105, 116, 115, 123] ++ x ++ [44] ++ y)) ⟨#[44]⟩).run Tryz.prog w = .ok (.string (B ([104, 105, 116, 115, 123] ++ x ++ [44] ++ y ++ [44]))) w := add_lists _ [44] (by simp; omega) (by simp)
              have c5 : ∀ w, (Op.stringOp .add (B ([104, 105, 116, 115, 123] ++ x ++ [44] ++ y ++ [44])) (B z)).run Tryz.prog w = .ok (.string (B ([104, 105, 116, 115, 123] ++ x ++ [44] ++ y ++ [44] ++ z))) w := add_lists _ z (by simp; omega) (by omega)
              have c6 : ∀ w, (Op.stringOp .add (B ([104, 105, 116, 115, 123] ++ x ++ [44] ++ y ++ [44] ++ z)) ⟨#[125]⟩).run Tryz.prog w = .ok (.string (B (ser3 x y z))) w := add_lists _ [125] (by simp; omega) (by simp)
              generalize ser3 x y z = S at c6 htx
              generalize [104, 105, 116, 115, 123] ++ x ++ [44] ++ y ++ [44] ++ z = Q6 at c5 c6
              generalize [104, 105, 116, 115, 123] ++ x ++ [44] ++ y ++ [44] = Q5 at c4 c5
              generalize [104, 105, 116, 115, 123] ++ x ++ [44] ++ y = Q4 at c3 c4
              generalize [104, 105, 116, 115, 123] ++ x ++ [44] = Q3 at c2 c3
              generalize [104, 105, 116, 115, 123] ++ x = Q2 at c1 c2
              have HPL : Hid (∀ W', Calls Tryz.prog 26 #[.string (B S)] W' fun e w' => e = .returned (.tuple #[.string (B P), .int .i64 0, .int .i64 0]) ∧ Below W'.heap.size W' w') := fun W' => (plain_any (B S) W').mono fun e w' ⟨he, hb⟩ => ⟨by rw [he, data_B, htx.plain, htx.err]; rfl, hb⟩
              have HCH : Hid (∀ W', ApI base bl V P t0.b w i W' → Calls Tryz.prog 20 #[.pointer (some ⟨t0.b, 0, none⟩), .string (B S), .int .i64 2] W' fun e w' => e = .returned (.int .i64 0) ∧ ApI base bl V P t0.b w (i + 1) w') := fun W' hW' => hW'.chg htx (by omega)
              have hai : (a : Int) < 3 := by omega
              have hbi : (b : Int) < 3 := by omega
              have hci : (c : Int) < 3 := by omega
              clear htx hx hy hz' lx ly lz b1 b2 b3 b4 b5 b6
              go_quiet (fail)
              go_wp2_with fail
              refine (HPL.out _).mono ?_
              rintro e w8 ⟨rfl, hb8⟩
              have HA8 : Hid (ApI base bl V P t0.b w i w8) := (HI7.out.gb (gb_drewN _ _ _)).bl hb8
              clear hb8
              go_wp2_with fail
              refine (HCH.out _ HA8.out).mono ?_
              rintro e w9 ⟨rfl, h9⟩
              have H9 : Hid (ApI base bl V P t0.b w (i + 1) w9) := h9
              clear h9
              go_wp2
              go_roundw
              case rel => exact ⟨i + 1, by rw [show 2 * ((i + 1 : Nat) : Int) = 2 * (i : Int) + 2 by omega], by go_num, by omega, H9.out⟩
              case measure => simp [intOf]; omega
          · have hli : ¬ (i : Int) < (zs.length : Int) + 1 := by omega
            have hi0 : i ≠ 0 := by omega
            have hne : P ≠ otT := by rw [← HP.out]; exact ser3_ne V
            have hPt : Txt 0 P P := by have := ord_txt hVl HVG.out 0 (by omega); rw [← HP.out]; exact this
            have hPl : P.length ≤ 34 := by rw [← HP.out, ser3_len]; omega
            have hN64 : I64 (2 * (i : Int)) := ⟨by omega, by omega⟩
            have hIL : (Lib.itoa (2 * (i : Int))).length ≤ 21 := itoa_len hN64
            have T0 : Hid (ApT base t0.b w i (rows2 [cP P (2 * (i : Int))]) [] wr) := HR.out.tail hi0
            have d1 : ∀ w, (Op.stringOp .add (B P) ⟨#[32]⟩).run Tryz.prog w = .ok (.string (B (P ++ [32]))) w := add_lists P [32] (by omega) (by simp)
            have d2 : ∀ w, (Op.stringOp .add (B (P ++ [32])) (B (Lib.itoa (2 * (i : Int))))).run Tryz.prog w = .ok (.string (B (P ++ [32] ++ Lib.itoa (2 * (i : Int))))) w := add_lists _ _ (by simp; omega) (by omega)
            have d3 : ∀ w, (Op.stringOp .add (B P) ⟨#[32, 49]⟩).run Tryz.prog w = .ok (.string (B (P ++ [32, 49]))) w := add_lists P [32, 49] (by omega) (by simp)
            have hC1 := T0.out.chg (s := otT) (ap_other hne _) (by omega)
            rw [otB] at hC1
            have HC1 : Hid (Calls Tryz.prog 20 #[.pointer (some ⟨t0.b, 0, none⟩), .string ⟨#[104, 105, 116, 115, 123, 97, 61, 34, 111, 116, 104, 101, 114, 34, 125]⟩, .int .i64 7] wr _) := hC1
            have HNE : Hid (P ≠ otT) := hne
            have HPT : Hid (Txt 0 P P) := hPt
            have HLX : Hid (_ ∧ _ ∧ _) := ap_lines (P := P) (2 * (i : Int))
            have HLY : Hid (_ ∧ _ ∧ _) := ap_lines (P := P) 1
            obtain ⟨FX, hFX⟩ : ∃ FX, rows2 (both P (2 * (i : Int))) = FX := ⟨_, rfl⟩
            have HFX : Hid (rows2 (both P (2 * (i : Int))) = FX) := hFX
            rw [hFX] at HC1 HLX
            obtain ⟨FY, hFY⟩ : ∃ FY, rows2 (both P 1) = FY := ⟨_, rfl⟩
            have HFY : Hid (rows2 (both P 1) = FY) := hFY
            rw [hFY] at HLY
            clear hC1 hne hPt hPl hIL HR T0 hFX hFY
            go_wp2_with fail
            refine HC1.out.mono ?_
            rintro e w1 ⟨rfl, h1⟩
            have T1 : Hid (ApT base t0.b w (i + 1) FX [] w1) := h1
            have HC2 : Hid (Calls Tryz.prog 14 #[.pointer (some ⟨t0.b, 0, none⟩), .int .i64 20] w1 _) := T1.out.whole HLX.out.1 (by omega) (by omega)
            clear h1 HC1
            go_wp2_with fail
            refine HC2.out.mono ?_
            rintro e w2 ⟨xa, xc, rfl, sx, h2⟩
            have T2 : Hid (ApT base t0.b w (i + 1 + 1) FX [(sx, .slice xa 5 xc, linesP FX)] w2) := h2
            have HC3 : Hid (Calls Tryz.prog 27 #[.pointer (some ⟨t0.b, 0, none⟩), .string (B P)] w2 _) := T2.out.drp (code := 0) (V' := rows2 [cP otT 7]) (HFX.out ▸ ap_drop HNE.out HPT.out _)
            clear h2 HC2 T1
            go_wp2_with fail
            refine HC3.out.mono ?_
            rintro e w3 ⟨rfl, h3⟩
            have T3 : Hid (ApT base t0.b w (i + 1 + 1) (rows2 [cP otT 7]) [(sx, .slice xa 5 xc, linesP FX)] w3) := h3
            have HC4 : Hid (Calls Tryz.prog 27 #[.pointer (some ⟨t0.b, 0, none⟩), .string (B P)] w3 _) := T3.out.drp (ap_gone HNE.out HPT.out)
            clear h3 HC3 T2
            go_wp2_with fail
            refine HC4.out.mono ?_
            rintro e w4 ⟨rfl, h4⟩
            have T4 : Hid (ApT base t0.b w (i + 1 + 1) (rows2 [cP otT 7]) [(sx, .slice xa 5 xc, linesP FX)] w4) := h4
            have HC5 : Hid (Calls Tryz.prog 20 #[.pointer (some ⟨t0.b, 0, none⟩), .string (B P), .int .i64 1] w4 _) := T4.out.chg (code := 0) (V' := FY) (by rw [ap_anew HNE.out HPT.out, HFY.out]) (by omega)
            clear h4 HC4 T3
            go_wp2_with fail
            refine HC5.out.mono ?_
            rintro e w5 ⟨rfl, h5⟩
            have T5 : Hid (ApT base t0.b w (i + 1 + 1 + 1) FY [(sx, .slice xa 5 xc, linesP FX)] w5) := h5
            have HC6 : Hid (Calls Tryz.prog 14 #[.pointer (some ⟨t0.b, 0, none⟩), .int .i64 20] w5 _) := T5.out.whole HLY.out.1 (by omega) (by omega)
            clear h5 HC5 T4
            go_wp2_with fail
            refine HC6.out.mono ?_
            rintro e w6 ⟨ya, yc, rfl, sy, h6⟩
            have T6 : Hid (ApT base t0.b w (i + 1 + 1 + 1 + 1) FY [(sy, .slice ya 5 yc, linesP FY), (sx, .slice xa 5 xc, linesP FX)] w6) := h6
            have HC7 : Hid (Calls Tryz.prog 24 #[.int .i64 (2 * (i : Int))] w6 _) := T6.out.itoa _ hN64
            clear h6 HC6 T5 hN64
            go_wp2_with fail
            refine HC7.out.mono ?_
            rintro e w7 ⟨rfl, h7⟩
            have T7 : Hid (ApT base t0.b w (i + 1 + 1 + 1 + 1) FY [(sy, .slice ya 5 yc, linesP FY), (sx, .slice xa 5 xc, linesP FX)] w7) := h7
            have HC8 : Hid (Calls Tryz.prog 21 #[.slice xa 5 xc, .string (B (P ++ [32] ++ Lib.itoa (2 * (i : Int))))] w7 _) := T7.out.inn (r := (sx, .slice xa 5 xc, linesP FX)) (by simp) (by rw [HLX.out.1]; omega) HLX.out.2.1
            have hq := T7.out.inn (r := (sx, .slice xa 5 xc, linesP FX)) (by simp) (by rw [HLX.out.1]; omega) HLX.out.2.2
            rw [otB7] at hq
            have HC9 : Hid (Calls Tryz.prog 21 #[.slice xa 5 xc, .string ⟨#[104, 105, 116, 115, 123, 97, 61, 34, 111, 116, 104, 101, 114, 34, 125, 32, 55]⟩] w7 _) := hq
            have hr := HLY.out.2.1
            rw [itoa1, List.append_assoc] at hr
            have HC10 : Hid (Calls Tryz.prog 21 #[.slice ya 5 yc, .string (B (P ++ [32, 49]))] w7 _) := T7.out.inn (r := (sy, .slice ya 5 yc, linesP FY)) (by simp) (by rw [HLY.out.1]; omega) hr
            clear h7 HC7 T6 hq hr
            generalize B (P ++ [32] ++ Lib.itoa (2 * (i : Int))) = S1 at d2 HC8
            generalize B (P ++ [32]) = S2 at d1 d2
            generalize B (P ++ [32, 49]) = S3 at d3 HC10
            go_wp2_with fail
            refine HC8.out.mono ?_
            rintro e w8 ⟨rfl, rfl⟩
            go_wp2_with fail
            refine HC9.out.mono ?_
            rintro e w9 ⟨rfl, rfl⟩
            go_wp2_with fail
            refine HC10.out.mono ?_
            rintro e w10 ⟨rfl, rfl⟩
            go_wp2
            go_ret
            exact ⟨rfl, T7.out.below⟩

end Go.Proofs.YtcfdemhokbddiaaGreatDoor
