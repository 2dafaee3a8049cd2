/-
  Shuffled: the law walks to true.
-/
import Derived.Test.YtcfdemhokbddiaaGreatDoorQUl

namespace Go.Proofs.YtcfdemhokbddiaaGreatDoor
open Go.RowKit

/-- Behind i changes on each. -/
def ShI (base bB bC : Nat) (w : World) (gB gC : Nat → Ch) (i : Nat) (wr : World) : Prop :=
  ∃ t c, Two base i i bB bC w wr t c ∧ t.view = vS gB i ∧ c.view = vS gC i ∧ t.rview = [none, none, none] ∧ c.rview = [none, none, none]
theorem vS_congr {g h : Nat → Ch} {n : Nat} (e : ∀ q, q < n → g q = h q) : vS g n = vS h n := by
  unfold vS
  rw [List.map_congr_left fun q hq => e q (List.mem_range.1 hq)]

set_option maxRecDepth 100000 in
set_option maxHeartbeats 8000000 in
theorem shuffled_law (acts : List AA) (z : Int) (back : Bool) (va : Value) (w : World) (ha : ActsAt w.heap.size w va acts) (hz : I64 z) (ht : Tab w) (hal : acts.length ≤ 17592186044416) :
    Calls Tryz.prog 8 #[va, .int .i64 z, .bool back] w fun e w' => e = .returned (.bool true) ∧ Below w.heap.size w w' := by
  obtain ⟨base, hbase⟩ : ∃ base, w.heap.size = base := ⟨_, rfl⟩
  have hpos : 0 < base := by rw [← hbase]; exact ht.lt
  have HBG : Hid (Calls Tryz.prog 12 #[] w _) := begun_any base w ht hpos (by omega)
  rw [hbase] at ha ⊢
  have HA : Hid (ActsAt base w va acts) := ha
  obtain ⟨aa, ac, rfl, _⟩ := id ha
  have HBS : Hid (w.heap.size = base) := hbase
  obtain ⟨N, hN⟩ : ∃ N, min acts.length 1000 = N := ⟨_, rfl⟩
  have hmin : min (acts.length : Int) 1000 = (N : Int) := by omega
  have hNl : N ≤ acts.length := by omega
  have hNk : N ≤ 1000 := by omega
  obtain ⟨hf1, hf2⟩ := pickP_bound z ((N : Int) + 1) (by omega)
  obtain ⟨f, hf⟩ : ∃ f : Nat, pickP z ((N : Int) + 1) = (f : Int) := ⟨(pickP z ((N : Int) + 1)).toNat, by omega⟩
  have hfN : f ≤ N := by omega
  have hpk : ∀ w, Calls Tryz.prog 23 #[.int .i64 z, .int .i64 ((N : Int) + 1)] w fun e w' => e = .returned (.int .i64 (f : Int)) ∧ w' = w := fun w => by
    rw [← hf]; exact kpick_any z ((N : Int) + 1) w hz (by omega) (by omega)
  have HPKA : Hid (∀ w, Calls Tryz.prog 23 #[.int .i64 z, .int .i64 ((N : Int) + 1)] w fun e w' => e = .returned (.int .i64 (f : Int)) ∧ w' = w) := hpk
  obtain ⟨gB, hgB⟩ : ∃ gB : Nat → Ch, gB = fun q => if q < N then chOf acts q else chOf acts acts.length := ⟨_, rfl⟩
  obtain ⟨gC, hgCe⟩ : ∃ gC : Nat → Ch, gC = fun q => if q < N then chOf acts (ordr N f back q) else chOf acts acts.length := ⟨_, rfl⟩
  have hgBo : ∀ q, ChOk (gB q) := fun q => by rw [hgB]; show ChOk (if q < N then _ else _); split <;> exact chOf_ok _ _
  have hgC : ∀ q, ChOk (gC q) := fun q => by rw [hgCe]; show ChOk (if q < N then _ else _); split <;> exact chOf_ok _ _
  have HGB : Hid (∀ q, (q < N → gB q = chOf acts q ∧ gC q = chOf acts (ordr N f back q)) ∧ (¬ q < N → gB q = chOf acts acts.length ∧ gC q = chOf acts acts.length)) := fun q => by
    rw [hgB, hgCe]
    exact ⟨fun h => ⟨if_pos h, if_pos h⟩, fun h => ⟨if_neg h, if_neg h⟩⟩
  clear ha ht hbase hf hpk hgB hgCe hN hf1 hf2
  go_enter Tryz.func8, Tryz.ntmps8
  go_wp2_with fail
  refine HBG.out.mono ?_
  rintro e w0 ⟨t0, rfl, g0, hb0, hv0, hr0, ho0⟩
  have HBG2 : Hid (Calls Tryz.prog 12 #[] w0 _) := begun_any base w0 hb0.tab hpos hb0.size
  have HT0 : Hid (Bd base 0 w0 t0 ∧ t0.view = V0 ∧ t0.rview = [none, none, none] ∧ Below base w w0) := ⟨hb0, hv0, hr0, gb_below g0 (by rw [HBS.out]; exact Nat.le_refl _)⟩
  clear hb0 g0 hv0 hr0 HBG ho0
  go_wp2_with fail
  refine HBG2.out.mono ?_
  rintro e w1 ⟨c0, rfl, g1, hc0, hcv0, hcr0, ho1⟩
  have HI0 : Hid (ShI base t0.b c0.b w gB gC 0 w1) := by
    obtain ⟨h1, h2, h3, h4⟩ := HT0.out
    refine ⟨t0, c0, ⟨h1.gb g1, hc0, fun b hb hm => ?_, rfl, rfl, h4.trans (gb_below g1 h1.size)⟩, h2, hcv0, h3, hcr0⟩
    have := h1.lt b hb
    have := ho1 b hm
    omega
  clear HBG2 HT0 g1 hc0 hcv0 hcr0 ho1
  go_wp2_with fail
  go_loopw [10] (fun v wr => ∃ i : Nat, v = .int .i64 (i : Int) ∧ i ≤ N + 1 ∧ Hid (ShI base t0.b c0.b w gB gC i wr)) (fun v _ => N + 1 - (intOf v).toNat)
  case atStart => exact ⟨0, rfl, Nat.zero_le _, HI0.out⟩
  case round =>
    obtain ⟨i, rfl, hi, HR⟩ := hrel
    clear HI0
    obtain ⟨t1, c1, h2, hvt, hvc, hrt, hrc⟩ := HR.out
    have hkb : KV A5 t1.view := by rw [hvt]; exact (vS_rel gB hgBo i).1
    have hkc : KV A5 c1.view := by rw [hvc]; exact (vS_rel gC hgC i).1
    by_cases hlt : i < N
    · have hli : (i : Int) < (N : Int) + 1 := by omega
      have hli2 : (i : Int) < (N : Int) := by omega
      have hne : ((i : Int) == (N : Int)) = false := beq_eq_false_iff_ne.2 (by omega)
      have hN0 : (N : Int) ≠ 0 := by omega
      have hN1 : ((N : Int) == 0) = false := beq_eq_false_iff_ne.2 hN0
      obtain ⟨k, hk⟩ : ∃ k, (i + f) % N = k := ⟨_, rfl⟩
      have hkN : k < N := by rw [← hk]; exact Nat.mod_lt _ (by omega)
      have hmod : ((i : Int) + (f : Int)).tmod (N : Int) = (k : Int) := by
        rw [← hk, Int.tmod_eq_emod_of_nonneg (by omega)]; simp
      have HPK : Hid (Calls Tryz.prog 23 #[.int .i64 z, .int .i64 ((N : Int) + 1)] wr fun e w' => e = .returned (.int .i64 (f : Int)) ∧ w' = wr) := HPKA.out wr
      have HG1 := ((HGB.out i).1 hlt).1
      have HG2 := ((HGB.out i).1 hlt).2
      cases back with
      | false =>
        have HG3 : gC i = chOf acts k := by rw [HG2, ← hk]; rfl
        have HH1 : Hid (chOf acts i = gB i) := HG1.symm
        have HH3 : Hid (chOf acts k = gC i) := HG3.symm
        clear HG1 HG2 HG3 hk
        have hco := counted_any base i t1 acts (.slice aa acts.length ac) i wr h2.bt (by omega) (HA.out.below h2.low) hkb
        rw [h2.tb, HH1.out, hvt, ← vS_succ] at hco
        have HCB : Hid (Calls Tryz.prog 25 #[.pointer (some ⟨t0.b, 0, none⟩), .slice aa acts.length ac, .int .i64 (i : Int)] wr _) := hco
        have HX : Hid (Two base i i t0.b c0.b w wr t1 c1 ∧ c1.view = vS gC i ∧ t1.rview = [none, none, none] ∧ c1.rview = [none, none, none]) := ⟨h2, hvc, hrt, hrc⟩
        clear hco h2 hvt hvc hrt hrc hkb hkc HR
        go_wp2_with fail
        refine HPK.out.mono ?_
        rintro e wq ⟨rfl, hwq⟩
        subst hwq
        go_wp2_with fail
        refine HCB.out.mono ?_
        rintro e w2 ⟨rfl, t2, hst, hr2, hv2, hk2⟩
        have htw := HX.out.1.left hst
        have hco := counted_any base i c1 acts (.slice aa acts.length ac) k w2 htw.bc (by omega) (HA.out.below htw.low) (by rw [HX.out.2.1]; exact (vS_rel gC hgC i).1)
        rw [htw.cb, HX.out.2.1, HH3.out, ← vS_succ] at hco
        have HCC : Hid (Calls Tryz.prog 25 #[.pointer (some ⟨c0.b, 0, none⟩), .slice aa acts.length ac, .int .i64 (k : Int)] w2 _) := hco
        have HX2 : Hid (Two base (i + 1) i t0.b c0.b w w2 t2 c1 ∧ t2.view = vS gB (i + 1) ∧ t2.rview = [none, none, none] ∧ c1.rview = [none, none, none]) := ⟨htw, hv2, hr2.trans HX.out.2.2.1, HX.out.2.2.2⟩
        clear hco htw hst hr2 hv2 hk2
        go_wp2_with fail
        refine HCC.out.mono ?_
        rintro e w3 ⟨rfl, c3, hst, hr3, hv3, hk3⟩
        have HN : Hid (ShI base t0.b c0.b w gB gC (i + 1) w3) := ⟨t2, c3, HX2.out.1.right hst, HX2.out.2.1, hv3, HX2.out.2.2.1, hr3.trans HX2.out.2.2.2⟩
        clear hst hr3 hv3 hk3 HX HX2 HCB HCC
        go_wp2
        go_roundw
        case rel => exact ⟨i + 1, by go_num, by omega, HN.out⟩
        case measure => first | (simp [intOf]; done) | (simp [intOf]; omega)
      | true =>
        have HG3 : gC i = chOf acts (N - 1 - k) := by rw [HG2, ← hk]; rfl
        have HH1 : Hid (chOf acts i = gB i) := HG1.symm
        have HH3 : Hid (chOf acts (N - 1 - k) = gC i) := HG3.symm
        clear HG1 HG2 HG3 hk
        have hco := counted_any base i t1 acts (.slice aa acts.length ac) i wr h2.bt (by omega) (HA.out.below h2.low) hkb
        rw [h2.tb, HH1.out, hvt, ← vS_succ] at hco
        have HCB : Hid (Calls Tryz.prog 25 #[.pointer (some ⟨t0.b, 0, none⟩), .slice aa acts.length ac, .int .i64 (i : Int)] wr _) := hco
        have HX : Hid (Two base i i t0.b c0.b w wr t1 c1 ∧ c1.view = vS gC i ∧ t1.rview = [none, none, none] ∧ c1.rview = [none, none, none]) := ⟨h2, hvc, hrt, hrc⟩
        clear hco h2 hvt hvc hrt hrc hkb hkc HR
        go_wp2_with fail
        refine HPK.out.mono ?_
        rintro e wq ⟨rfl, hwq⟩
        subst hwq
        go_wp2_with fail
        refine HCB.out.mono ?_
        rintro e w2 ⟨rfl, t2, hst, hr2, hv2, hk2⟩
        have htw := HX.out.1.left hst
        have hco := counted_any base i c1 acts (.slice aa acts.length ac) (N - 1 - k) w2 htw.bc (by omega) (HA.out.below htw.low) (by rw [HX.out.2.1]; exact (vS_rel gC hgC i).1)
        rw [htw.cb, HX.out.2.1, HH3.out, ← vS_succ] at hco
        rw [show ((N - 1 - k : Nat) : Int) = (N : Int) - 1 - (k : Int) by omega] at hco
        have HCC : Hid (Calls Tryz.prog 25 #[.pointer (some ⟨c0.b, 0, none⟩), .slice aa acts.length ac, .int .i64 ((N : Int) - 1 - (k : Int))] w2 _) := hco
        have HX2 : Hid (Two base (i + 1) i t0.b c0.b w w2 t2 c1 ∧ t2.view = vS gB (i + 1) ∧ t2.rview = [none, none, none] ∧ c1.rview = [none, none, none]) := ⟨htw, hv2, hr2.trans HX.out.2.2.1, HX.out.2.2.2⟩
        clear hco htw hst hr2 hv2 hk2
        go_wp2_with fail
        refine HCC.out.mono ?_
        rintro e w3 ⟨rfl, c3, hst, hr3, hv3, hk3⟩
        have HN : Hid (ShI base t0.b c0.b w gB gC (i + 1) w3) := ⟨t2, c3, HX2.out.1.right hst, HX2.out.2.1, hv3, HX2.out.2.2.1, hr3.trans HX2.out.2.2.2⟩
        clear hst hr3 hv3 hk3 HX HX2 HCB HCC
        go_wp2
        go_roundw
        case rel => exact ⟨i + 1, by go_num, by omega, HN.out⟩
        case measure => first | (simp [intOf]; done) | (simp [intOf]; omega)
    · by_cases hiN : i = N
      · subst hiN
        have hli : (i : Int) < (i : Int) + 1 := by omega
        have HH1 : Hid (chOf acts acts.length = gB i) := ((HGB.out i).2 hlt).1.symm
        have HH3 : Hid (chOf acts acts.length = gC i) := ((HGB.out i).2 hlt).2.symm
        have hco := counted_any base i t1 acts (.slice aa acts.length ac) acts.length wr h2.bt (by omega) (HA.out.below h2.low) hkb
        rw [h2.tb, HH1.out, hvt, ← vS_succ] at hco
        have HCB : Hid (Calls Tryz.prog 25 #[.pointer (some ⟨t0.b, 0, none⟩), .slice aa acts.length ac, .int .i64 (acts.length : Int)] wr _) := hco
        have HX : Hid (Two base i i t0.b c0.b w wr t1 c1 ∧ c1.view = vS gC i ∧ t1.rview = [none, none, none] ∧ c1.rview = [none, none, none]) := ⟨h2, hvc, hrt, hrc⟩
        clear hco h2 hvt hvc hrt hrc hkb hkc HR
        go_wp2_with fail
        refine HCB.out.mono ?_
        rintro e w2 ⟨rfl, t2, hst, hr2, hv2, hk2⟩
        have htw := HX.out.1.left hst
        have hco := counted_any base i c1 acts (.slice aa acts.length ac) acts.length w2 htw.bc (by omega) (HA.out.below htw.low) (by rw [HX.out.2.1]; exact (vS_rel gC hgC i).1)
        rw [htw.cb, HX.out.2.1, HH3.out, ← vS_succ] at hco
        have HCC : Hid (Calls Tryz.prog 25 #[.pointer (some ⟨c0.b, 0, none⟩), .slice aa acts.length ac, .int .i64 (acts.length : Int)] w2 _) := hco
        have HX2 : Hid (Two base (i + 1) i t0.b c0.b w w2 t2 c1 ∧ t2.view = vS gB (i + 1) ∧ t2.rview = [none, none, none] ∧ c1.rview = [none, none, none]) := ⟨htw, hv2, hr2.trans HX.out.2.2.1, HX.out.2.2.2⟩
        clear hco htw hst hr2 hv2 hk2
        go_wp2_with fail
        refine HCC.out.mono ?_
        rintro e w3 ⟨rfl, c3, hst, hr3, hv3, hk3⟩
        have HN : Hid (ShI base t0.b c0.b w gB gC (i + 1) w3) := ⟨t2, c3, HX2.out.1.right hst, HX2.out.2.1, hv3, HX2.out.2.2.1, hr3.trans HX2.out.2.2.2⟩
        clear hst hr3 hv3 hk3 HX HX2 HCB HCC
        go_wp2
        go_roundw
        case rel => exact ⟨i + 1, by go_num, by omega, HN.out⟩
        case measure => first | (simp [intOf]; done) | (simp [intOf]; omega)
      · have hli : ¬ (i : Int) < (N : Int) + 1 := by omega
        obtain rfl : i = N + 1 := by omega
        have hVV : vS gC (N + 1) = vS gB (N + 1) := by
          rw [vS_succ, vS_succ, ((HGB.out N).2 (by omega)).1, ((HGB.out N).2 (by omega)).2, vS_congr (g := gC) (h := fun q => chOf acts (ordr N f back q)) (fun q hq => ((HGB.out q).1 hq).2), vS_congr (g := gB) (h := chOf acts) (fun q hq => ((HGB.out q).1 hq).1),
            vS_perm (chOf acts) (chOf_ok acts) (ordr N f back) N (ordr_perm N f back hfN)]
        have hL4 : 4 ≤ (linesP (vS gB (N + 1))).length := by
          rw [vS_succ, ((HGB.out N).2 (by omega)).1, show chOf acts acts.length = (0, serT 0 0, 1) from dif_neg (by omega)]
          exact four_lines (vS_rel gB hgBo N).1 (vS_rel gB hgBo N).2
        have hL40 := (hkb.lines A5_len).2
        rw [hvt] at hL40
        rw [hVV] at hvc
        generalize vS gB (N + 1) = V1 at *
        have hwh := whole_any base (N + 1) 0 t1 5 wr h2.bt (by omega) (by rw [hrt]; rfl) (by omega) (by rw [hvt]; omega) ⟨by omega, by omega⟩
        rw [h2.tb, hvt] at hwh
        have HWH : Hid (Calls Tryz.prog 14 #[.pointer (some ⟨t0.b, 0, none⟩), .int .i64 5] wr _) := hwh
        have HX : Hid (Two base (N + 1) (N + 1) t0.b c0.b w wr t1 c1 ∧ c1.view = V1 ∧ c1.rview = [none, none, none]) := ⟨h2, hvc, hrc⟩
        clear hwh h2 hvt hvc hrt hrc HR hkb hkc hVV
        go_wp2_with fail
        refine HWH.out.mono ?_
        rintro e w2 ⟨t2, vl, rfl, hst2, hv2, hr2, hrow2, _⟩
        obtain ⟨la, lc, rfl, _, _⟩ := own_shape1 hrow2
        have htw := HX.out.1.left hst2
        have HR2 : Hid (Row c1 w2 wr.heap.size (.slice la (linesP V1).length lc) (linesP V1)) := ⟨hrow2, fun b hb hm => by
          have h1 := HX.out.1.bc.lt b hm
          have h3 := (hrow2.lt b (by simpa using hb)).1
          omega⟩
        have hwh := whole_any base (N + 1) 0 c1 9 w2 htw.bc (by omega) (by rw [HX.out.2.2]; rfl) (by omega) (by rw [HX.out.2.1]; omega) ⟨by omega, by omega⟩
        rw [htw.cb, HX.out.2.1] at hwh
        have HWH2 : Hid (Calls Tryz.prog 14 #[.pointer (some ⟨c0.b, 0, none⟩), .int .i64 9] w2 _) := hwh
        have HX2 : Hid (Two base (N + 1 + 1) (N + 1) t0.b c0.b w w2 t2 c1) := htw
        clear hwh htw hst2 hv2 hr2 hrow2 HX HWH
        go_wp2_with fail
        refine HWH2.out.mono ?_
        rintro e w3 ⟨c3, vm, rfl, hst3, _, _, hrow3, _⟩
        obtain ⟨ma, mc, rfl, _, _⟩ := own_shape1 hrow3
        have hrL := HR2.out.stp hst3
        have HSA : Hid (Calls Tryz.prog 19 #[.slice la (linesP V1).length lc, .slice ma (linesP V1).length mc] w3 _) := same_any _ _ (linesP V1) (linesP V1) w3 hrL.strAt (strAt_of hrow3).2 (by omega)
        have htw3 := HX2.out.right hst3
        have HBL : Hid (Below base w w3 ∧ base ≤ w3.heap.size) := ⟨htw3.low, htw3.bt.size⟩
        have h3 : (4 : Int) ≤ ((linesP V1).length : Int) := by omega
        clear hrL htw3 hst3 hrow3 HR2 HX2 HWH2
        go_wp2_with fail
        refine HSA.out.mono ?_
        rintro e wG ⟨rfl, gG⟩
        have HBG : Hid (Below base w wG) := HBL.out.1.trans (gb_below gG HBL.out.2)
        clear gG
        go_wp2
        go_ret
        exact ⟨rfl, HBG.out⟩

end Go.Proofs.YtcfdemhokbddiaaGreatDoor
