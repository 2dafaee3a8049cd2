/-
  Moment: all pages of a reading are of one moment.
-/
import Derived.Test.YtcfdemhokbddiaaGreatDoorQUf

namespace Go.Proofs.YtcfdemhokbddiaaGreatDoor
open Go.RowKit

/-- Where the reading has come, with acts between its pages. -/
structure MomI (base M : Nat) (t0 : GT) (w : World) (L1 : List (List UInt8)) (sL sM : Nat) (vl vm : Value) (i : Nat) (more : Bool) (wr : World) : Prop where
  ex : ∃ t' done L', L1 = done ++ L' ∧ Bd base (M + i) wr t' ∧ t'.b = t0.b ∧ Below base w wr ∧ KV A5 t'.view ∧ Row t' wr sL vl L1 ∧ Row t' wr sM vm done ∧ sM ≤ wr.heap.size ∧ (∀ b ∈ vl.ownBlock.toList, b < sM) ∧
    (more = true → ∃ d, t'.rview = [some (L', d), none, none]) ∧ (more = false → L' = [] ∧ t'.rview = [none, none, none])

theorem lastB : B (lastT ++ [32, 49]) = ⟨#[104, 105, 116, 115, 123, 108, 97, 115, 116, 61, 34, 49, 34, 125, 32, 49]⟩ := by kernel_rfl
theorem lastB0 : B lastT = ⟨#[104, 105, 116, 115, 123, 108, 97, 115, 116, 61, 34, 49, 34, 125]⟩ := by kernel_rfl
theorem rv_get {x y z : Option (List (List UInt8) × Nat)} : ([x, y, z] : RdV)[0]? = some x := rfl

set_option maxRecDepth 100000 in
set_option maxHeartbeats 8000000 in
theorem moment_law (acts btw : List AA) (zs : List Int) (va vb vs : Value) (w : World) (ha : ActsAt w.heap.size w va acts) (hb : ActsAt w.heap.size w vb btw) (hs : IntsArg w.heap.size w vs zs) (ht : Tab w) (hal : acts.length ≤ 17592186044416) (hbl : btw.length ≤ 17592186044416) (hzl : zs.length ≤ 17592186044416) :
    Calls Tryz.prog 5 #[va, vb, vs] w fun e w' => e = .returned (.bool true) ∧ Below w.heap.size w w' := by
  obtain ⟨base, hbase⟩ : ∃ base, w.heap.size = base := ⟨_, rfl⟩
  have hpos : 0 < base := by rw [← hbase]; exact ht.lt
  have HBG : Hid (Calls Tryz.prog 12 #[] w _) := begun_any base w ht hpos (by omega)
  rw [hbase] at ha hb hs ⊢
  have HA : Hid (ActsAt base w va acts) := ha
  have HB : Hid (ActsAt base w vb btw) := hb
  have HS : Hid (IntsArg base w vs zs) := hs
  obtain ⟨aa, ac, rfl, _⟩ := id ha
  obtain ⟨ba, bc, rfl, _⟩ := id hb
  obtain ⟨sa, scap, rfl, _⟩ := id hs
  have HBS : Hid (w.heap.size = base) := hbase
  clear ha hb hs ht hbase
  go_enter Tryz.func5, Tryz.ntmps5
  go_wp2_with fail
  refine HBG.out.mono ?_
  rintro e w0 ⟨t0, rfl, g0, hb0, hv0, hr0, _⟩
  have HI0 : Hid (∃ t', Bd base 0 w0 t' ∧ t'.b = t0.b ∧ Below base w w0 ∧ t'.rview = [none, none, none] ∧ KV A5 t'.view) := ⟨t0, hb0, rfl, gb_below g0 (by rw [HBS.out]; exact Nat.le_refl _), hr0, by rw [hv0]; exact V0_kv A5⟩
  clear hb0 g0 hv0 hr0 HBG
  go_wp2_with fail
  go_loopw [8] (fun v wr => ∃ i : Nat, v = .int .i64 (i : Int) ∧ i ≤ acts.length ∧ Hid (∃ t', Bd base i wr t' ∧ t'.b = t0.b ∧ Below base w wr ∧ t'.rview = [none, none, none] ∧ KV A5 t'.view)) (fun v _ => acts.length - (intOf v).toNat)
  case atStart => exact ⟨0, rfl, Nat.zero_le _, HI0.out⟩
  case round =>
    obtain ⟨i, rfl, hi, HR⟩ := hrel
    clear HI0
    by_cases hlt : i < acts.length
    · have hli : (i : Int) < (acts.length : Int) := by omega
      obtain ⟨t1, hbd, htb, hBl, hrv, hkv⟩ := HR.out
      obtain ⟨sa', cap', e, hall, hc⟩ := HA.out.below hBl
      simp only [Value.slice.injEq] at e
      obtain ⟨rfl, _, rfl⟩ := e
      obtain ⟨b, off, rfl, _, hcell⟩ : ∃ b off, aa = some ⟨b, off, none⟩ ∧ b < base ∧ ∀ i (h : i < acts.length), wr.cell? ⟨b, off + i * 3, none⟩ = some (.int .i64 acts[i].1) ∧ wr.cell? ⟨b, off + i * 3 + 1, none⟩ = some (.int .i64 acts[i].2.1) ∧ wr.cell? ⟨b, off + i * 3 + 2, none⟩ = some (.int .i64 acts[i].2.2) := by
        rcases hc with h | h
        · rw [h] at hlt; simp at hlt
        · exact h
      obtain ⟨c0, c1, c2⟩ := hcell i hlt
      obtain ⟨q1, q2, q3⟩ := hall acts[i] (List.getElem_mem hlt)
      obtain ⟨⟨wh, se, n⟩, hE⟩ : ∃ x, acts[i] = x := ⟨_, rfl⟩
      rw [hE] at c0 c1 c2 q1 q2 q3
      have hac := act_any base i t1 wh se n wr hbd (by omega) A5_len A5_in hkv q1 q2 q3
      rw [htb, hrv] at hac
      have HAC : Hid (Calls Tryz.prog 13 #[.pointer (some ⟨t0.b, 0, none⟩), .agg #[.int .i64 wh, .int .i64 se, .int .i64 n]] wr _) := hac
      have HX : Hid (t1.b = t0.b ∧ Below base w wr ∧ (∀ b ∈ t1.own, base ≤ b) ∧ base ≤ wr.heap.size) := ⟨htb, hBl, hbd.low, hbd.size⟩
      clear hac hE q1 q2 q3 hcell hall hc hbd htb hBl hrv hkv
      go_wp2_with fail
      refine HAC.out.mono ?_
      rintro e w2 ⟨rfl, t2, hst, hr2, _, hk2⟩
      have HN : Hid (∃ t', Bd base (i + 1) w2 t' ∧ t'.b = t0.b ∧ Below base w w2 ∧ t'.rview = [none, none, none] ∧ KV A5 t'.view) := ⟨t2, hst.bd, hst.b.trans HX.out.1, HX.out.2.1.trans (hst.below HX.out.2.2.1 HX.out.2.2.2), hr2, hk2⟩
      clear hst hr2 hk2
      go_wp2
      go_roundw
      case rel => exact ⟨i + 1, by go_num, by omega, HN.out⟩
      case measure => simp [intOf]; omega
    · have hli : ¬ (i : Int) < (acts.length : Int) := by omega
      obtain ⟨t1, hbd, htb, hBl, hrv, hkv⟩ := HR.out
      obtain ⟨hL3, hL40⟩ := hkv.lines A5_len
      obtain ⟨V1, hV1⟩ : ∃ V1, t1.view = V1 := ⟨_, rfl⟩
      have hwh := whole_any base i 0 t1 19 wr hbd (by omega) (by rw [hrv]; rfl) (by omega) (by omega) ⟨by omega, by omega⟩
      rw [htb, hrv, hV1] at hwh
      rw [hV1] at hkv hL3 hL40
      have HWH : Hid (Calls Tryz.prog 14 #[.pointer (some ⟨t0.b, 0, none⟩), .int .i64 19] wr _) := hwh
      have HX : Hid (t1.b = t0.b ∧ Below base w wr ∧ (∀ b ∈ t1.own, base ≤ b) ∧ base ≤ wr.heap.size ∧ KV A5 V1) := ⟨htb, hBl, hbd.low, hbd.size, hkv⟩
      clear hwh hbd htb hBl hrv hkv hV1
      go_wp2_with fail
      refine HWH.out.mono ?_
      rintro e w2 ⟨t2, vl, rfl, hst2, hv2, hr2, hrow2, hfar2⟩
      obtain ⟨la, lc, rfl, _, _⟩ := own_shape1 hrow2
      have hop := cOpen hst2.bd ⟨#[]⟩ (by omega)
      rw [hst2.b, HX.out.1, hv2, hr2] at hop
      have HOP : Hid (Calls Tryz.prog 15 #[.pointer (some ⟨t0.b, 0, none⟩), .string ⟨#[]⟩] w2 _) := hop
      have HR2 : Hid (Row t2 w2 wr.heap.size (.slice la (linesP V1).length lc) (linesP V1)) := ⟨hrow2, hfar2⟩
      obtain ⟨sL, hsL⟩ : ∃ sL, wr.heap.size = sL := ⟨_, rfl⟩
      rw [hsL] at HR2
      have HY : Hid (t2.b = t0.b ∧ Below base w w2 ∧ (∀ b ∈ t2.own, base ≤ b) ∧ base ≤ w2.heap.size) := ⟨hst2.b.trans HX.out.1, HX.out.2.1.trans (hst2.below HX.out.2.2.1 HX.out.2.2.2.1), hst2.bd.low, hst2.bd.size⟩
      clear hop hst2 hv2 hr2 hrow2 hfar2
      go_wp2_with fail
      refine HOP.out.mono ?_
      rintro e w3 ⟨t3, n3, c3, rfl, hst3, hv3, hop3⟩
      have hof : openP V1 [none, none, none] [] = ((((0 : Nat) : Int), (0 : Int)), ([none, none, none] : RdV).set 0 (some (linesP V1, 0))) := open_free rfl
      rw [hof] at hop3
      simp only [Prod.mk.injEq] at hop3
      obtain ⟨⟨rfl, rfl⟩, hr3⟩ := hop3
      have hL3' : ¬ ((linesP V1).length : Int) < 3 := by omega
      obtain ⟨M, hM⟩ : ∃ M, i + 1 + 1 = M := ⟨_, rfl⟩
      have HMI : Hid (MomI base M t0 w (linesP V1) sL w3.heap.size (.slice la (linesP V1).length lc) (.slice none 0 0) 0 true w3) := by
        have hrw := HR2.out.stp hst3
        refine ⟨t3, [], linesP V1, rfl, by rw [← hM]; exact hst3.bd, hst3.b.trans HY.out.1, HY.out.2.1.trans (hst3.below HY.out.2.2.1 HY.out.2.2.2), by rw [hv3]; exact HX.out.2.2.2.2, hrw, Row.nil _ _ _, Nat.le_refl _, fun b hb => (hrw.lt b hb).2, fun _ => ⟨0, hr3⟩, fun h => by cases h⟩
      have hMb : M ≤ 17592186044420 := by omega
      have hb3s := hst3.bd.size
      clear hst3 hv3 hr3 hof hM hsL
      go_wp2_with fail
      go_loopw [14, 15, 16] (fun vm mo v w4 => ∃ (j : Nat) (more : Bool), v = .int .i64 (j : Int) ∧ mo = .bool more ∧ j ≤ btw.length ∧ Hid (MomI base M t0 w (linesP V1) sL w3.heap.size (.slice la (linesP V1).length lc) vm j more w4)) (fun _ _ v _ => btw.length - (intOf v).toNat)
      case atStart => exact ⟨0, true, rfl, rfl, Nat.zero_le _, HMI.out⟩
      case round =>
        obtain ⟨j, more, rfl, rfl, hj, HR⟩ := hrel
        clear HMI
        obtain ⟨t4, done, L', hLd, hbd4, htb4, hBl4, hkv4, hrl4, hrm4, hsM, hfr4, hmt, hmf⟩ := HR.out.ex
        obtain ⟨ma, mc, rfl, _, _⟩ := own_shape1 hrm4.own
        by_cases hgo : j < btw.length ∧ more = true
        · obtain ⟨hlt2, rfl⟩ := hgo
          have hlj : (j : Int) < (btw.length : Int) := by omega
          obtain ⟨d, hrv4⟩ := hmt rfl
          obtain ⟨sa', cap', e, hall, hc⟩ := HB.out.below hBl4
          simp only [Value.slice.injEq] at e
          obtain ⟨rfl, _, rfl⟩ := e
          obtain ⟨b, off, rfl, _, hcell⟩ : ∃ b off, ba = some ⟨b, off, none⟩ ∧ b < base ∧ ∀ i (h : i < btw.length), wr.cell? ⟨b, off + i * 3, none⟩ = some (.int .i64 btw[i].1) ∧ wr.cell? ⟨b, off + i * 3 + 1, none⟩ = some (.int .i64 btw[i].2.1) ∧ wr.cell? ⟨b, off + i * 3 + 2, none⟩ = some (.int .i64 btw[i].2.2) := by
            rcases hc with h | h
            · rw [h] at hlt2; simp at hlt2
            · exact h
          obtain ⟨c0, c1, c2⟩ := hcell j hlt2
          obtain ⟨q1, q2, q3⟩ := hall btw[j] (List.getElem_mem hlt2)
          obtain ⟨⟨wh, se, n⟩, hE⟩ : ∃ x, btw[j] = x := ⟨_, rfl⟩
          rw [hE] at c0 c1 c2 q1 q2 q3
          have hac := act_any base (M + j) t4 wh se n wr hbd4 (by omega) A5_len A5_in hkv4 q1 q2 q3
          rw [htb4, hrv4] at hac
          have HAC : Hid (Calls Tryz.prog 13 #[.pointer (some ⟨t0.b, 0, none⟩), .agg #[.int .i64 wh, .int .i64 se, .int .i64 n]] wr _) := hac
          have HX4 : Hid (t4.b = t0.b ∧ Below base w wr ∧ (∀ b ∈ t4.own, base ≤ b) ∧ base ≤ wr.heap.size) := ⟨htb4, hBl4, hbd4.low, hbd4.size⟩
          have HRL : Hid (Row t4 wr sL (.slice la (linesP V1).length lc) (linesP V1)) := hrl4
          have HRM : Hid (Row t4 wr w3.heap.size (.slice ma done.length mc) done) := hrm4
          have HFR : Hid (∀ b ∈ (Value.slice la (linesP V1).length lc).ownBlock.toList, b < w3.heap.size) := hfr4
          have HLD : Hid (linesP V1 = done ++ L') := hLd
          have hdl : done.length + L'.length ≤ 40 := by have := congrArg List.length hLd; simp at this; omega
          clear hac hE q1 q2 q3 hcell hall hc hbd4 htb4 hBl4 hrv4 hkv4 hrl4 hrm4 hfr4 hLd hmt hmf HR
          go_wp2_with fail
          refine HAC.out.mono ?_
          rintro e w5 ⟨rfl, t5, hst5, hr5, _, hk5⟩
          have hB5 : Below base w w5 := HX4.out.2.1.trans (hst5.below HX4.out.2.2.1 HX4.out.2.2.2)
          have HSZ : Hid (Calls Tryz.prog 17 #[.slice sa zs.length scap, .int .i64 (j : Int)] w5 _) := size_any _ zs [] j w5 ((HS.out.below hB5).far [] (by simp) hst5.bd.size) (by omega) (by omega)
          obtain ⟨k, hk⟩ : ∃ k, sizeP zs j = k := ⟨_, rfl⟩
          obtain ⟨hk1, hk2⟩ := sizeP_bound zs j
          rw [hk] at HSZ hk1 hk2
          have hcp := cPage hst5.bd ((0 : Nat) : Int) k (by omega)
          rw [hst5.b, HX4.out.1, hr5, page_rest (by omega) rv_get hk1 hk2] at hcp
          have HCP : Hid (Calls Tryz.prog 16 #[.pointer (some ⟨t0.b, 0, none⟩), .int .i64 0, .int .i64 k] w5 _) := hcp
          have HRL5 : Hid (Row t5 w5 sL (.slice la (linesP V1).length lc) (linesP V1)) := HRL.out.stp hst5
          have HRM5 : Hid (Row t5 w5 w3.heap.size (.slice ma done.length mc) done) := HRM.out.stp hst5
          have HX5 : Hid (t5.b = t0.b ∧ Below base w w5 ∧ (∀ b ∈ t5.own, base ≤ b) ∧ base ≤ w5.heap.size ∧ KV A5 t5.view ∧ wr.heap.size ≤ w5.heap.size ∧ ∀ b ∈ t5.own, b < w5.heap.size) := ⟨hst5.b.trans HX4.out.1, hB5, hst5.bd.low, hst5.bd.size, hk5, hst5.kept.size, hst5.bd.lt⟩
          clear hst5 hr5 hk5 hB5 hcp hk
          go_wp2_with fail
          refine HSZ.out.mono ?_
          rintro e w5' ⟨rfl, rfl⟩
          go_wp2_with fail
          refine HCP.out.mono ?_
          rintro e w6 ⟨t6, v6, ln, mo6, c6, rfl, hst6, hown6, hv6, hrow6, hpg⟩
          obtain ⟨pa, pc, rfl, _, _⟩ := own_shape1 hrow6
          have HR6 : Hid (Row t6 w6 w5'.heap.size (.slice pa ln.length pc) ln) := ⟨hrow6, fun b hb hm' => by
            rw [hown6] at hm'
            have h1 := HX5.out.2.2.2.2.2.2 b hm'
            have h2 := (hrow6.lt b (by simpa using hb)).1
            omega⟩
          have HRL6 : Hid (Row t6 w6 sL (.slice la (linesP V1).length lc) (linesP V1)) := HRL5.out.stp hst6
          have HRM6 : Hid (Row t6 w6 w3.heap.size (.slice ma done.length mc) done) := HRM5.out.stp hst6
          have HX6 : Hid (Bd base (M + j + 1) w6 t6 ∧ t6.b = t0.b ∧ Below base w w6 ∧ KV A5 t6.view ∧ w5'.heap.size ≤ w6.heap.size) := ⟨hst6.bd, hst6.b.trans HX5.out.1, HX5.out.2.1.trans (hst6.below HX5.out.2.2.1 HX5.out.2.2.2.1), by rw [hv6]; exact HX5.out.2.2.2.2.1, hst6.kept.size⟩
          have hs6 : w3.heap.size ≤ w6.heap.size := by have h1 := HX5.out.2.2.2.2.2.1; have h2 := HX6.out.2.2.2.2; omega
          clear hst6 hown6 hv6 hrow6
          by_cases hklt : k.toNat < L'.length
          · rw [if_pos hklt] at hpg
            simp only [Prod.mk.injEq] at hpg
            obtain ⟨⟨hln, rfl, rfl⟩, hrv6⟩ := hpg
            have hlnl : ln.length ≤ 40 := by rw [hln]; simp; omega
            have HLN : Hid (ln = L'.take k.toNat) := hln
            have HRV6 : Hid (t6.rview = [some (L'.drop k.toNat, 0), none, none]) := hrv6
            clear hln hrv6
            go_wp2_with (at_builtin; refine wpList_append_row _ rfl _ _ rfl rfl t6 w3.heap.size w5'.heap.size _ _ done ln rfl HRM6.out rfl HR6.out hs6 (by omega) HX6.out.1.lt ?_; intro v7 w7 hr7 hk7)
            obtain ⟨na, nc, rfl, _, _⟩ := own_shape1 hr7.own
            have HN : Hid (MomI base M t0 w (linesP V1) sL w3.heap.size (.slice la (linesP V1).length lc) (.slice na (done ++ ln).length nc) (j + 1) true w7) := by
              have hge : ∀ b ∈ (Value.slice ma done.length mc).ownBlock.toList, w3.heap.size ≤ b := fun b hb => (HRM6.out.lt b hb).1
              have hk7' : Kept (Value.slice ma done.length mc).ownBlock.toList w6 w7 := hk7
              have hb7 : Bd base (M + (j + 1)) w7 t6 := HX6.out.1.kept hk7' fun b hb => ⟨by have := hge b hb; omega, HRM6.out.far b hb⟩
              refine ⟨t6, done ++ ln, L'.drop k.toNat, by rw [HLD.out, HLN.out, List.append_assoc, List.take_append_drop], hb7, HX6.out.2.1, HX6.out.2.2.1.trans (hk7'.below HX6.out.1.size fun b hb => ?_), HX6.out.2.2.2.1, HRL6.out.kept hk7' fun b hb hm' => ?_, hr7, by have := hk7'.size; omega, HFR.out, fun _ => ⟨0, HRV6.out⟩, fun h => by cases h⟩
              · have := hge b hb; omega
              · have := HFR.out b hb; have := hge b hm'; omega
            clear hr7 hk7
            go_wp2
            go_roundw
            case rel => exact ⟨j + 1, true, by go_num, rfl, by omega, HN.out⟩
            case measure => simp [intOf]; omega
          · rw [if_neg hklt] at hpg
            simp only [Prod.mk.injEq] at hpg
            obtain ⟨⟨rfl, rfl, rfl⟩, hrv6⟩ := hpg
            have HRV6 : Hid (t6.rview = [none, none, none]) := hrv6
            clear hrv6
            go_wp2_with (at_builtin; refine wpList_append_row _ rfl _ _ rfl rfl t6 w3.heap.size w5'.heap.size _ _ done ln rfl HRM6.out rfl HR6.out hs6 (by omega) HX6.out.1.lt ?_; intro v7 w7 hr7 hk7)
            obtain ⟨na, nc, rfl, _, _⟩ := own_shape1 hr7.own
            have HN : Hid (MomI base M t0 w (linesP V1) sL w3.heap.size (.slice la (linesP V1).length lc) (.slice na (done ++ ln).length nc) (j + 1) false w7) := by
              have hge : ∀ b ∈ (Value.slice ma done.length mc).ownBlock.toList, w3.heap.size ≤ b := fun b hb => (HRM6.out.lt b hb).1
              have hk7' : Kept (Value.slice ma done.length mc).ownBlock.toList w6 w7 := hk7
              have hb7 : Bd base (M + (j + 1)) w7 t6 := HX6.out.1.kept hk7' fun b hb => ⟨by have := hge b hb; omega, HRM6.out.far b hb⟩
              refine ⟨t6, done ++ ln, [], by rw [HLD.out, List.append_nil], hb7, HX6.out.2.1, HX6.out.2.2.1.trans (hk7'.below HX6.out.1.size fun b hb => ?_), HX6.out.2.2.2.1, HRL6.out.kept hk7' fun b hb hm' => ?_, hr7, by have := hk7'.size; omega, HFR.out, fun h => (by cases h), fun _ => ⟨rfl, HRV6.out⟩⟩
              · have := hge b hb; omega
              · have := HFR.out b hb; have := hge b hm'; omega
            clear hr7 hk7
            go_wp2
            go_roundw
            case rel => exact ⟨j + 1, false, by go_num, rfl, by omega, HN.out⟩
            case measure => simp [intOf]; omega
        · have HLD : Hid (linesP V1 = done ++ L') := hLd
          have hdl : done.length + L'.length ≤ 40 := by have := congrArg List.length hLd; simp at this; omega
          cases more with
          | false =>
            obtain ⟨hnil, hrv4⟩ := hmf rfl
            have hdone : done = linesP V1 := by rw [hLd, hnil, List.append_nil]
            obtain ⟨wF, hwF⟩ : ∃ wF, wr = wF := ⟨_, rfl⟩
            obtain ⟨tF, htF⟩ : ∃ tF, t4 = tF := ⟨_, rfl⟩
            subst hwF htF
            have hrL := hrl4
            have hrM : Row t4 wr w3.heap.size (.slice ma (linesP V1).length mc) (linesP V1) := by rw [← hdone]; exact hrm4
            have hbF := hbd4
            have hkF := hkv4
            have hrF := hrv4
            have hbE := htb4
            have hBl := hBl4
            have HDL : Hid (done.length = (linesP V1).length) := by rw [hdone]; rfl
            obtain ⟨M, hM⟩ : ∃ M', M + j = M' := ⟨_, rfl⟩
            rw [hM] at hbF
            have hMb' : M ≤ 40000000000000 := by omega
            rw [HDL.out]
            clear hbd4 htb4 hBl4 hrv4 hkv4 hrl4 hrm4 hfr4 hLd hmt hmf HR hdone hM hnil
            have hg : ¬ ((j : Int) < (btw.length : Int) ∧ false = true) := by simp
            by_cases hjb : (j : Int) < (btw.length : Int)
            · go_wp2_with fail
              -- the lines are held together
              have HSA : Hid (Calls Tryz.prog 19 #[.slice la (linesP V1).length lc, .slice ma (linesP V1).length mc] wr _) := same_any _ _ (linesP V1) (linesP V1) wr hrL.strAt hrM.strAt (by omega)
              have HSF : Hid (Bd base M wr t4 ∧ KV A5 t4.view ∧ t4.rview = [none, none, none] ∧ t4.b = t0.b ∧ Below base w wr) := ⟨hbF, hkF, hrF, hbE, hBl⟩
              clear hrL hrM hbF hkF hrF hbE hBl
              go_wp2_with fail
              refine HSA.out.mono ?_
              rintro e wG ⟨rfl, gG⟩
              obtain ⟨k1, k2, k3, k4, k5⟩ := last_change HSF.out.2.1
              have hch := cChange (HSF.out.1.gb gG) (B lastT) 1 (by omega)
              rw [data_B, k1, HSF.out.2.2.2.1, lastB0] at hch
              have HCH : Hid (Calls Tryz.prog 20 #[.pointer (some ⟨t0.b, 0, none⟩), .string ⟨#[104, 105, 116, 115, 123, 108, 97, 115, 116, 61, 34, 49, 34, 125]⟩, .int .i64 1] wG _) := hch
              have HK2 : Hid ((chgAt t4.view 0 lastT 1).1 = 0 ∧ KV aList (chgAt t4.view 0 lastT 1).2 ∧ (lastT ++ [32, 49]) ∈ linesP (chgAt t4.view 0 lastT 1).2 ∧ 4 ≤ (linesP (chgAt t4.view 0 lastT 1).2).length) := ⟨k2, k3, k4, k5⟩
              have HBG : Hid (Below base w wG) := HSF.out.2.2.2.2.trans (gb_below gG HSF.out.1.size)
              clear hch k1 k2 k3 k4 k5 gG
              go_wp2_with fail
              refine HCH.out.mono ?_
              rintro e wH ⟨tH, cH, rfl, hstH, hrH, hcH⟩
              have hc0 : cH = 0 := (congrArg Prod.fst hcH).trans HK2.out.1
              have hvH : tH.view = (chgAt t4.view 0 lastT 1).2 := congrArg Prod.snd hcH
              subst hc0
              have hlH := HK2.out.2.1.lines aList_len
              rw [← hvH] at hlH
              have hwh := whole_any base (M + 1) 0 tH 7 wH hstH.bd (by omega) (by rw [hrH, HSF.out.2.2.1]; rfl) (by omega) (by omega) ⟨by omega, by omega⟩
              rw [hstH.b, HSF.out.2.2.2.1] at hwh
              have HWH : Hid (Calls Tryz.prog 14 #[.pointer (some ⟨t0.b, 0, none⟩), .int .i64 7] wH _) := hwh
              have HIN : Hid ((lastT ++ [32, 49]) ∈ linesP tH.view ∧ 4 ≤ (linesP tH.view).length ∧ (linesP tH.view).length ≤ 40) := ⟨by rw [hvH]; exact HK2.out.2.2.1, by rw [hvH]; exact HK2.out.2.2.2, hlH.2⟩
              have HBH : Hid (Below base w wH) := HBG.out.trans (hstH.below (HSF.out.1.low) (by have h1 := HBS.out; have h2 := HBG.out.size; omega))
              have HLH : Hid ((∀ b ∈ tH.own, base ≤ b) ∧ base ≤ wH.heap.size) := ⟨hstH.bd.low, hstH.bd.size⟩
              clear hwh hlH hstH hrH hcH hvH
              go_wp2_with fail
              refine HWH.out.mono ?_
              rintro e wI ⟨tI, vI, rfl, hstI, _, _, hrI, _⟩
              obtain ⟨ia, ic, rfl, _, _⟩ := own_shape1 hrI
              have hin := in_any _ (linesP tH.view) (lastT ++ [32, 49]) wI (strAt_of hrI).2 (by have := HIN.out.2.2; omega) HIN.out.1
              rw [lastB] at hin
              have HII : Hid (Calls Tryz.prog 21 #[.slice ia (linesP tH.view).length ic, .string ⟨#[104, 105, 116, 115, 123, 108, 97, 115, 116, 61, 34, 49, 34, 125, 32, 49]⟩] wI _) := hin
              have HBI : Hid (Below base w wI) := HBH.out.trans (hstI.below HLH.out.1 HLH.out.2)
              have h4 : (4 : Int) ≤ ((linesP tH.view).length : Int) := by have := HIN.out.2.1; omega
              clear hstI hrI hin
              go_wp2_with fail
              refine HII.out.mono ?_
              rintro e wJ ⟨rfl, rfl⟩
              go_wp2
              go_ret
              exact ⟨rfl, HBI.out⟩
            · go_wp2_with fail
              -- the lines are held together
              have HSA : Hid (Calls Tryz.prog 19 #[.slice la (linesP V1).length lc, .slice ma (linesP V1).length mc] wr _) := same_any _ _ (linesP V1) (linesP V1) wr hrL.strAt hrM.strAt (by omega)
              have HSF : Hid (Bd base M wr t4 ∧ KV A5 t4.view ∧ t4.rview = [none, none, none] ∧ t4.b = t0.b ∧ Below base w wr) := ⟨hbF, hkF, hrF, hbE, hBl⟩
              clear hrL hrM hbF hkF hrF hbE hBl
              go_wp2_with fail
              refine HSA.out.mono ?_
              rintro e wG ⟨rfl, gG⟩
              obtain ⟨k1, k2, k3, k4, k5⟩ := last_change HSF.out.2.1
              have hch := cChange (HSF.out.1.gb gG) (B lastT) 1 (by omega)
              rw [data_B, k1, HSF.out.2.2.2.1, lastB0] at hch
              have HCH : Hid (Calls Tryz.prog 20 #[.pointer (some ⟨t0.b, 0, none⟩), .string ⟨#[104, 105, 116, 115, 123, 108, 97, 115, 116, 61, 34, 49, 34, 125]⟩, .int .i64 1] wG _) := hch
              have HK2 : Hid ((chgAt t4.view 0 lastT 1).1 = 0 ∧ KV aList (chgAt t4.view 0 lastT 1).2 ∧ (lastT ++ [32, 49]) ∈ linesP (chgAt t4.view 0 lastT 1).2 ∧ 4 ≤ (linesP (chgAt t4.view 0 lastT 1).2).length) := ⟨k2, k3, k4, k5⟩
              have HBG : Hid (Below base w wG) := HSF.out.2.2.2.2.trans (gb_below gG HSF.out.1.size)
              clear hch k1 k2 k3 k4 k5 gG
              go_wp2_with fail
              refine HCH.out.mono ?_
              rintro e wH ⟨tH, cH, rfl, hstH, hrH, hcH⟩
              have hc0 : cH = 0 := (congrArg Prod.fst hcH).trans HK2.out.1
              have hvH : tH.view = (chgAt t4.view 0 lastT 1).2 := congrArg Prod.snd hcH
              subst hc0
              have hlH := HK2.out.2.1.lines aList_len
              rw [← hvH] at hlH
              have hwh := whole_any base (M + 1) 0 tH 7 wH hstH.bd (by omega) (by rw [hrH, HSF.out.2.2.1]; rfl) (by omega) (by omega) ⟨by omega, by omega⟩
              rw [hstH.b, HSF.out.2.2.2.1] at hwh
              have HWH : Hid (Calls Tryz.prog 14 #[.pointer (some ⟨t0.b, 0, none⟩), .int .i64 7] wH _) := hwh
              have HIN : Hid ((lastT ++ [32, 49]) ∈ linesP tH.view ∧ 4 ≤ (linesP tH.view).length ∧ (linesP tH.view).length ≤ 40) := ⟨by rw [hvH]; exact HK2.out.2.2.1, by rw [hvH]; exact HK2.out.2.2.2, hlH.2⟩
              have HBH : Hid (Below base w wH) := HBG.out.trans (hstH.below (HSF.out.1.low) (by have h1 := HBS.out; have h2 := HBG.out.size; omega))
              have HLH : Hid ((∀ b ∈ tH.own, base ≤ b) ∧ base ≤ wH.heap.size) := ⟨hstH.bd.low, hstH.bd.size⟩
              clear hwh hlH hstH hrH hcH hvH
              go_wp2_with fail
              refine HWH.out.mono ?_
              rintro e wI ⟨tI, vI, rfl, hstI, _, _, hrI, _⟩
              obtain ⟨ia, ic, rfl, _, _⟩ := own_shape1 hrI
              have hin := in_any _ (linesP tH.view) (lastT ++ [32, 49]) wI (strAt_of hrI).2 (by have := HIN.out.2.2; omega) HIN.out.1
              rw [lastB] at hin
              have HII : Hid (Calls Tryz.prog 21 #[.slice ia (linesP tH.view).length ic, .string ⟨#[104, 105, 116, 115, 123, 108, 97, 115, 116, 61, 34, 49, 34, 125, 32, 49]⟩] wI _) := hin
              have HBI : Hid (Below base w wI) := HBH.out.trans (hstI.below HLH.out.1 HLH.out.2)
              have h4 : (4 : Int) ≤ ((linesP tH.view).length : Int) := by have := HIN.out.2.1; omega
              clear hstI hrI hin
              go_wp2_with fail
              refine HII.out.mono ?_
              rintro e wJ ⟨rfl, rfl⟩
              go_wp2
              go_ret
              exact ⟨rfl, HBI.out⟩
          | true =>
            have hjb : ¬ (j : Int) < (btw.length : Int) := fun h => hgo ⟨by omega, rfl⟩
            obtain ⟨d, hrv4⟩ := hmt rfl
            have hre := rest_any base (M + j) 0 t4 L' d (.slice sa zs.length scap) zs wr hbd4 (by omega) (by omega) (by rw [hrv4]; rfl) (by omega) ((HS.out.below hBl4).far t4.own hbd4.low hbd4.size) (by omega)
            rw [htb4, hrv4] at hre
            have HRE : Hid (Calls Tryz.prog 18 #[.pointer (some ⟨t0.b, 0, none⟩), .int .i64 0, .slice sa zs.length scap] wr _) := hre
            have HX4 : Hid (t4.b = t0.b ∧ Below base w wr ∧ (∀ b ∈ t4.own, base ≤ b) ∧ base ≤ wr.heap.size ∧ KV A5 t4.view ∧ ∀ b ∈ t4.own, b < wr.heap.size) := ⟨htb4, hBl4, hbd4.low, hbd4.size, hkv4, hbd4.lt⟩
            have HRL : Hid (Row t4 wr sL (.slice la (linesP V1).length lc) (linesP V1)) := hrl4
            have HRM : Hid (Row t4 wr w3.heap.size (.slice ma done.length mc) done) := hrm4
            have HFR : Hid (∀ b ∈ (Value.slice la (linesP V1).length lc).ownBlock.toList, b < w3.heap.size) := hfr4
            clear hre hbd4 htb4 hBl4 hrv4 hkv4 hrl4 hrm4 hfr4 hLd hmt hmf HR
            go_wp2_with fail
            refine HRE.out.mono ?_
            rintro e w6 ⟨t6, v6, rfl, hst6, hown6, hv6, hrv6, hrow6⟩
            obtain ⟨pa, pc, rfl, _, _⟩ := own_shape1 hrow6
            have HR6 : Hid (Row t6 w6 wr.heap.size (.slice pa L'.length pc) L') := ⟨hrow6, fun b hb hm' => by
              rw [hown6] at hm'
              have h1 := HX4.out.2.2.2.2.2 b hm'
              have h2 := (hrow6.lt b (by simpa using hb)).1
              omega⟩
            have HRL6 : Hid (Row t6 w6 sL (.slice la (linesP V1).length lc) (linesP V1)) := HRL.out.stp hst6
            have HRM6 : Hid (Row t6 w6 w3.heap.size (.slice ma done.length mc) done) := HRM.out.stp hst6
            have HX6 : Hid (Bd base (M + j) w6 t6 ∧ t6.b = t0.b ∧ Below base w w6 ∧ KV A5 t6.view ∧ t6.rview = [none, none, none]) := ⟨hst6.bd, hst6.b.trans HX4.out.1, HX4.out.2.1.trans (hst6.below HX4.out.2.2.1 HX4.out.2.2.2.1), by rw [hv6]; exact HX4.out.2.2.2.2.1, hrv6⟩
            have hs6 : w3.heap.size ≤ w6.heap.size := by have h1 := hst6.kept.size; omega
            clear hst6 hown6 hv6 hrow6 hrv6
            go_wp2_with (at_builtin; refine wpList_append_row _ rfl _ _ rfl rfl t6 w3.heap.size wr.heap.size _ _ done L' rfl HRM6.out rfl HR6.out hs6 (by omega) HX6.out.1.lt ?_; intro v7 w7 hr7 hk7)
            rw [← HLD.out] at hr7
            obtain ⟨na, nc, rfl, _, _⟩ := own_shape1 hr7.own
            have hge : ∀ b ∈ (Value.slice ma done.length mc).ownBlock.toList, w3.heap.size ≤ b := fun b hb => (HRM6.out.lt b hb).1
            have hk7' : Kept (Value.slice ma done.length mc).ownBlock.toList w6 w7 := hk7
            have hbF : Bd base (M + j) w7 t6 := HX6.out.1.kept hk7' fun b hb => ⟨by have := hge b hb; omega, HRM6.out.far b hb⟩
            have hrL : Row t6 w7 sL (.slice la (linesP V1).length lc) (linesP V1) := HRL6.out.kept hk7' fun b hb hm' => by have := HFR.out b hb; have := hge b hm'; omega
            have hrM := hr7
            have hkF := HX6.out.2.2.2.1
            have hrF := HX6.out.2.2.2.2
            have hbE := HX6.out.2.1
            have hBl : Below base w w7 := HX6.out.2.2.1.trans (hk7'.below HX6.out.1.size fun b hb => by have := hge b hb; omega)
            obtain ⟨M, hM⟩ : ∃ M', M + j = M' := ⟨_, rfl⟩
            rw [hM] at hbF
            have hMb' : M ≤ 40000000000000 := by omega
            clear hr7 hk7 hge hk7' hM
            -- the lines are held together
            have HSA : Hid (Calls Tryz.prog 19 #[.slice la (linesP V1).length lc, .slice na (linesP V1).length nc] w7 _) := same_any _ _ (linesP V1) (linesP V1) w7 hrL.strAt hrM.strAt (by omega)
            have HSF : Hid (Bd base M w7 t6 ∧ KV A5 t6.view ∧ t6.rview = [none, none, none] ∧ t6.b = t0.b ∧ Below base w w7) := ⟨hbF, hkF, hrF, hbE, hBl⟩
            clear hrL hrM hbF hkF hrF hbE hBl
            go_wp2_with fail
            refine HSA.out.mono ?_
            rintro e wG ⟨rfl, gG⟩
            obtain ⟨k1, k2, k3, k4, k5⟩ := last_change HSF.out.2.1
            have hch := cChange (HSF.out.1.gb gG) (B lastT) 1 (by omega)
            rw [data_B, k1, HSF.out.2.2.2.1, lastB0] at hch
            have HCH : Hid (Calls Tryz.prog 20 #[.pointer (some ⟨t0.b, 0, none⟩), .string ⟨#[104, 105, 116, 115, 123, 108, 97, 115, 116, 61, 34, 49, 34, 125]⟩, .int .i64 1] wG _) := hch
            have HK2 : Hid ((chgAt t6.view 0 lastT 1).1 = 0 ∧ KV aList (chgAt t6.view 0 lastT 1).2 ∧ (lastT ++ [32, 49]) ∈ linesP (chgAt t6.view 0 lastT 1).2 ∧ 4 ≤ (linesP (chgAt t6.view 0 lastT 1).2).length) := ⟨k2, k3, k4, k5⟩
            have HBG : Hid (Below base w wG) := HSF.out.2.2.2.2.trans (gb_below gG HSF.out.1.size)
            clear hch k1 k2 k3 k4 k5 gG
            go_wp2_with fail
            refine HCH.out.mono ?_
            rintro e wH ⟨tH, cH, rfl, hstH, hrH, hcH⟩
            have hc0 : cH = 0 := (congrArg Prod.fst hcH).trans HK2.out.1
            have hvH : tH.view = (chgAt t6.view 0 lastT 1).2 := congrArg Prod.snd hcH
            subst hc0
            have hlH := HK2.out.2.1.lines aList_len
            rw [← hvH] at hlH
            have hwh := whole_any base (M + 1) 0 tH 7 wH hstH.bd (by omega) (by rw [hrH, HSF.out.2.2.1]; rfl) (by omega) (by omega) ⟨by omega, by omega⟩
            rw [hstH.b, HSF.out.2.2.2.1] at hwh
            have HWH : Hid (Calls Tryz.prog 14 #[.pointer (some ⟨t0.b, 0, none⟩), .int .i64 7] wH _) := hwh
            have HIN : Hid ((lastT ++ [32, 49]) ∈ linesP tH.view ∧ 4 ≤ (linesP tH.view).length ∧ (linesP tH.view).length ≤ 40) := ⟨by rw [hvH]; exact HK2.out.2.2.1, by rw [hvH]; exact HK2.out.2.2.2, hlH.2⟩
            have HBH : Hid (Below base w wH) := HBG.out.trans (hstH.below (HSF.out.1.low) (by have h1 := HBS.out; have h2 := HBG.out.size; omega))
            have HLH : Hid ((∀ b ∈ tH.own, base ≤ b) ∧ base ≤ wH.heap.size) := ⟨hstH.bd.low, hstH.bd.size⟩
            clear hwh hlH hstH hrH hcH hvH
            go_wp2_with fail
            refine HWH.out.mono ?_
            rintro e wI ⟨tI, vI, rfl, hstI, _, _, hrI, _⟩
            obtain ⟨ia, ic, rfl, _, _⟩ := own_shape1 hrI
            have hin := in_any _ (linesP tH.view) (lastT ++ [32, 49]) wI (strAt_of hrI).2 (by have := HIN.out.2.2; omega) HIN.out.1
            rw [lastB] at hin
            have HII : Hid (Calls Tryz.prog 21 #[.slice ia (linesP tH.view).length ic, .string ⟨#[104, 105, 116, 115, 123, 108, 97, 115, 116, 61, 34, 49, 34, 125, 32, 49]⟩] wI _) := hin
            have HBI : Hid (Below base w wI) := HBH.out.trans (hstI.below HLH.out.1 HLH.out.2)
            have h4 : (4 : Int) ≤ ((linesP tH.view).length : Int) := by have := HIN.out.2.1; omega
            clear hstI hrI hin
            go_wp2_with fail
            refine HII.out.mono ?_
            rintro e wJ ⟨rfl, rfl⟩
            go_wp2
            go_ret
            exact ⟨rfl, HBI.out⟩

end Go.Proofs.YtcfdemhokbddiaaGreatDoor
