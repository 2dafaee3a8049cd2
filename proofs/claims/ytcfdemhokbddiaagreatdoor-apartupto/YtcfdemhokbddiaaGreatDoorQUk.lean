/-
  Stays: a reading lives as long as it is read.
-/
import Derived.Test.YtcfdemhokbddiaaGreatDoorQUj

namespace Go.Proofs.YtcfdemhokbddiaaGreatDoor
open Go.RowKit

/-- The families behind the first i changes of Stays. -/
def stV : Nat → List Fam
  | 0 => V0
  | i + 1 => (chgAt (stV i) (i / 5 % 3) (serT (i / 5 % 3) (i % 5)) (i : Int)).2
theorem st_chg (i : Nat) (hi : i < 20) (h : KV A5 (stV i)) : chgP (stV i) (serT (i / 5 % 3) (i % 5)) (i : Int) = (0, stV (i + 1)) ∧ KV A5 (stV (i + 1)) := by
  obtain ⟨h1, h2, h3⟩ := chg_kv h A5_len (i / 5 % 3) (Nat.mod_lt _ (by omega)) _ _ (i : Int) (ser_txt (i / 5 % 3) (i % 5) (Nat.mod_lt _ (by omega)) (Nat.mod_lt _ (by omega))) (A5_in _ _ (Nat.mod_lt _ (by omega))) (by omega) (fun _ => by omega)
  refine ⟨h1.trans ?_, h3⟩
  rw [← h2]; rfl
theorem st_kv : ∀ i, i ≤ 20 → KV A5 (stV i)
  | 0, _ => V0_kv A5
  | i + 1, hi => (st_chg i (by omega) (st_kv i (by omega))).2
theorem st_len : (linesP (stV 20)).length = 28 := by
  rw [lines_len]
  kernel_rfl
theorem st_names : (stV 20).map Fam.nm = [nmH, nmL, nmW] := (st_kv 20 (by omega)).names
theorem pickP_nat (a n : Nat) : pickP (a : Int) (n : Int) = ((a % n : Nat) : Int) := by
  unfold pickP
  rw [if_neg (by omega)]; simp
theorem names_ok : isNameB [108, 111, 97, 100] = true ∧ isNameB [119, 97, 105, 116] = true ∧ isNameB [120] = true := ⟨by kernel_rfl, by kernel_rfl, by kernel_rfl⟩
theorem x_place : kplace lt [120] [nmH, nmL, nmW] = 3 := by kernel_rfl
theorem open_at {V : List Fam} {R : RdV} {l : List UInt8} {i : Nat} (hn : isNameB l = true) (hf : freeP R = some i) : openP V R l = (((i : Int), 0), R.set i (some (linesP (V.drop (kplace lt l (V.map Fam.nm))), 0))) := by
  unfold openP
  rw [if_neg (by rw [hn]; simp), hf]
theorem x_lines : linesP ((stV 20).drop (kplace lt [120] ((stV 20).map Fam.nm))) = [] := by
  rw [st_names, x_place, List.drop_eq_nil_of_le (by rw [(st_kv 20 (by omega)).len]; exact Nat.le_refl _)]
  unfold linesP
  rw [it_lines]; rfl

/-- The board behind the changes; of its readings P holds. -/
def StI (base m b : Nat) (w : World) (P : RdV → Prop) (wr : World) : Prop := ∃ t', Bd base m wr t' ∧ t'.b = b ∧ Below base w wr ∧ t'.view = stV 20 ∧ P t'.rview
section
variable {base m b : Nat} {w wr : World} {P P' : RdV → Prop}
theorem StI.tick (h : StI base m b w P wr) (hP : ∀ R, P R → P' (tickP R)) : Calls Tryz.prog 22 #[.pointer (some ⟨b, 0, none⟩)] wr fun e w' => e = .returned (.tuple #[]) ∧ StI base m b w P' w' := by
  obtain ⟨t, h1, h2, h3, h4, h5⟩ := h
  rw [← h2]
  exact (cTick h1).mono fun e w' ⟨he, t', hst, hv, hr⟩ => ⟨he, t', hst.bd, hst.b, h3.trans (hst.below h1.low h1.size), hv.trans h4, by rw [hr]; exact hP _ h5⟩
theorem StI.page (h : StI base m b w P wr) (n k : Int) (F : List (List UInt8) × Bool × Int → Prop) (hP : ∀ R, P R → F (pageP R n k).1 ∧ P' (pageP R n k).2) (hm : m ≤ 1000) :
    Calls Tryz.prog 16 #[.pointer (some ⟨b, 0, none⟩), .int .i64 n, .int .i64 k] wr fun e w' => ∃ la lc ln mo c, e = .returned (.tuple #[.slice la (ln : List (List UInt8)).length lc, .bool mo, .int .i64 c]) ∧ F (ln, mo, c) ∧ StI base m b w P' w' := by
  obtain ⟨t, h1, h2, h3, h4, h5⟩ := h
  rw [← h2]
  refine (cPage h1 n k (by omega)).mono fun e w' ⟨t', v, ln, mo, c, he, hst, _, hv, hrow, hpg⟩ => ?_
  obtain ⟨la, lc, rfl, _, _⟩ := own_shape1 hrow
  have h6 := hP _ h5
  rw [← hpg] at h6
  exact ⟨la, lc, ln, mo, c, he, h6.1, t', hst.bd, hst.b, h3.trans (hst.below h1.low h1.size), hv.trans h4, h6.2⟩
theorem StI.opn (h : StI base m b w P wr) (s : ByteArray) (F : Int × Int → Prop) (hP : ∀ R, P R → F (openP (stV 20) R s.data.toList).1 ∧ P' (openP (stV 20) R s.data.toList).2) (hm : m ≤ 1000) :
    Calls Tryz.prog 15 #[.pointer (some ⟨b, 0, none⟩), .string s] wr fun e w' => ∃ i c, e = .returned (.tuple #[.int .i64 i, .int .i64 c]) ∧ F (i, c) ∧ StI base (m + 1) b w P' w' := by
  obtain ⟨t, h1, h2, h3, h4, h5⟩ := h
  rw [← h2]
  refine (cOpen h1 s (by omega)).mono fun e w' ⟨t', i, c, he, hst, hv, hop⟩ => ?_
  have h6 := hP _ h5
  rw [h4] at hop
  rw [← hop] at h6
  exact ⟨i, c, he, h6.1, t', hst.bd, hst.b, h3.trans (hst.below h1.low h1.size), hv.trans h4, h6.2⟩
end

theorem page_no {n : Nat} (hn : n < 3) (k : Int) : pageP [none, none, none] (n : Int) k = (([], false, 8), [none, none, none]) := page_none hn (by
  match n, hn with
  | 0, _ => rfl
  | 1, _ => rfl
  | 2, _ => rfl)
theorem open_full {V : List Fam} {R : RdV} (hf : freeP R = none) : openP V R [] = ((0, 7), R) := by
  unfold openP
  rw [if_neg (by simp), hf]
theorem page_empty (A C : List (List UInt8)) : pageP [some (A, 0), some (C, 0), some ([], 0)] 2 1 = (([], false, 0), [some (A, 0), some (C, 0), none]) := by
  have := page_rest (R := [some (A, 0), some (C, 0), some ([], 0)]) (n := 2) (L := []) (d := 0) (k := 1) (by omega) rfl (by omega) (by omega)
  rw [if_neg (by simp)] at this
  exact this

/-- The first reading has L left, and has stood for d ticks. -/
structure RS (L : List (List UInt8)) (d : Nat) (R : RdV) : Prop where
  tin : TIn 0 R
  at_ : R[0]? = some (some (L, d))
theorem RS.tick {L : List (List UInt8)} {d : Nat} {R : RdV} (h : RS L d R) (hd : d < 4) : RS L (d + 1) (tickP R) := ⟨h.tin.tick.zero, by unfold tickP; rw [List.getElem?_map, h.at_]; show some (tick1 _) = _; rw [tick1_more (by omega)]⟩
theorem RS.page {L : List (List UInt8)} {d : Nat} {R : RdV} (h : RS L d R) (hL : 2 ≤ L.length) : (pageP R 0 1).1 = (L.take 1, true, 0) ∧ RS (L.drop 1) 0 (pageP R 0 1).2 := by
  have := page_rest (R := R) (n := 0) (k := 1) (by omega) h.at_ (by omega) (by omega)
  rw [show ((0 : Nat) : Int) = 0 from rfl, if_pos (by simp; omega)] at this
  rw [this]
  exact ⟨rfl, h.tin.set _ fun L d e => by cases e; omega, List.getElem?_set_self (by rw [h.tin.len]; omega)⟩
theorem RS.page1 {L : List (List UInt8)} {d : Nat} {R : RdV} (h : RS L d R) : (pageP R 0 1).1.2.2 = 0 ∧ TIn 0 (pageP R 0 1).2 := by
  have := page_rest (R := R) (n := 0) (k := 1) (by omega) h.at_ (by omega) (by omega)
  rw [show ((0 : Nat) : Int) = 0 from rfl] at this
  rw [this]
  split
  · exact ⟨rfl, h.tin.set _ fun L d e => by cases e; omega⟩
  · exact ⟨rfl, h.tin.set _ fun L d e => by cases e⟩

set_option maxRecDepth 100000 in
set_option maxHeartbeats 8000000 in
theorem stays_law (zs : List Int) (vs : Value) (w : World) (hs : IntsArg w.heap.size w vs zs) (ht : Tab w) (_hzl : zs.length ≤ 17592186044416) :
    Calls Tryz.prog 10 #[vs] w fun e w' => e = .returned (.bool true) ∧ Below w.heap.size w w' := by
  obtain ⟨base, hbase⟩ : ∃ base, w.heap.size = base := ⟨_, rfl⟩
  have hpos : 0 < base := by rw [← hbase]; exact ht.lt
  have HBG : Hid (Calls Tryz.prog 12 #[] w _) := begun_any base w ht hpos (by omega)
  rw [hbase] at hs ⊢
  have HS : Hid (IntsArg base w vs zs) := hs
  obtain ⟨sa, scap, rfl, _⟩ := id hs
  have HBS : Hid (w.heap.size = base) := hbase
  clear hs ht hbase
  go_enter Tryz.func10, Tryz.ntmps10
  go_wp2_with fail
  refine HBG.out.mono ?_
  rintro e w0 ⟨t0, rfl, g0, hb0, hv0, hr0, ho0⟩
  have HI0 : Hid (∃ t', Bd base 0 w0 t' ∧ t'.b = t0.b ∧ Below base w w0 ∧ t'.rview = [none, none, none] ∧ t'.view = stV 0) := ⟨t0, hb0, rfl, gb_below g0 (by rw [HBS.out]; exact Nat.le_refl _), hr0, hv0⟩
  clear hb0 g0 hv0 hr0 HBG ho0
  go_wp2_with fail
  go_loopw [4] (fun v wr => ∃ i : Nat, v = .int .i64 (i : Int) ∧ i ≤ 20 ∧ Hid (∃ t', Bd base i wr t' ∧ t'.b = t0.b ∧ Below base w wr ∧ t'.rview = [none, none, none] ∧ t'.view = stV i)) (fun v _ => 20 - (intOf v).toNat)
  case atStart => exact ⟨0, rfl, Nat.zero_le _, HI0.out⟩
  case round =>
    obtain ⟨i, rfl, hi, HR⟩ := hrel
    clear HI0
    obtain ⟨t1, hbd, htb, hBl, hrv, hvw⟩ := HR.out
    by_cases hlt : i < 20
    · have hli : (i : Int) < 20 := by omega
      obtain ⟨j, hj⟩ : ∃ j, i / 5 % 3 = j := ⟨_, rfl⟩
      obtain ⟨k, hk⟩ : ∃ k, i % 5 = k := ⟨_, rfl⟩
      have hj3 : j < 3 := by rw [← hj]; exact Nat.mod_lt _ (by omega)
      have hmod : ((i : Int).tdiv 5).tmod 3 = (j : Int) := by
        rw [Int.tdiv_eq_ediv_of_nonneg (by omega), Int.tmod_eq_emod_of_nonneg (by omega), ← hj]; omega
      obtain ⟨dv, hdv⟩ : ∃ dv, (i : Int).tdiv 5 = dv := ⟨_, rfl⟩
      have hdb : 0 ≤ dv ∧ dv ≤ 3 := by
        rw [← hdv, Int.tdiv_eq_ediv_of_nonneg (by omega)]; omega
      obtain ⟨hd0, hd3⟩ := hdb
      rw [hdv] at hmod
      have HSE : Hid (Calls Tryz.prog 28 #[.int .i64 (j : Int), .int .i64 (i : Int)] wr _) := series_kany (j : Int) (i : Int) j k wr hbd.tab ⟨by omega, by omega⟩ ⟨by omega, by omega⟩ (by have := pickP_nat j 3; rw [Nat.mod_eq_of_lt hj3] at this; exact this) (by have := pickP_nat i 5; rw [hk] at this; exact this)
      have HX : Hid (Bd base i wr t1 ∧ t1.b = t0.b ∧ Below base w wr ∧ t1.rview = [none, none, none] ∧ t1.view = stV i) := ⟨hbd, htb, hBl, hrv, hvw⟩
      have HJ : Hid (i / 5 % 3 = j ∧ i % 5 = k) := ⟨hj, hk⟩
      clear hbd htb hBl hrv hvw hj hk HR
      go_wp2_with fail
      refine HSE.out.mono ?_
      rintro e w1 ⟨rfl, g1⟩
      have hb1 := HX.out.1.gb g1
      have hch := cChange hb1 (B (serT j k)) (i : Int) (by omega)
      have hst := (st_chg i hlt (st_kv i (by omega))).1
      rw [HJ.out.1, HJ.out.2] at hst
      rw [HX.out.2.1, HX.out.2.2.2.2, data_B, hst] at hch
      have HCH : Hid (Calls Tryz.prog 20 #[.pointer (some ⟨t0.b, 0, none⟩), .string (B (serT j k)), .int .i64 (i : Int)] w1 _) := hch
      have HX1 : Hid (Bd base i w1 t1 ∧ Below base w w1) := ⟨hb1, HX.out.2.2.1.trans (gb_below g1 HX.out.1.size)⟩
      generalize serT j k = S at HCH
      clear hch hb1 g1 hst
      go_wp2_with fail
      refine HCH.out.mono ?_
      rintro e w2 ⟨t2, c2, rfl, hst2, hr2, hc2⟩
      simp only [Prod.mk.injEq] at hc2
      obtain ⟨rfl, hv2⟩ := hc2
      have HN : Hid (∃ t', Bd base (i + 1) w2 t' ∧ t'.b = t0.b ∧ Below base w w2 ∧ t'.rview = [none, none, none] ∧ t'.view = stV (i + 1)) := ⟨t2, hst2.bd, hst2.b.trans HX.out.2.1, HX1.out.2.trans (hst2.below HX1.out.1.low HX1.out.1.size), hr2.trans HX.out.2.2.2.1, hv2⟩
      clear hst2 hr2 hv2 HX HX1 HCH HSE
      go_wp2
      go_roundw
      case rel => exact ⟨i + 1, by go_num, by omega, HN.out⟩
      case measure => simp [intOf]; omega
    · have hli : ¬ (i : Int) < 20 := by omega
      obtain rfl : i = 20 := by omega
      have H1 : Hid (StI base 20 t0.b w (fun R => R = [none, none, none]) wr) := ⟨t1, hbd, htb, hBl, hvw, hrv⟩
      obtain ⟨L0, hL0⟩ : ∃ L0, linesP (stV 20) = L0 := ⟨_, rfl⟩
      have hLl : L0.length = 28 := by rw [← hL0]; exact st_len
      have HO1 : Hid (Calls Tryz.prog 15 #[.pointer (some ⟨t0.b, 0, none⟩), .string ⟨#[]⟩] wr _) := H1.out.opn (P' := fun R => R = [some (L0, 0), none, none]) ⟨#[]⟩ (fun x => x = (0, 0)) (fun R hR => by
        subst hR
        rw [show (⟨#[]⟩ : ByteArray).data.toList = [] from rfl, open_free (show freeP ([none, none, none] : RdV) = some 0 from rfl), hL0]
        exact ⟨rfl, rfl⟩) (by omega)
      clear hbd htb hBl hrv hvw HR H1
      go_wp2_with fail
      refine HO1.out.mono ?_
      rintro e w2 ⟨n2, c2, rfl, hf2, h2⟩
      simp only [Prod.mk.injEq] at hf2
      obtain ⟨rfl, rfl⟩ := hf2
      have HO2 : Hid (Calls Tryz.prog 15 #[.pointer (some ⟨t0.b, 0, none⟩), .string ⟨#[108, 111, 97, 100]⟩] w2 _) := h2.opn (P' := RS (L0.drop 0) 0) ⟨#[108, 111, 97, 100]⟩ (fun x => x = (1, 0)) (fun R hR => by
        subst hR
        rw [show (⟨#[108, 111, 97, 100]⟩ : ByteArray).data.toList = [108, 111, 97, 100] from rfl, open_at names_ok.1 (show freeP ([some (L0, 0), none, none] : RdV) = some 1 from rfl)]
        refine ⟨rfl, ⟨rfl, fun L d hm => ?_⟩, rfl⟩
        have hm' : some (L, d) ∈ [some (L0, 0), some (linesP ((stV 20).drop (kplace lt [108, 111, 97, 100] ((stV 20).map Fam.nm))), 0), none] := hm
        simp only [List.mem_cons, Option.some.injEq, Prod.mk.injEq, List.not_mem_nil, or_false, reduceCtorEq] at hm'
        rcases hm' with ⟨_, rfl⟩ | ⟨_, rfl⟩ <;> omega) (by omega)
      clear h2 HO1
      go_wp2_with fail
      refine HO2.out.mono ?_
      rintro e w3 ⟨n3, c3, rfl, hf3, h3⟩
      simp only [Prod.mk.injEq] at hf3
      obtain ⟨rfl, rfl⟩ := hf3
      have H3 : Hid (StI base 22 t0.b w (RS (L0.drop 0) 0) w3) := h3
      clear h3 HO2 hL0
      go_wp2_with fail
      go_loopw [10] (fun v wr => ∃ i : Nat, v = .int .i64 (i : Int) ∧ i ≤ 12 ∧ i ≤ zs.length ∧ Hid (StI base 22 t0.b w (RS (L0.drop i) 0) wr)) (fun v _ => 12 - (intOf v).toNat)
      case atStart => exact ⟨0, rfl, Nat.zero_le _, Nat.zero_le _, H3.out⟩
      case round =>
        obtain ⟨i, rfl, hi12, hiz, HR⟩ := hrel
        clear H3 hi hlt hli
        by_cases hgo : i < zs.length ∧ i < 12
        · obtain ⟨hlt, hlt2⟩ := hgo
          have hli : (i : Int) < (zs.length : Int) := by omega
          have hli2 : (i : Int) < 12 := by omega
          obtain ⟨zb, zoff, rfl, _, hz64, hzc⟩ := (HS.out.below HR.out.choose_spec.2.2.1).get hlt
          obtain ⟨z, hz⟩ : ∃ z, zs[i] = z := ⟨_, rfl⟩
          rw [hz] at hz64 hzc
          have hpk := kpick_any z 5 wr hz64 (by omega) (by omega)
          obtain ⟨hn1, hn2⟩ := pickP_bound z 5 (by omega)
          obtain ⟨n, hn⟩ : ∃ n, pickP z 5 = n := ⟨_, rfl⟩
          rw [hn] at hpk hn1 hn2
          have HPK : Hid (Calls Tryz.prog 23 #[.int .i64 z, .int .i64 5] wr _) := hpk
          clear hpk hn hz hz64
          go_wp2_with fail
          refine HPK.out.mono ?_
          rintro e w4 ⟨rfl, rfl⟩
          go_wp2_with fail
          go_loopw [11] (fun v wr => ∃ k d : Nat, v = .int .i64 (k : Int) ∧ k + d ≤ 4 ∧ Hid (StI base 22 t0.b w (RS (L0.drop i) d) wr)) (fun v _ => (intOf v).toNat)
          case atStart => exact ⟨n.toNat, 0, by rw [Int.toNat_of_nonneg hn1], by omega, HR.out⟩
          case round =>
            obtain ⟨k, d, rfl, hkd, HK⟩ := hrel
            clear HR hzc
            by_cases hk0 : 0 < k
            · have hkl : (0 : Int) < (k : Int) := by omega
              have HTK : Hid (Calls Tryz.prog 22 #[.pointer (some ⟨t0.b, 0, none⟩)] wr _) := HK.out.tick (P' := RS (L0.drop i) (d + 1)) fun R hR => hR.tick (by omega)
              go_wp2_with fail
              refine HTK.out.mono ?_
              rintro e w5 ⟨rfl, h5⟩
              have H5 : Hid (StI base 22 t0.b w (RS (L0.drop i) (d + 1)) w5) := h5
              clear h5 HTK HK
              go_wp2
              go_roundw
              case rel => exact ⟨k - 1, d + 1, by rw [show ((k - 1 : Nat) : Int) = (k : Int) - 1 by omega], by omega, H5.out⟩
              case measure => simp [intOf]; omega
            · have hkl : ¬ (0 : Int) < (k : Int) := by omega
              have HPG : Hid (Calls Tryz.prog 16 #[.pointer (some ⟨t0.b, 0, none⟩), .int .i64 0, .int .i64 1] wr _) := HK.out.page (P' := RS (L0.drop (i + 1)) 0) 0 1 (fun x => x = ((L0.drop i).take 1, true, 0)) (fun R hR => by
                have := hR.page (by simp; omega)
                rw [List.drop_drop] at this
                exact this) (by omega)
              go_wp2_with fail
              refine HPG.out.mono ?_
              rintro e w5 ⟨la, lc, ln, mo, c, rfl, hf5, h5⟩
              simp only [Prod.mk.injEq] at hf5
              obtain ⟨rfl, rfl, rfl⟩ := hf5
              have hl1 : ((L0.drop i).take 1).length = 1 := by simp; omega
              rw [hl1]
              have H5 : Hid (StI base 22 t0.b w (RS (L0.drop (i + 1)) 0) w5) := h5
              clear h5 HPG HK
              go_wp2
              go_roundw
              case rel => exact ⟨i + 1, by go_num, by omega, by omega, H5.out⟩
              case measure => simp [intOf]; omega
        · go_wp2_with fail
          all_goals
            go_loopw [15] (fun v wr => ∃ j : Nat, v = .int .i64 (j : Int) ∧ j ≤ 4 ∧ Hid (StI base 22 t0.b w (RS (L0.drop i) j) wr)) (fun v _ => 4 - (intOf v).toNat)
            case atStart => exact ⟨0, rfl, Nat.zero_le _, HR.out⟩
            case round =>
              obtain ⟨j, rfl, hj4, HJ⟩ := hrel
              clear HR
              by_cases hjl : j < 4
              · have hjl' : (j : Int) < 4 := by omega
                have HTK : Hid (Calls Tryz.prog 22 #[.pointer (some ⟨t0.b, 0, none⟩)] wr _) := HJ.out.tick (P' := RS (L0.drop i) (j + 1)) fun R hR => hR.tick (by omega)
                go_wp2_with fail
                refine HTK.out.mono ?_
                rintro e w5 ⟨rfl, h5⟩
                have H5 : Hid (StI base 22 t0.b w (RS (L0.drop i) (j + 1)) w5) := h5
                clear h5 HTK HJ
                go_wp2
                go_roundw
                case rel => exact ⟨j + 1, by go_num, by omega, H5.out⟩
                case measure => simp [intOf]; omega
              · have hjl' : ¬ (j : Int) < 4 := by omega
                have HPG : Hid (Calls Tryz.prog 16 #[.pointer (some ⟨t0.b, 0, none⟩), .int .i64 0, .int .i64 1] wr _) := HJ.out.page (P' := TIn 0) 0 1 (fun x => x.2.2 = 0) (fun R hR => hR.page1) (by omega)
                go_wp2_with fail
                refine HPG.out.mono ?_
                rintro e w5 ⟨la, lc, ln, mo, c, rfl, hf5, h5⟩
                have hf5' : c = 0 := hf5
                subst hf5'
                have H5 : Hid (StI base 22 t0.b w (TIn 0) w5) := h5
                clear h5 HPG HJ hf5
                go_wp2_with fail
                go_loopw [19] (fun v wr => ∃ j : Nat, v = .int .i64 (j : Int) ∧ j ≤ 5 ∧ Hid (StI base 22 t0.b w (TIn j) wr)) (fun v _ => 5 - (intOf v).toNat)
                case atStart => exact ⟨0, rfl, Nat.zero_le _, H5.out⟩
                case round =>
                  obtain ⟨q, rfl, hq5, HQ⟩ := hrel
                  clear H5
                  by_cases hql : q < 5
                  · have hql' : (q : Int) < 5 := by omega
                    have HTK : Hid (Calls Tryz.prog 22 #[.pointer (some ⟨t0.b, 0, none⟩)] wr _) := HQ.out.tick (P' := TIn (q + 1)) fun R hR => hR.tick
                    go_wp2_with fail
                    refine HTK.out.mono ?_
                    rintro e w6 ⟨rfl, h6⟩
                    have H6 : Hid (StI base 22 t0.b w (TIn (q + 1)) w6) := h6
                    clear h6 HTK HQ
                    go_wp2
                    go_roundw
                    case rel => exact ⟨q + 1, by go_num, by omega, H6.out⟩
                    case measure => simp [intOf]; omega
                  · have hql' : ¬ (q : Int) < 5 := by omega
                    obtain rfl : q = 5 := by omega
                    have HP0 : Hid (Calls Tryz.prog 16 #[.pointer (some ⟨t0.b, 0, none⟩), .int .i64 0, .int .i64 1] wr _) := HQ.out.page (P' := fun R => R = [none, none, none]) 0 1 (fun x => x = ([], false, 8)) (fun R hR => by
                      obtain rfl := hR.over
                      have := page_no (n := 0) (by omega) 1
                      rw [show ((0 : Nat) : Int) = 0 from rfl] at this
                      rw [this]
                      exact ⟨rfl, rfl⟩) (by omega)
                    go_wp2_with fail
                    refine HP0.out.mono ?_
                    rintro e w6 ⟨la6, lc6, ln6, mo6, c6, rfl, hf6, h6⟩
                    simp only [Prod.mk.injEq] at hf6
                    obtain ⟨rfl, rfl, rfl⟩ := hf6
                    have HP1 : Hid (Calls Tryz.prog 16 #[.pointer (some ⟨t0.b, 0, none⟩), .int .i64 1, .int .i64 1] w6 _) := h6.page (P' := fun R => R = [none, none, none]) 1 1 (fun x => x = ([], false, 8)) (fun R hR => by
                      subst hR
                      have := page_no (n := 1) (by omega) 1
                      rw [show ((1 : Nat) : Int) = 1 from rfl] at this
                      rw [this]
                      exact ⟨rfl, rfl⟩) (by omega)
                    clear h6 HP0 HQ
                    go_wp2_with fail
                    refine HP1.out.mono ?_
                    rintro e w7 ⟨la7, lc7, ln7, mo7, c7, rfl, hf7, h7⟩
                    simp only [Prod.mk.injEq] at hf7
                    obtain ⟨rfl, rfl, rfl⟩ := hf7
                    have HO1 : Hid (Calls Tryz.prog 15 #[.pointer (some ⟨t0.b, 0, none⟩), .string ⟨#[]⟩] w7 _) := h7.opn (P' := fun R => ∃ A, R = [some (A, 0), none, none]) ⟨#[]⟩ (fun x => x = (0, 0)) (fun R hR => by
                      subst hR
                      rw [show (⟨#[]⟩ : ByteArray).data.toList = [] from rfl, open_free (show freeP ([none, none, none] : RdV) = some 0 from rfl)]
                      exact ⟨rfl, _, rfl⟩) (by omega)
                    clear h7 HP1
                    go_wp2_with fail
                    refine HO1.out.mono ?_
                    rintro e w8 ⟨n8, c8, rfl, hf8, h8⟩
                    simp only [Prod.mk.injEq] at hf8
                    obtain ⟨rfl, rfl⟩ := hf8
                    have HO2 : Hid (Calls Tryz.prog 15 #[.pointer (some ⟨t0.b, 0, none⟩), .string ⟨#[119, 97, 105, 116]⟩] w8 _) := h8.opn (P' := fun R => ∃ A C, R = [some (A, 0), some (C, 0), none]) ⟨#[119, 97, 105, 116]⟩ (fun x => x = (1, 0)) (fun R hR => by
                      obtain ⟨A, rfl⟩ := hR
                      rw [show (⟨#[119, 97, 105, 116]⟩ : ByteArray).data.toList = [119, 97, 105, 116] from rfl, open_at names_ok.2.1 (show freeP ([some (A, 0), none, none] : RdV) = some 1 from rfl)]
                      exact ⟨rfl, _, _, rfl⟩) (by omega)
                    clear h8 HO1
                    go_wp2_with fail
                    refine HO2.out.mono ?_
                    rintro e w9 ⟨n9, c9, rfl, hf9, h9⟩
                    simp only [Prod.mk.injEq] at hf9
                    obtain ⟨rfl, rfl⟩ := hf9
                    have HO3 : Hid (Calls Tryz.prog 15 #[.pointer (some ⟨t0.b, 0, none⟩), .string ⟨#[120]⟩] w9 _) := h9.opn (P' := fun R => ∃ A C, R = [some (A, 0), some (C, 0), some ([], 0)]) ⟨#[120]⟩ (fun x => x = (2, 0)) (fun R hR => by
                      obtain ⟨A, C, rfl⟩ := hR
                      rw [show (⟨#[120]⟩ : ByteArray).data.toList = [120] from rfl, open_at names_ok.2.2 (show freeP ([some (A, 0), some (C, 0), none] : RdV) = some 2 from rfl), x_lines]
                      exact ⟨rfl, _, _, rfl⟩) (by omega)
                    clear h9 HO2
                    go_wp2_with fail
                    refine HO3.out.mono ?_
                    rintro e wa ⟨na, ca, rfl, hfa, ha⟩
                    simp only [Prod.mk.injEq] at hfa
                    obtain ⟨rfl, rfl⟩ := hfa
                    have HO4 : Hid (Calls Tryz.prog 15 #[.pointer (some ⟨t0.b, 0, none⟩), .string ⟨#[]⟩] wa _) := ha.opn (P' := fun R => ∃ A C, R = [some (A, 0), some (C, 0), some ([], 0)]) ⟨#[]⟩ (fun x => x = (0, 7)) (fun R hR => by
                      obtain ⟨A, C, rfl⟩ := hR
                      rw [show (⟨#[]⟩ : ByteArray).data.toList = [] from rfl, open_full (show freeP ([some (A, 0), some (C, 0), some ([], 0)] : RdV) = none from rfl)]
                      exact ⟨rfl, A, C, rfl⟩) (by omega)
                    clear ha HO3
                    go_wp2_with fail
                    refine HO4.out.mono ?_
                    rintro e wb ⟨nb, cb, rfl, hfb, hb⟩
                    simp only [Prod.mk.injEq] at hfb
                    obtain ⟨rfl, rfl⟩ := hfb
                    have HPZ : Hid (Calls Tryz.prog 16 #[.pointer (some ⟨t0.b, 0, none⟩), .int .i64 2, .int .i64 1] wb _) := hb.page (P' := fun _ => True) 2 1 (fun x => x = ([], false, 0)) (fun R hR => by
                      obtain ⟨A, C, rfl⟩ := hR
                      rw [page_empty]
                      exact ⟨rfl, trivial⟩) (by omega)
                    clear hb HO4
                    go_wp2_with fail
                    refine HPZ.out.mono ?_
                    rintro e wc ⟨lac, lcc, lnc, moc, cc, rfl, hfc, hc⟩
                    simp only [Prod.mk.injEq] at hfc
                    obtain ⟨rfl, rfl, rfl⟩ := hfc
                    have HC : Hid (Below base w wc) := hc.choose_spec.2.2.1
                    clear hc HPZ
                    go_wp2
                    go_ret
                    exact ⟨rfl, HC.out⟩

end Go.Proofs.YtcfdemhokbddiaaGreatDoor
