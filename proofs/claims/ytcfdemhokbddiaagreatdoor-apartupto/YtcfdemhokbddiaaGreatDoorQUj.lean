/-
  Sums: the law walks to true.
-/
import Derived.Test.YtcfdemhokbddiaaGreatDoorQUi

namespace Go.Proofs.YtcfdemhokbddiaaGreatDoor
open Go.RowKit

section
variable {k : Nat} {s l t h n : Int} (hk : k ≤ 1000) (hn : 0 ≤ n ∧ n < 200) (hs : 0 ≤ s ∧ s ≤ 200 * (k : Int))
include hk hn hs
theorem chg_h : chgP (sumV k s l t h) hxT n = (0, sumA k s l t h n) ∧ KV SA (sumA k s l t h n) := by
  obtain ⟨h1, _, h3⟩ := chg_kv (kv_sum k s l t h) SA_len 0 (by omega) hxT hxT n hx_txt (by simp [SA]) (by omega) (fun _ => hn.1)
  rw [sum_h hk hn hs] at h1 h3
  exact ⟨h1, h3⟩
theorem chg_l : chgP (sumA k s l t h n) nmL (-n) = (0, sumB k s t h n) ∧ KV SA (sumB k s t h n) := by
  obtain ⟨h1, _, h3⟩ := chg_kv (chg_h (l := l) (t := t) (h := h) hk hn hs).2 SA_len 1 (by omega) nmL nmL (-n) ld_txt (by simp [SA]) (by omega) (fun e => by omega)
  rw [sum_l hk hn hs] at h1 h3
  exact ⟨h1, h3⟩
theorem chg_w (h0 : k = 0 → s = 0 ∧ t = 0 ∧ h = 0) : chgP (sumB k s t h n) wyT (n - 50) = (0, sumV (k + 1) (s + n) (-n) (t + upN n 10) (h + upN n 100)) := by
  obtain ⟨h1, _, _⟩ := chg_kv (chg_l (l := 0) (t := t) (h := h) hk hn hs).2 SA_len 2 (by omega) wyT wyT (n - 50) wy_txt (by simp [SA]) (by omega) (fun e => by omega)
  rw [sum_w hk hn hs h0] at h1
  exact h1
end
theorem upN_b (n lim : Int) : 0 ≤ upN n lim ∧ upN n lim ≤ 1 := by unfold upN; split <;> omega

theorem t1B : B t1L = ⟨#[35, 32, 104, 105, 116, 115, 32, 99, 111, 117, 110, 116, 101, 114]⟩ := by kernel_rfl
theorem t2B : B t2L = ⟨#[35, 32, 108, 111, 97, 100, 32, 103, 97, 117, 103, 101]⟩ := by kernel_rfl
theorem t3B : B t3L = ⟨#[35, 32, 119, 97, 105, 116, 32, 104, 105, 115, 116, 111, 103, 114, 97, 109]⟩ := by kernel_rfl
theorem strs3 (a b c : List UInt8) : strs [a, b, c] = [.string (B a), .string (B b), .string (B c)] := rfl
theorem strs8 (a b c d e f g h : List UInt8) : strs [a, b, c, d, e, f, g, h] = [.string (B a), .string (B b), .string (B c), .string (B d), .string (B e), .string (B f), .string (B g), .string (B h)] := rfl

/-- Lines that stand while the memory grows. -/
def SQ (base : Nat) (w : World) (t : GT) (s : Nat) (v : Value) (L : List (List UInt8)) (W : World) : Prop := Tab W ∧ Row t W s v L ∧ Below base w W ∧ base ≤ W.heap.size
theorem SQ.gb {base : Nat} {w : World} {t : GT} {s : Nat} {v : Value} {L : List (List UInt8)} {W W' : World} (h : SQ base w t s v L W) (g : W.grownBy W' none) : SQ base w t s v L W' := ⟨h.1.gb g, h.2.1.gb g, h.2.2.1.trans (gb_below g h.2.2.2), Nat.le_trans h.2.2.2 g.size⟩
theorem SQ.hgb {base : Nat} {w : World} {t : GT} {s : Nat} {v : Value} {L : List (List UInt8)} {W W' : World} (h : SQ base w t s v L W) (g : W.grownBy W' none) : Hid (SQ base w t s v L W') := h.gb g

/-- Behind i numbers. -/
def SumI (base b : Nat) (w : World) (i : Nat) (s l p q : Int) (wr : World) : Prop :=
  ∃ t', Bd base (3 * i) wr t' ∧ t'.b = b ∧ Below base w wr ∧ t'.rview = [none, none, none] ∧ t'.view = sumV i s l p q

set_option maxRecDepth 100000 in
set_option maxHeartbeats 8000000 in
theorem sums_law (zs : List Int) (vs : Value) (w : World) (hs : IntsArg w.heap.size w vs zs) (ht : Tab w) (hzl : zs.length ≤ 17592186044416) :
    Calls Tryz.prog 7 #[vs] w fun e w' => e = .returned (.bool true) ∧ Below w.heap.size w w' := by
  obtain ⟨base, hbase⟩ : ∃ base, w.heap.size = base := ⟨_, rfl⟩
  have hpos : 0 < base := by rw [← hbase]; exact ht.lt
  have HBG : Hid (Calls Tryz.prog 12 #[] w _) := begun_any base w ht hpos (by omega)
  rw [hbase] at hs ⊢
  have HS : Hid (IntsArg base w vs zs) := hs
  obtain ⟨sa, scap, rfl, _⟩ := id hs
  have HBS : Hid (w.heap.size = base) := hbase
  clear hs ht hbase
  go_enter Tryz.func7, Tryz.ntmps7
  go_wp2_with fail
  refine HBG.out.mono ?_
  rintro e w0 ⟨t0, rfl, g0, hb0, hv0, hr0, ho0⟩
  have HI0 : Hid (SumI base t0.b w 0 0 0 0 0 w0) := ⟨t0, hb0, rfl, gb_below g0 (by rw [HBS.out]; exact Nat.le_refl _), hr0, hv0⟩
  clear hb0 g0 hv0 hr0 HBG ho0
  go_wp2_with fail
  go_loopw [4, 5, 6, 7, 8] (fun a b c d v wr => ∃ (i : Nat) (s l p q : Int), a = .int .i64 s ∧ b = .int .i64 p ∧ c = .int .i64 q ∧ d = .int .i64 l ∧ v = .int .i64 (i : Int) ∧ i ≤ zs.length ∧ i ≤ 1000 ∧ (0 ≤ s ∧ s ≤ 200 * (i : Int)) ∧ (0 ≤ p ∧ p ≤ (i : Int)) ∧ (0 ≤ q ∧ q ≤ (i : Int)) ∧ (-200 ≤ l ∧ l ≤ 0) ∧ (i = 0 → s = 0 ∧ p = 0 ∧ q = 0) ∧ Hid (SumI base t0.b w i s l p q wr)) (fun _ _ _ _ v _ => 1000 - (intOf v).toNat)
  case atStart => exact ⟨0, 0, 0, 0, 0, rfl, rfl, rfl, rfl, rfl, Nat.zero_le _, Nat.zero_le _, by omega, by omega, by omega, by omega, fun _ => ⟨rfl, rfl, rfl⟩, HI0.out⟩
  case round =>
    obtain ⟨i, s, l, p, q, rfl, rfl, rfl, rfl, rfl, hi, hik, hs, hp, hq, hl, h0, HR⟩ := hrel
    clear HI0
    by_cases hgo : i < zs.length ∧ i < 1000
    · obtain ⟨hlt, hlt2⟩ := hgo
      have hli : (i : Int) < (zs.length : Int) := by omega
      have hli2 : (i : Int) < 1000 := by omega
      obtain ⟨t1, hbd, htb, hBl, hrv, hvw⟩ := HR.out
      obtain ⟨zb, zoff, rfl, _, hz64, hzc⟩ := (HS.out.below hBl).get hlt
      obtain ⟨z, hz⟩ : ∃ z, zs[i] = z := ⟨_, rfl⟩
      rw [hz] at hz64 hzc
      have hpk := kpick_any z 200 wr hz64 (by omega) (by omega)
      obtain ⟨hn1, hn2⟩ := pickP_bound z 200 (by omega)
      obtain ⟨n, hn⟩ : ∃ n, pickP z 200 = n := ⟨_, rfl⟩
      rw [hn] at hpk hn1 hn2
      have HPK : Hid (Calls Tryz.prog 23 #[.int .i64 z, .int .i64 200] wr _) := hpk
      have hch := cChange hbd (⟨#[104, 105, 116, 115, 123, 120, 61, 34, 34, 125]⟩ : ByteArray) n (by omega)
      rw [htb, hvw, show (⟨#[104, 105, 116, 115, 123, 120, 61, 34, 34, 125]⟩ : ByteArray).data.toList = hxT from rfl, (chg_h (l := l) (t := p) (h := q) hik ⟨hn1, hn2⟩ hs).1] at hch
      have HCH : Hid (Calls Tryz.prog 20 #[.pointer (some ⟨t0.b, 0, none⟩), .string ⟨#[104, 105, 116, 115, 123, 120, 61, 34, 34, 125]⟩, .int .i64 n] wr _) := hch
      have HX : Hid (t1.b = t0.b ∧ Below base w wr ∧ (∀ b ∈ t1.own, base ≤ b) ∧ base ≤ wr.heap.size ∧ t1.rview = [none, none, none]) := ⟨htb, hBl, hbd.low, hbd.size, hrv⟩
      clear hch hpk hbd htb hBl hrv hvw HR hn hz hz64
      go_wp2_with fail
      refine HPK.out.mono ?_
      rintro e w1 ⟨rfl, rfl⟩
      go_wp2_with fail
      refine HCH.out.mono ?_
      rintro e w2 ⟨t2, c2, rfl, hst2, hr2, hc2⟩
      simp only [Prod.mk.injEq] at hc2
      obtain ⟨rfl, hv2⟩ := hc2
      have hch := cChange hst2.bd (⟨#[108, 111, 97, 100]⟩ : ByteArray) (-n) (by omega)
      rw [hst2.b, HX.out.1, hv2, show (⟨#[108, 111, 97, 100]⟩ : ByteArray).data.toList = nmL from rfl, (chg_l (l := l) (t := p) (h := q) hik ⟨hn1, hn2⟩ hs).1] at hch
      have HCH2 : Hid (Calls Tryz.prog 20 #[.pointer (some ⟨t0.b, 0, none⟩), .string ⟨#[108, 111, 97, 100]⟩, .int .i64 (-n)] w2 _) := hch
      have HX2 : Hid (t2.b = t0.b ∧ Below base w w2 ∧ (∀ b ∈ t2.own, base ≤ b) ∧ base ≤ w2.heap.size ∧ t2.rview = [none, none, none]) := ⟨hst2.b.trans HX.out.1, HX.out.2.1.trans (hst2.below HX.out.2.2.1 HX.out.2.2.2.1), hst2.bd.low, hst2.bd.size, hr2.trans HX.out.2.2.2.2⟩
      clear hch hst2 hr2 hv2 HX HPK HCH
      go_wp2_with fail
      refine HCH2.out.mono ?_
      rintro e w3 ⟨t3, c3, rfl, hst3, hr3, hc3⟩
      simp only [Prod.mk.injEq] at hc3
      obtain ⟨rfl, hv3⟩ := hc3
      have hch := cChange hst3.bd (⟨#[119, 97, 105, 116, 123, 121, 61, 34, 97, 32, 98, 34, 125]⟩ : ByteArray) (n - 50) (by omega)
      rw [hst3.b, HX2.out.1, hv3, show (⟨#[119, 97, 105, 116, 123, 121, 61, 34, 97, 32, 98, 34, 125]⟩ : ByteArray).data.toList = wyT from rfl, chg_w hik ⟨hn1, hn2⟩ hs h0] at hch
      have HCH3 : Hid (Calls Tryz.prog 20 #[.pointer (some ⟨t0.b, 0, none⟩), .string ⟨#[119, 97, 105, 116, 123, 121, 61, 34, 97, 32, 98, 34, 125]⟩, .int .i64 (n - 50)] w3 _) := hch
      have HX3 : Hid (t3.b = t0.b ∧ Below base w w3 ∧ (∀ b ∈ t3.own, base ≤ b) ∧ base ≤ w3.heap.size ∧ t3.rview = [none, none, none]) := ⟨hst3.b.trans HX2.out.1, HX2.out.2.1.trans (hst3.below HX2.out.2.2.1 HX2.out.2.2.2.1), hst3.bd.low, hst3.bd.size, hr3.trans HX2.out.2.2.2.2⟩
      clear hch hst3 hr3 hv3 HX2 HCH2
      go_wp2_with fail
      refine HCH3.out.mono ?_
      rintro e w4 ⟨t4, c4, rfl, hst4, hr4, hc4⟩
      simp only [Prod.mk.injEq] at hc4
      obtain ⟨rfl, hv4⟩ := hc4
      have HN : Hid (SumI base t0.b w (i + 1) (s + n) (-n) (p + upN n 10) (q + upN n 100) w4) := ⟨t4, hst4.bd.mono (by omega), hst4.b.trans HX3.out.1, HX3.out.2.1.trans (hst4.below HX3.out.2.2.1 HX3.out.2.2.2.1), hr4.trans HX3.out.2.2.2.2, hv4⟩
      clear hst4 hr4 hv4 HX3 HCH3 hzc
      by_cases h10 : n - 50 ≤ 10
      · have h100 : n - 50 ≤ 100 := by omega
        rw [show upN n 10 = 1 from if_pos h10, show upN n 100 = 1 from if_pos h100] at HN
        go_wp2
        go_roundw
        case rel => exact ⟨i + 1, s + n, -n, p + 1, q + 1, by go_num, by go_num, by go_num, by go_num, by go_num, by omega, by omega, by omega, by omega, by omega, by omega, fun e => by omega, HN.out⟩
        case measure => simp [intOf]; omega
      · by_cases h100 : n - 50 ≤ 100
        · rw [show upN n 10 = 0 from if_neg h10, show upN n 100 = 1 from if_pos h100, Int.add_zero] at HN
          go_wp2
          go_roundw
          case rel => exact ⟨i + 1, s + n, -n, p, q + 1, by go_num, by go_num, by go_num, by go_num, by go_num, by omega, by omega, by omega, by omega, by omega, by omega, fun e => by omega, HN.out⟩
          case measure => simp [intOf]; omega
        · rw [show upN n 10 = 0 from if_neg h10, show upN n 100 = 0 from if_neg h100, Int.add_zero, Int.add_zero] at HN
          go_wp2
          go_roundw
          case rel => exact ⟨i + 1, s + n, -n, p, q, by go_num, by go_num, by go_num, by go_num, by go_num, by omega, by omega, by omega, by omega, by omega, by omega, fun e => by omega, HN.out⟩
          case measure => simp [intOf]; omega
    · obtain ⟨t1, hbd, htb, hBl, hrv, hvw⟩ := HR.out
      have hls := (kv_sum i s l p q).lines SA_len
      rw [← hvw] at hls
      have hwh := whole_any base (3 * i) 0 t1 20 wr hbd (by omega) (by rw [hrv]; rfl) (by omega) (by omega) ⟨by omega, by omega⟩
      rw [htb, hvw] at hwh
      have HWH : Hid (Calls Tryz.prog 14 #[.pointer (some ⟨t0.b, 0, none⟩), .int .i64 20] wr _) := hwh
      have HX : Hid (t1.b = t0.b ∧ Below base w wr ∧ (∀ b ∈ t1.own, base ≤ b) ∧ base ≤ wr.heap.size) := ⟨htb, hBl, hbd.low, hbd.size⟩
      clear hwh hls hbd htb hBl hrv hvw HR
      by_cases hz0 : i = 0
      · subst hz0
        have hzn : zs.length = 0 := by omega
        rw [hzn]
        rw [sum_lines0] at HWH
        go_wp2_with fail
        refine HWH.out.mono ?_
        rintro e w2 ⟨t2, vl, rfl, hst2, _, _, hrow2, hfar2⟩
        obtain ⟨la, lc, rfl, _, _⟩ := own_shape1 hrow2
        have hB2 := HX.out.2.1.trans (hst2.below HX.out.2.2.1 HX.out.2.2.2)
        have gA := gb_alloc (gb_refl w2 none) (.cells #[.string ⟨#[35, 32, 104, 105, 116, 115, 32, 99, 111, 117, 110, 116, 101, 114]⟩, .string ⟨#[35, 32, 108, 111, 97, 100, 32, 103, 97, 117, 103, 101]⟩, .string ⟨#[35, 32, 119, 97, 105, 116, 32, 104, 105, 115, 116, 111, 103, 114, 97, 109]⟩] 9)
        have hr : Row t2 w2 wr.heap.size (.slice la 3 lc) [t1L, t2L, t3L] := ⟨hrow2, hfar2⟩
        have hu := strAt_alloc w2 [t1L, t2L, t3L] #[.string ⟨#[35, 32, 104, 105, 116, 115, 32, 99, 111, 117, 110, 116, 101, 114]⟩, .string ⟨#[35, 32, 108, 111, 97, 100, 32, 103, 97, 117, 103, 101]⟩, .string ⟨#[35, 32, 119, 97, 105, 116, 32, 104, 105, 115, 116, 111, 103, 114, 97, 109]⟩] 3 (by rw [strs3, t1B, t2B, t3B])
        have HSA : Hid (Calls Tryz.prog 19 #[.slice la 3 lc, .slice (some ⟨w2.heap.size, 0, none⟩) 3 3] (w2.alloc (.cells #[.string ⟨#[35, 32, 104, 105, 116, 115, 32, 99, 111, 117, 110, 116, 101, 114]⟩, .string ⟨#[35, 32, 108, 111, 97, 100, 32, 103, 97, 117, 103, 101]⟩, .string ⟨#[35, 32, 119, 97, 105, 116, 32, 104, 105, 115, 116, 111, 103, 114, 97, 109]⟩] 9)) _) := same_any _ _ [t1L, t2L, t3L] [t1L, t2L, t3L] _ (hr.gb gA).strAt hu (by simp)
        have HBL : Hid (Below base w (w2.alloc (.cells #[.string ⟨#[35, 32, 104, 105, 116, 115, 32, 99, 111, 117, 110, 116, 101, 114]⟩, .string ⟨#[35, 32, 108, 111, 97, 100, 32, 103, 97, 117, 103, 101]⟩, .string ⟨#[35, 32, 119, 97, 105, 116, 32, 104, 105, 115, 116, 111, 103, 114, 97, 109]⟩] 9)) ∧ base ≤ (w2.alloc (.cells #[.string ⟨#[35, 32, 104, 105, 116, 115, 32, 99, 111, 117, 110, 116, 101, 114]⟩, .string ⟨#[35, 32, 108, 111, 97, 100, 32, 103, 97, 117, 103, 101]⟩, .string ⟨#[35, 32, 119, 97, 105, 116, 32, 104, 105, 115, 116, 111, 103, 114, 97, 109]⟩] 9)).heap.size) := ⟨hB2.trans (gb_below gA hst2.bd.size), (hst2.bd.gb gA).size⟩
        clear hB2 gA hr hu hst2 hrow2 hfar2 HX HWH
        go_wp2_with fail
        refine HSA.out.mono ?_
        rintro e wG ⟨rfl, gG⟩
        have HBG : Hid (Below base w wG) := HBL.out.1.trans (gb_below gG HBL.out.2)
        clear gG HSA HBL
        go_wp2
        go_ret
        exact ⟨by simp, HBG.out⟩
      · obtain ⟨k, rfl⟩ : ∃ k, i = k + 1 := ⟨i - 1, by omega⟩
        have hmin : min (zs.length : Int) 1000 = (k : Int) + 1 := by omega
        have hmin0 : (0 : Int) < min (zs.length : Int) 1000 := by omega
        have hk1 : (k : Int) + 1 ≤ 1000 := by omega
        have hs' : s ≤ 200 * ((k : Int) + 1) := by have := hs.2; omega
        have hs0 := hs.1
        have hp0 := hp.1
        have hp1 : p ≤ 1000 := by omega
        have hq0 := hq.1
        have hq1 : q ≤ 1000 := by omega
        obtain ⟨hl0, hl1⟩ := hl
        have HL := sum_lines k s l p q
        obtain ⟨Ls, hLs⟩ : ∃ Ls, linesP (sumV (k + 1) s l p q) = Ls := ⟨_, rfl⟩
        rw [hLs] at HWH HL
        have l1 := itoa_len (n := s) ⟨by omega, by omega⟩
        have l2 := itoa_len (n := l) ⟨by omega, by omega⟩
        have l3 := itoa_len (n := p) ⟨by omega, by omega⟩
        have l4 := itoa_len (n := q) ⟨by omega, by omega⟩
        have l5 := itoa_len (n := (k : Int) + 1) ⟨by omega, by omega⟩
        have l6 := itoa_len (n := s - 50 * ((k : Int) + 1)) ⟨by omega, by omega⟩
        have HT1 : Hid (∀ w, Tab w → Calls Tryz.prog 24 #[.int .i64 s] w fun e w' => e = .returned (.string (B (Lib.itoa s))) ∧ w.grownBy w' none) := fun w h => itoa_any s ⟨by omega, by omega⟩ w h
        have HT2 : Hid (∀ w, Tab w → Calls Tryz.prog 24 #[.int .i64 l] w fun e w' => e = .returned (.string (B (Lib.itoa l))) ∧ w.grownBy w' none) := fun w h => itoa_any l ⟨by omega, by omega⟩ w h
        have HT3 : Hid (∀ w, Tab w → Calls Tryz.prog 24 #[.int .i64 p] w fun e w' => e = .returned (.string (B (Lib.itoa p))) ∧ w.grownBy w' none) := fun w h => itoa_any p ⟨by omega, by omega⟩ w h
        have HT4 : Hid (∀ w, Tab w → Calls Tryz.prog 24 #[.int .i64 q] w fun e w' => e = .returned (.string (B (Lib.itoa q))) ∧ w.grownBy w' none) := fun w h => itoa_any q ⟨by omega, by omega⟩ w h
        have HT5 : Hid (∀ w, Tab w → Calls Tryz.prog 24 #[.int .i64 ((k : Int) + 1)] w fun e w' => e = .returned (.string (B (Lib.itoa ((k : Int) + 1)))) ∧ w.grownBy w' none) := fun w h => itoa_any _ ⟨by omega, by omega⟩ w h
        have HT6 : Hid (∀ w, Tab w → Calls Tryz.prog 24 #[.int .i64 (s - 50 * ((k : Int) + 1))] w fun e w' => e = .returned (.string (B (Lib.itoa (s - 50 * ((k : Int) + 1))))) ∧ w.grownBy w' none) := fun w h => itoa_any _ ⟨by omega, by omega⟩ w h
        generalize Lib.itoa s = N1 at HL HT1 l1
        generalize Lib.itoa l = N2 at HL HT2 l2
        generalize Lib.itoa p = N3 at HL HT3 l3
        generalize Lib.itoa q = N4 at HL HT4 l4
        generalize Lib.itoa ((k : Int) + 1) = N5 at HL HT5 l5
        generalize Lib.itoa (s - 50 * ((k : Int) + 1)) = N6 at HL HT6 l6
        have a1 : ∀ w, (Op.stringOp .add ⟨#[104, 105, 116, 115, 123, 120, 61, 34, 34, 125, 32]⟩ (B N1)).run Tryz.prog w = .ok (.string (B ([104, 105, 116, 115, 123, 120, 61, 34, 34, 125, 32] ++ N1))) w := add_lists [104, 105, 116, 115, 123, 120, 61, 34, 34, 125, 32] N1 (by simp) (by omega)
        have a2 : ∀ w, (Op.stringOp .add ⟨#[108, 111, 97, 100, 32]⟩ (B N2)).run Tryz.prog w = .ok (.string (B ([108, 111, 97, 100, 32] ++ N2))) w := add_lists [108, 111, 97, 100, 32] N2 (by simp) (by omega)
        have a3 : ∀ w, (Op.stringOp .add ⟨#[119, 97, 105, 116, 123, 121, 61, 34, 97, 32, 98, 34, 125, 32]⟩ ⟨#[117, 112, 116, 111, 32, 49, 48, 32]⟩).run Tryz.prog w = .ok (.string (B (wyS ++ [117, 112, 116, 111, 32, 49, 48, 32]))) w := add_lists wyS [117, 112, 116, 111, 32, 49, 48, 32] (by simp [wyS]) (by simp)
        have a4 : ∀ w, (Op.stringOp .add (B (wyS ++ [117, 112, 116, 111, 32, 49, 48, 32])) (B N3)).run Tryz.prog w = .ok (.string (B (wyS ++ [117, 112, 116, 111, 32, 49, 48, 32] ++ N3))) w := add_lists _ N3 (by simp [wyS]) (by omega)
        have a5 : ∀ w, (Op.stringOp .add ⟨#[119, 97, 105, 116, 123, 121, 61, 34, 97, 32, 98, 34, 125, 32]⟩ ⟨#[117, 112, 116, 111, 32, 49, 48, 48, 32]⟩).run Tryz.prog w = .ok (.string (B (wyS ++ [117, 112, 116, 111, 32, 49, 48, 48, 32]))) w := add_lists wyS [117, 112, 116, 111, 32, 49, 48, 48, 32] (by simp [wyS]) (by simp)
        have a6 : ∀ w, (Op.stringOp .add (B (wyS ++ [117, 112, 116, 111, 32, 49, 48, 48, 32])) (B N4)).run Tryz.prog w = .ok (.string (B (wyS ++ [117, 112, 116, 111, 32, 49, 48, 48, 32] ++ N4))) w := add_lists _ N4 (by simp [wyS]) (by omega)
        have a7 : ∀ w, (Op.stringOp .add ⟨#[119, 97, 105, 116, 123, 121, 61, 34, 97, 32, 98, 34, 125, 32]⟩ ⟨#[97, 108, 108, 32]⟩).run Tryz.prog w = .ok (.string (B (wyS ++ [97, 108, 108, 32]))) w := add_lists wyS [97, 108, 108, 32] (by simp [wyS]) (by simp)
        have a8 : ∀ w, (Op.stringOp .add (B (wyS ++ [97, 108, 108, 32])) (B N5)).run Tryz.prog w = .ok (.string (B (wyS ++ [97, 108, 108, 32] ++ N5))) w := add_lists _ N5 (by simp [wyS]) (by omega)
        have a9 : ∀ w, (Op.stringOp .add (B (wyS ++ [97, 108, 108, 32] ++ N5)) ⟨#[32, 115, 117, 109, 32]⟩).run Tryz.prog w = .ok (.string (B (wyS ++ [97, 108, 108, 32] ++ N5 ++ [32, 115, 117, 109, 32]))) w := add_lists _ [32, 115, 117, 109, 32] (by simp [wyS]; omega) (by simp)
        have a10 : ∀ w, (Op.stringOp .add (B (wyS ++ [97, 108, 108, 32] ++ N5 ++ [32, 115, 117, 109, 32])) (B N6)).run Tryz.prog w = .ok (.string (B (wyS ++ [97, 108, 108, 32] ++ N5 ++ [32, 115, 117, 109, 32] ++ N6))) w := add_lists _ N6 (by simp [wyS]; omega) (by omega)
        generalize wyS ++ [97, 108, 108, 32] ++ N5 ++ [32, 115, 117, 109, 32] ++ N6 = O10 at HL a10
        generalize wyS ++ [97, 108, 108, 32] ++ N5 ++ [32, 115, 117, 109, 32] = O9 at a9 a10
        generalize wyS ++ [97, 108, 108, 32] ++ N5 = O8 at a8 a9
        generalize wyS ++ [97, 108, 108, 32] = O7 at a7 a8
        generalize wyS ++ [117, 112, 116, 111, 32, 49, 48, 48, 32] ++ N4 = O6 at HL a6
        generalize wyS ++ [117, 112, 116, 111, 32, 49, 48, 48, 32] = O5 at a5 a6
        generalize wyS ++ [117, 112, 116, 111, 32, 49, 48, 32] ++ N3 = O4 at HL a4
        generalize wyS ++ [117, 112, 116, 111, 32, 49, 48, 32] = O3 at a3 a4
        generalize [108, 111, 97, 100, 32] ++ N2 = O2 at HL a2
        generalize [104, 105, 116, 115, 123, 120, 61, 34, 34, 125, 32] ++ N1 = O1 at HL a1
        subst HL
        clear hLs l1 l2 l3 l4 l5 l6 hs hp hq h0 hi hik hz0
        go_wp2_with fail
        all_goals
          refine HWH.out.mono ?_
          rintro e w2 ⟨t2, vl, rfl, hst2, _, _, hrow2, hfar2⟩
          obtain ⟨la, lc, rfl, _, _⟩ := own_shape1 hrow2
          have gA := gb_alloc (gb_refl w2 none) (.cells #[.string ⟨#[35, 32, 104, 105, 116, 115, 32, 99, 111, 117, 110, 116, 101, 114]⟩, .string ⟨#[35, 32, 108, 111, 97, 100, 32, 103, 97, 117, 103, 101]⟩, .string ⟨#[35, 32, 119, 97, 105, 116, 32, 104, 105, 115, 116, 111, 103, 114, 97, 109]⟩] 9)
          obtain ⟨W, hW⟩ : ∃ W, w2.alloc (.cells #[.string ⟨#[35, 32, 104, 105, 116, 115, 32, 99, 111, 117, 110, 116, 101, 114]⟩, .string ⟨#[35, 32, 108, 111, 97, 100, 32, 103, 97, 117, 103, 101]⟩, .string ⟨#[35, 32, 119, 97, 105, 116, 32, 104, 105, 115, 116, 111, 103, 114, 97, 109]⟩] 9) = W := ⟨_, rfl⟩
          rw [hW] at gA
          have HW : Hid (SQ base w t2 wr.heap.size (.slice la 8 lc) [t1L, O1, t2L, O2, t3L, O4, O6, O10] W) := SQ.gb ⟨hst2.bd.tab, ⟨hrow2, hfar2⟩, HX.out.2.1.trans (hst2.below HX.out.2.2.1 HX.out.2.2.2), hst2.bd.size⟩ gA
          have HWE : Hid (w2.alloc (.cells #[.string ⟨#[35, 32, 104, 105, 116, 115, 32, 99, 111, 117, 110, 116, 101, 114]⟩, .string ⟨#[35, 32, 108, 111, 97, 100, 32, 103, 97, 117, 103, 101]⟩, .string ⟨#[35, 32, 119, 97, 105, 116, 32, 104, 105, 115, 116, 111, 103, 114, 97, 109]⟩] 9) = W) := hW
          obtain ⟨sz, hsz⟩ : ∃ sz, wr.heap.size = sz := ⟨_, rfl⟩
          rw [hsz] at HW
          clear hst2 hrow2 hfar2 gA hW hsz
          go_wp2_with fail
          rw [HWE.out]
          refine (HT1.out _ HW.out.1).mono ?_
          rintro e w3 ⟨rfl, g3⟩
          have HW3 := HW.out.hgb g3
          clear g3
          go_wp2_with fail
          refine (HT2.out _ HW3.out.1).mono ?_
          rintro e w4 ⟨rfl, g4⟩
          have HW4 := HW3.out.hgb g4
          clear g4
          go_wp2_with fail
          refine (HT3.out _ HW4.out.1).mono ?_
          rintro e w5 ⟨rfl, g5⟩
          have HW5 := HW4.out.hgb g5
          clear g5
          go_wp2_with fail
          refine (HT4.out _ HW5.out.1).mono ?_
          rintro e w6 ⟨rfl, g6⟩
          have HW6 := HW5.out.hgb g6
          clear g6
          go_wp2_with fail
          refine (HT5.out _ HW6.out.1).mono ?_
          rintro e w7 ⟨rfl, g7⟩
          have HW7 := HW6.out.hgb g7
          clear g7
          go_wp2_with fail
          refine (HT6.out _ HW7.out.1).mono ?_
          rintro e w8 ⟨rfl, g8⟩
          have HW8 := HW7.out.hgb g8
          clear g8
          have hu := strAt_alloc w8 [t1L, O1, t2L, O2, t3L, O4, O6, O10] #[.string ⟨#[35, 32, 104, 105, 116, 115, 32, 99, 111, 117, 110, 116, 101, 114]⟩, .string (B O1), .string ⟨#[35, 32, 108, 111, 97, 100, 32, 103, 97, 117, 103, 101]⟩, .string (B O2), .string ⟨#[35, 32, 119, 97, 105, 116, 32, 104, 105, 115, 116, 111, 103, 114, 97, 109]⟩, .string (B O4), .string (B O6), .string (B O10)] 8 (by rw [strs8, t1B, t2B, t3B])
          have gB := gb_alloc (gb_refl w8 none) (.cells #[.string ⟨#[35, 32, 104, 105, 116, 115, 32, 99, 111, 117, 110, 116, 101, 114]⟩, .string (B O1), .string ⟨#[35, 32, 108, 111, 97, 100, 32, 103, 97, 117, 103, 101]⟩, .string (B O2), .string ⟨#[35, 32, 119, 97, 105, 116, 32, 104, 105, 115, 116, 111, 103, 114, 97, 109]⟩, .string (B O4), .string (B O6), .string (B O10)] 9)
          have HW9 := HW8.out.hgb gB
          have HSA : Hid (Calls Tryz.prog 19 #[.slice la 8 lc, .slice (some ⟨w8.heap.size, 0, none⟩) 8 8] (w8.alloc (.cells #[.string ⟨#[35, 32, 104, 105, 116, 115, 32, 99, 111, 117, 110, 116, 101, 114]⟩, .string (B O1), .string ⟨#[35, 32, 108, 111, 97, 100, 32, 103, 97, 117, 103, 101]⟩, .string (B O2), .string ⟨#[35, 32, 119, 97, 105, 116, 32, 104, 105, 115, 116, 111, 103, 114, 97, 109]⟩, .string (B O4), .string (B O6), .string (B O10)] 9)) _) := same_any _ _ [t1L, O1, t2L, O2, t3L, O4, O6, O10] [t1L, O1, t2L, O2, t3L, O4, O6, O10] _ HW9.out.2.1.strAt hu (by simp)
          clear hu gB
          go_wp2_with fail
          refine HSA.out.mono ?_
          rintro e wG ⟨rfl, gG⟩
          have HBG : Hid (Below base w wG) := (HW9.out.hgb gG).out.2.2.1
          clear gG HSA HW9
          go_wp2
          go_ret
          exact ⟨by simp, HBG.out⟩

end Go.Proofs.YtcfdemhokbddiaaGreatDoor
