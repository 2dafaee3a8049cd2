/-
  Quiet: reading changes nothing. Two boards side by side.
-/
import Derived.Test.YtcfdemhokbddiaaGreatDoorQUf

namespace Go.Proofs.YtcfdemhokbddiaaGreatDoor
open Go.RowKit

theorem ActsAt.get {base : Nat} {w : World} {sa : Option Addr} {cap : Nat} {acts : List AA} (h : ActsAt base w (.slice sa acts.length cap) acts) {i : Nat} (hi : i < acts.length) :
    ∃ b off, sa = some ⟨b, off, none⟩ ∧ b < base ∧ (I64 acts[i].1 ∧ I64 acts[i].2.1 ∧ I64 acts[i].2.2) ∧ w.cell? ⟨b, off + i * 3, none⟩ = some (.int .i64 acts[i].1) ∧ w.cell? ⟨b, off + i * 3 + 1, none⟩ = some (.int .i64 acts[i].2.1) ∧ w.cell? ⟨b, off + i * 3 + 2, none⟩ = some (.int .i64 acts[i].2.2) := by
  obtain ⟨sa', cap', e, hall, hc⟩ := h
  simp only [Value.slice.injEq] at e
  obtain ⟨rfl, _, rfl⟩ := e
  rcases hc with h | ⟨b, off, rfl, hlt, hcell⟩
  · rw [h] at hi; simp at hi
  · exact ⟨b, off, rfl, hlt, hall _ (List.getElem_mem hi), hcell i hi⟩
theorem IntsArg.get {base : Nat} {w : World} {sa : Option Addr} {cap : Nat} {xs : List Int} (h : IntsArg base w (.slice sa xs.length cap) xs) {i : Nat} (hi : i < xs.length) :
    ∃ b off, sa = some ⟨b, off, none⟩ ∧ b < base ∧ I64 xs[i] ∧ w.cell? ⟨b, off + i, none⟩ = some (.int .i64 xs[i]) := by
  obtain ⟨sa', cap', e, _, hall, hc⟩ := h
  simp only [Value.slice.injEq] at e
  obtain ⟨rfl, _, rfl⟩ := e
  rcases hc with h | ⟨b, off, rfl, hlt, hcell⟩
  · rw [h] at hi; simp at hi
  · exact ⟨b, off, rfl, hlt, hall _ (List.getElem_mem hi), hcell i hi⟩

/-- Readings that have stood for j ticks at least. -/
structure TIn (j : Nat) (R : RdV) : Prop where
  len : R.length = 3
  idle : ∀ L d, some (L, d) ∈ R → j ≤ d ∧ d ≤ 4
theorem TIn.nil (j : Nat) : TIn j [none, none, none] := ⟨rfl, fun L d h => by simp at h⟩
theorem TIn.set {R : RdV} {x : Option (List (List UInt8) × Nat)} (h : TIn 0 R) (i : Nat) (hx : ∀ L d, x = some (L, d) → d ≤ 4) : TIn 0 (R.set i x) :=
  ⟨by rw [List.length_set]; exact h.len, fun L d hm => by
    rcases List.mem_or_eq_of_mem_set hm with h1 | h1
    · exact h.idle L d h1
    · exact ⟨Nat.zero_le _, hx L d h1.symm⟩⟩
theorem TIn.tick {j : Nat} {R : RdV} (h : TIn j R) : TIn (j + 1) (tickP R) :=
  ⟨by unfold tickP; rw [List.length_map]; exact h.len, fun L d hm => by
    unfold tickP at hm
    obtain ⟨x, hx, e⟩ := List.mem_map.1 hm
    match x, hx, e with
    | some (L', d'), hx, e =>
      obtain ⟨h1, h2⟩ := h.idle L' d' hx
      by_cases h4 : d' = 4
      · rw [tick1_over h4] at e; cases e
      · rw [tick1_more h4] at e
        cases e
        omega⟩
theorem TIn.zero {j : Nat} {R : RdV} (h : TIn j R) : TIn 0 R := ⟨h.len, fun L d hm => ⟨Nat.zero_le _, (h.idle L d hm).2⟩⟩
theorem TIn.over {R : RdV} (h : TIn 5 R) : R = [none, none, none] := by
  obtain ⟨hl, hi⟩ := h
  have hn : ∀ x ∈ R, x = none := fun x hx => by
    match x, hx with
    | none, _ => rfl
    | some (L, d), hx => have := hi L d hx; omega
  match R, hl, hn with
  | [x, y, z], _, hn =>
    rw [hn x (by simp), hn y (by simp), hn z (by simp)]
theorem free_lt {R : RdV} (h : TIn 0 R) {i : Nat} (hf : freeP R = some i) : i < 3 := by
  unfold freeP at hf
  have := (List.findIdx?_eq_some_iff_getElem.1 hf).1
  rw [h.len] at this
  exact this

/-- Two boards. -/
structure Two (base m k bB bC : Nat) (w wr : World) (t c : GT) : Prop where
  bt : Bd base m wr t
  bc : Bd base k wr c
  far : ∀ b ∈ t.own, b ∉ c.own
  tb : t.b = bB
  cb : c.b = bC
  low : Below base w wr
theorem Two.left {base m k m' bB bC : Nat} {w wr w' : World} {t c t' : GT} (h : Two base m k bB bC w wr t c) (hs : Stp base m' t t' wr w') : Two base m' k bB bC w w' t' c :=
  have h2 := h.bc.other hs h.bt.low h.far
  ⟨hs.bd, h2.1, h2.2, hs.b.trans h.tb, h.cb, h.low.trans (hs.below h.bt.low h.bt.size)⟩
theorem Two.right {base m k k' bB bC : Nat} {w wr w' : World} {t c c' : GT} (h : Two base m k bB bC w wr t c) (hs : Stp base k' c c' wr w') : Two base m k' bB bC w w' t c' :=
  have h2 := h.bt.other hs h.bc.low (fun b hb hm => h.far b hm hb)
  ⟨h2.1, hs.bd, fun b hb hm => h2.2 b hm hb, h.tb, hs.b.trans h.cb, h.low.trans (hs.below h.bc.low h.bc.size)⟩
theorem Two.mono {base m k m' k' bB bC : Nat} {w wr : World} {t c : GT} (h : Two base m k bB bC w wr t c) (hm : m ≤ m') (hk : k ≤ k') : Two base m' k' bB bC w wr t c := ⟨h.bt.mono hm, h.bc.mono hk, h.far, h.tb, h.cb, h.low⟩
theorem Two.gb {base m k bB bC : Nat} {w wr w' : World} {t c : GT} (h : Two base m k bB bC w wr t c) (hg : wr.grownBy w' none) : Two base m k bB bC w w' t c := ⟨h.bt.gb hg, h.bc.gb hg, h.far, h.tb, h.cb, h.low.trans (gb_below hg h.bt.size)⟩

/-- Behind i acts: the same on both. -/
def QI (base bB bC : Nat) (w : World) (i j : Nat) (wr : World) : Prop :=
  ∃ t c, Two base (2 * i) i bB bC w wr t c ∧ t.view = c.view ∧ KV A5 t.view ∧ TIn j t.rview ∧ c.rview = [none, none, none]

set_option maxRecDepth 100000 in
set_option maxHeartbeats 8000000 in
theorem quiet_law (acts : List AA) (zs : List Int) (va vs : Value) (w : World) (ha : ActsAt w.heap.size w va acts) (hs : IntsArg w.heap.size w vs zs) (ht : Tab w) (hal : acts.length ≤ 17592186044416) (hzl : zs.length ≤ 17592186044416) :
    Calls Tryz.prog 6 #[va, vs] w fun e w' => e = .returned (.bool true) ∧ Below w.heap.size w w' := by
  obtain ⟨base, hbase⟩ : ∃ base, w.heap.size = base := ⟨_, rfl⟩
  have hpos : 0 < base := by rw [← hbase]; exact ht.lt
  have HBG : Hid (Calls Tryz.prog 12 #[] w _) := begun_any base w ht hpos (by omega)
  rw [hbase] at ha hs ⊢
  have HA : Hid (ActsAt base w va acts) := ha
  have HS : Hid (IntsArg base w vs zs) := hs
  obtain ⟨aa, ac, rfl, _⟩ := id ha
  obtain ⟨sa, scap, rfl, _⟩ := id hs
  have HBS : Hid (w.heap.size = base) := hbase
  clear ha hs ht hbase
  go_enter Tryz.func6, Tryz.ntmps6
  go_wp2_with fail
  refine HBG.out.mono ?_
  rintro e w0 ⟨t0, rfl, g0, hb0, hv0, hr0, ho0⟩
  have HBG2 : Hid (Calls Tryz.prog 12 #[] w0 _) := begun_any base w0 hb0.tab hpos hb0.size
  have HT0 : Hid (Bd base 0 w0 t0 ∧ t0.view = V0 ∧ t0.rview = [none, none, none] ∧ Below base w w0) := ⟨hb0, hv0, hr0, gb_below g0 (by rw [HBS.out]; exact Nat.le_refl _)⟩
  clear hb0 g0 hv0 hr0 HBG ho0
  go_wp2_with fail
  refine HBG2.out.mono ?_
  rintro e w1 ⟨c0, rfl, g1, hc0, hcv0, hcr0, ho1⟩
  have HI0 : Hid (QI base t0.b c0.b w 0 0 w1) := by
    obtain ⟨h1, h2, h3, h4⟩ := HT0.out
    refine ⟨t0, c0, ⟨h1.gb g1, hc0, fun b hb hm => ?_, rfl, rfl, h4.trans (gb_below g1 h1.size)⟩, h2.trans hcv0.symm, by rw [h2]; exact V0_kv A5, by rw [h3]; exact .nil _, hcr0⟩
    have := h1.lt b hb
    have := ho1 b hm
    omega
  clear HBG2 HT0 g1 hc0 hcv0 hcr0 ho1
  go_wp2_with fail
  go_loopw [7] (fun v wr => ∃ i : Nat, v = .int .i64 (i : Int) ∧ i ≤ acts.length ∧ Hid (QI base t0.b c0.b w i 0 wr)) (fun v _ => acts.length - (intOf v).toNat)
  case atStart => exact ⟨0, rfl, Nat.zero_le _, HI0.out⟩
  case round =>
    obtain ⟨i, rfl, hi, HR⟩ := hrel
    clear HI0
    by_cases hlt : i < acts.length
    · have hli : (i : Int) < (acts.length : Int) := by omega
      obtain ⟨t1, c1, h2, hvw, hkv, hrd, hrc⟩ := HR.out
      obtain ⟨b, off, rfl, hbl, ⟨q1, q2, q3⟩, e0, e1, e2⟩ := (HA.out.below h2.low).get hlt
      obtain ⟨⟨wh, se, n⟩, hE⟩ : ∃ x, acts[i] = x := ⟨_, rfl⟩
      rw [hE] at e0 e1 e2 q1 q2 q3
      have hac := act_any base (2 * i) t1 wh se n wr h2.bt (by omega) A5_len A5_in hkv q1 q2 q3
      rw [h2.tb] at hac
      have HAC : Hid (Calls Tryz.prog 13 #[.pointer (some ⟨t0.b, 0, none⟩), .agg #[.int .i64 wh, .int .i64 se, .int .i64 n]] wr _) := hac
      have HQ : Hid ((I64 wh ∧ I64 se ∧ I64 n) ∧ b < base ∧ acts[i] = (wh, se, n)) := ⟨⟨q1, q2, q3⟩, hbl, hE⟩
      have HX : Hid (Two base (2 * i) i t0.b c0.b w wr t1 c1 ∧ t1.view = c1.view ∧ KV A5 t1.view ∧ TIn 0 t1.rview ∧ c1.rview = [none, none, none]) := ⟨h2, hvw, hkv, hrd, hrc⟩
      clear hac hE q1 q2 q3 h2 hvw hkv hrd hrc hbl HR
      go_wp2_with fail
      refine HAC.out.mono ?_
      rintro e w2 ⟨rfl, t2, hst, hr2, hv2, hk2⟩
      clear e0 e1 e2
      have htw := HX.out.1.left hst
      obtain ⟨b', off', hbo, _, _, e0, e1, e2⟩ := (HA.out.below htw.low).get hlt
      simp only [Option.some.injEq, Addr.mk.injEq, and_true] at hbo
      obtain ⟨rfl, rfl⟩ := hbo
      rw [HQ.out.2.2] at e0 e1 e2
      obtain ⟨⟨q1, q2, q3⟩, _, _⟩ := HQ.out
      have hac := act_any base i c1 wh se n w2 htw.bc (by omega) A5_len A5_in (by rw [← HX.out.2.1]; exact HX.out.2.2.1) q1 q2 q3
      rw [htw.cb] at hac
      have HAC2 : Hid (Calls Tryz.prog 13 #[.pointer (some ⟨c0.b, 0, none⟩), .agg #[.int .i64 wh, .int .i64 se, .int .i64 n]] w2 _) := hac
      have HX2 : Hid (Two base (2 * i + 1) i t0.b c0.b w w2 t2 c1 ∧ t2.view = actP c1.view wh se n ∧ KV A5 t2.view ∧ TIn 0 t2.rview ∧ c1.rview = [none, none, none]) := ⟨htw, by rw [← HX.out.2.1]; exact hv2, hk2, by rw [hr2]; exact HX.out.2.2.2.1, HX.out.2.2.2.2⟩
      clear hac hst hr2 hv2 hk2 htw q1 q2 q3 HX HAC
      go_wp2_with fail
      refine HAC2.out.mono ?_
      rintro e w3 ⟨rfl, c3, hst, hr3, hv3, hk3⟩
      have HX3 : Hid (Two base (2 * i + 1) (i + 1) t0.b c0.b w w3 t2 c3 ∧ t2.view = c3.view ∧ KV A5 t2.view ∧ TIn 0 t2.rview ∧ c3.rview = [none, none, none]) := ⟨HX2.out.1.right hst, HX2.out.2.1.trans hv3.symm, HX2.out.2.2.1, HX2.out.2.2.2.1, hr3.trans HX2.out.2.2.2.2⟩
      clear e0 e1 e2 hst hr3 hv3 hk3 HX2 HAC2
      by_cases hrz : i < zs.length
      · have hrl : (i : Int) < (zs.length : Int) := by omega
        have hop := cOpen HX3.out.1.bt ⟨#[]⟩ (by omega)
        rw [HX3.out.1.tb] at hop
        have HOP : Hid (Calls Tryz.prog 15 #[.pointer (some ⟨t0.b, 0, none⟩), .string ⟨#[]⟩] w3 _) := hop
        clear hop
        go_wp2_with fail
        refine HOP.out.mono ?_
        rintro e w4 ⟨t4, n4, c4, rfl, hst4, hv4, hop4⟩
        have htw4 := HX3.out.1.left hst4
        obtain ⟨zb, zoff, hzs, _, hz64, hzc⟩ := (HS.out.below htw4.low).get hrz
        subst hzs
        obtain ⟨z, hz⟩ : ∃ z, zs[i] = z := ⟨_, rfl⟩
        rw [hz] at hz64 hzc
        have HZ : Hid (zs[i] = z ∧ I64 z) := ⟨hz, hz64⟩
        cases hf : freeP t2.rview with
        | none =>
          have hof : openP t2.view t2.rview [] = ((0, 7), t2.rview) := by unfold openP; rw [if_neg (by simp), hf]
          have hop4' : ((n4, c4), t4.rview) = openP t2.view t2.rview [] := hop4
          rw [hof] at hop4'
          simp only [Prod.mk.injEq] at hop4'
          obtain ⟨⟨rfl, rfl⟩, hr4⟩ := hop4'
          have HQI : Hid (QI base t0.b c0.b w (i + 1) 0 w4) := ⟨t4, c3, htw4.mono (by omega) (Nat.le_refl _), hv4.trans HX3.out.2.1, by rw [hv4]; exact HX3.out.2.2.1, by rw [hr4]; exact HX3.out.2.2.2.1, HX3.out.2.2.2.2⟩
          clear hop4 hof hr4 hv4 hst4 htw4 HX3 hf hz hz64 HOP
          by_cases hz2 : z.tmod 2 = 0
          · have htk := cTick HQI.out.choose_spec.choose_spec.1.bt
            rw [HQI.out.choose_spec.choose_spec.1.tb] at htk
            have HTK : Hid (Calls Tryz.prog 22 #[.pointer (some ⟨t0.b, 0, none⟩)] w4 _) := htk
            have hz3 : (z.tmod 2 == 0) = true := by simp [hz2]
            clear htk
            go_wp2_with fail
            refine HTK.out.mono ?_
            rintro e w8 ⟨rfl, t8, hst8, hv8, hr8⟩
            have HN : Hid (QI base t0.b c0.b w (i + 1) 0 w8) := ⟨t8, HQI.out.choose_spec.choose, HQI.out.choose_spec.choose_spec.1.left hst8, hv8.trans HQI.out.choose_spec.choose_spec.2.1, by rw [hv8]; exact HQI.out.choose_spec.choose_spec.2.2.1, by rw [hr8]; exact HQI.out.choose_spec.choose_spec.2.2.2.1.tick.zero, HQI.out.choose_spec.choose_spec.2.2.2.2⟩
            clear hst8 hv8 hr8 HQI HTK
            go_wp2
            go_roundw
            case rel => exact ⟨i + 1, by go_num, by omega, HN.out⟩
            case measure => simp [intOf]; omega
          · have hz3 : (z.tmod 2 == 0) = false := by simp [hz2]
            go_wp2
            go_roundw
            case rel => exact ⟨i + 1, by go_num, by omega, HQI.out⟩
            case measure => simp [intOf]; omega
        | some k0 =>
          have hk3 := free_lt HX3.out.2.2.2.1 hf
          have hop4' : ((n4, c4), t4.rview) = openP t2.view t2.rview [] := hop4
          rw [open_free hf] at hop4'
          simp only [Prod.mk.injEq] at hop4'
          obtain ⟨⟨rfl, rfl⟩, hr4⟩ := hop4'
          have HSZ : Hid (Calls Tryz.prog 17 #[.slice (some ⟨zb, zoff, none⟩) zs.length scap, .int .i64 (i : Int)] w4 _) := size_any _ zs [] i w4 ((HS.out.below htw4.low).far [] (by simp) htw4.bt.size) (by omega) (by omega)
          obtain ⟨k, hk⟩ : ∃ k, sizeP zs i = k := ⟨_, rfl⟩
          obtain ⟨hk1, hk2⟩ := sizeP_bound zs i
          rw [hk] at HSZ hk1 hk2
          have hcp := cPage htw4.bt ((k0 : Nat) : Int) k (by omega)
          rw [htw4.tb] at hcp
          have HCP : Hid (Calls Tryz.prog 16 #[.pointer (some ⟨t0.b, 0, none⟩), .int .i64 (k0 : Int), .int .i64 k] w4 _) := hcp
          have HX4 : Hid (Two base (2 * i + 1 + 1) (i + 1) t0.b c0.b w w4 t4 c3 ∧ t4.view = c3.view ∧ KV A5 t4.view ∧ TIn 0 t2.rview ∧ c3.rview = [none, none, none] ∧ t4.rview = t2.rview.set k0 (some (linesP t2.view, 0))) := ⟨htw4, hv4.trans HX3.out.2.1, by rw [hv4]; exact HX3.out.2.2.1, HX3.out.2.2.2.1, HX3.out.2.2.2.2, hr4⟩
          clear hop4 hr4 hv4 hst4 htw4 HX3 hf hz hz64 hk hcp HOP
          go_wp2_with fail
          refine HSZ.out.mono ?_
          rintro e w4' ⟨rfl, rfl⟩
          go_wp2_with fail
          refine HCP.out.mono ?_
          rintro e w6 ⟨t6, v6, ln, mo6, c6, rfl, hst6, _, hv6, _, hpg⟩
          have hgt : t4.rview[k0]? = some (some (linesP t2.view, 0)) := by
            rw [HX4.out.2.2.2.2.2]
            exact List.getElem?_set_self (by rw [HX4.out.2.2.2.1.len]; exact hk3)
          have h40 : TIn 0 t4.rview := by rw [HX4.out.2.2.2.2.2]; exact HX4.out.2.2.2.1.set _ fun L d e => by cases e; omega
          rw [page_rest hk3 hgt hk1 hk2] at hpg
          obtain ⟨hc6, hr6⟩ : c6 = 0 ∧ TIn 0 t6.rview := by
            split at hpg
            · simp only [Prod.mk.injEq] at hpg
              obtain ⟨⟨_, _, rfl⟩, hr⟩ := hpg
              exact ⟨rfl, by rw [hr]; exact h40.set _ fun L d e => by cases e; omega⟩
            · simp only [Prod.mk.injEq] at hpg
              obtain ⟨⟨_, _, rfl⟩, hr⟩ := hpg
              exact ⟨rfl, by rw [hr]; exact h40.set _ fun L d e => by cases e⟩
          subst hc6
          have HQI : Hid (QI base t0.b c0.b w (i + 1) 0 w6) := ⟨t6, c3, (HX4.out.1.left hst6).mono (by omega) (Nat.le_refl _), hv6.trans HX4.out.2.1, by rw [hv6]; exact HX4.out.2.2.1, hr6, HX4.out.2.2.2.2.1⟩
          clear hzc
          obtain ⟨zb', zoff', hbo, _, hz64, hzc⟩ := (HS.out.below (HX4.out.1.left hst6).low).get hrz
          simp only [Option.some.injEq, Addr.mk.injEq, and_true] at hbo
          obtain ⟨rfl, rfl⟩ := hbo
          rw [HZ.out.1] at hzc
          clear hst6 hv6 hpg hgt h40 hr6 HX4 HCP HSZ hz64
          by_cases hz2 : z.tmod 2 = 0
          · have htk := cTick HQI.out.choose_spec.choose_spec.1.bt
            rw [HQI.out.choose_spec.choose_spec.1.tb] at htk
            have HTK : Hid (Calls Tryz.prog 22 #[.pointer (some ⟨t0.b, 0, none⟩)] w6 _) := htk
            have hz3 : (z.tmod 2 == 0) = true := by simp [hz2]
            clear htk
            go_wp2_with fail
            refine HTK.out.mono ?_
            rintro e w8 ⟨rfl, t8, hst8, hv8, hr8⟩
            have HN : Hid (QI base t0.b c0.b w (i + 1) 0 w8) := ⟨t8, HQI.out.choose_spec.choose, HQI.out.choose_spec.choose_spec.1.left hst8, hv8.trans HQI.out.choose_spec.choose_spec.2.1, by rw [hv8]; exact HQI.out.choose_spec.choose_spec.2.2.1, by rw [hr8]; exact HQI.out.choose_spec.choose_spec.2.2.2.1.tick.zero, HQI.out.choose_spec.choose_spec.2.2.2.2⟩
            clear hst8 hv8 hr8 HQI HTK
            go_wp2
            go_roundw
            case rel => exact ⟨i + 1, by go_num, by omega, HN.out⟩
            case measure => simp [intOf]; omega
          · have hz3 : (z.tmod 2 == 0) = false := by simp [hz2]
            go_wp2
            go_roundw
            case rel => exact ⟨i + 1, by go_num, by omega, HQI.out⟩
            case measure => simp [intOf]; omega
      · have hrl : ¬ (i : Int) < (zs.length : Int) := by omega
        have HN : Hid (QI base t0.b c0.b w (i + 1) 0 w3) := ⟨t2, c3, HX3.out.1.mono (by omega) (Nat.le_refl _), HX3.out.2⟩
        clear HX3
        go_wp2
        go_roundw
        case rel => exact ⟨i + 1, by go_num, by omega, HN.out⟩
        case measure => simp [intOf]; omega
    · have hli : ¬ (i : Int) < (acts.length : Int) := by omega
      go_wp2_with fail
      go_loopw [12] (fun v wr => ∃ j : Nat, v = .int .i64 (j : Int) ∧ j ≤ 5 ∧ Hid (QI base t0.b c0.b w i j wr)) (fun v _ => 5 - (intOf v).toNat)
      case atStart => exact ⟨0, rfl, Nat.zero_le _, HR.out⟩
      case round =>
        obtain ⟨j, rfl, hj, HJ⟩ := hrel
        clear HR
        obtain ⟨t1, c1, h2, hvw, hkv, hrd, hrc⟩ := HJ.out
        by_cases hj5 : j < 5
        · have hjl : (j : Int) < 5 := by omega
          have htk := cTick h2.bt
          rw [h2.tb] at htk
          have HTK : Hid (Calls Tryz.prog 22 #[.pointer (some ⟨t0.b, 0, none⟩)] wr _) := htk
          have HX : Hid (Two base (2 * i) i t0.b c0.b w wr t1 c1 ∧ t1.view = c1.view ∧ KV A5 t1.view ∧ TIn j t1.rview ∧ c1.rview = [none, none, none]) := ⟨h2, hvw, hkv, hrd, hrc⟩
          clear htk h2 hvw hkv hrd hrc HJ
          go_wp2_with fail
          refine HTK.out.mono ?_
          rintro e w2 ⟨rfl, t2, hst, hv2, hr2⟩
          have HN : Hid (QI base t0.b c0.b w i (j + 1) w2) := ⟨t2, c1, HX.out.1.left hst, hv2.trans HX.out.2.1, by rw [hv2]; exact HX.out.2.2.1, by rw [hr2]; exact HX.out.2.2.2.1.tick, HX.out.2.2.2.2⟩
          clear hst hv2 hr2 HX
          go_wp2
          go_roundw
          case rel => exact ⟨j + 1, by go_num, by omega, HN.out⟩
          case measure => simp [intOf]; omega
        · have hjl : ¬ (j : Int) < 5 := by omega
          obtain rfl : j = 5 := by omega
          have hrt := hrd.over
          obtain ⟨hL3, hL40⟩ := hkv.lines A5_len
          obtain ⟨V1, hV1⟩ : ∃ V1, t1.view = V1 := ⟨_, rfl⟩
          have hwh := whole_any base (2 * i) 0 t1 4 wr h2.bt (by omega) (by rw [hrt]; rfl) (by omega) (by omega) ⟨by omega, by omega⟩
          rw [h2.tb, hV1] at hwh
          have hVc : c1.view = V1 := hvw.symm.trans hV1
          rw [hV1] at hL3 hL40
          have HWH : Hid (Calls Tryz.prog 14 #[.pointer (some ⟨t0.b, 0, none⟩), .int .i64 4] wr _) := hwh
          have HX : Hid (Two base (2 * i) i t0.b c0.b w wr t1 c1 ∧ c1.view = V1 ∧ c1.rview = [none, none, none]) := ⟨h2, hVc, hrc⟩
          clear hwh h2 hvw hkv hrd hrc HJ hrt hV1 hVc
          go_wp2_with fail
          refine HWH.out.mono ?_
          rintro e w2 ⟨t2, vl, rfl, hst2, hv2, hr2, hrow2, _⟩
          obtain ⟨la, lc, rfl, _, _⟩ := own_shape1 hrow2
          have htw := HX.out.1.left hst2
          have HR2 : Hid (Row c1 w2 wr.heap.size (.slice la (linesP V1).length lc) (linesP V1)) := ⟨hrow2, fun b hb hm => by
            have h1 := HX.out.1.bc.lt b hm
            have h3 := (hrow2.lt b (by simpa using hb)).1
            omega⟩
          have hwh := whole_any base i 0 c1 4 w2 htw.bc (by omega) (by rw [HX.out.2.2]; rfl) (by omega) (by rw [HX.out.2.1]; omega) ⟨by omega, by omega⟩
          rw [htw.cb, HX.out.2.1] at hwh
          have HWH2 : Hid (Calls Tryz.prog 14 #[.pointer (some ⟨c0.b, 0, none⟩), .int .i64 4] w2 _) := hwh
          have HX2 : Hid (Two base (2 * i + 1) i t0.b c0.b w w2 t2 c1) := htw
          clear hwh htw hst2 hv2 hr2 hrow2 HX HWH
          go_wp2_with fail
          refine HWH2.out.mono ?_
          rintro e w3 ⟨c3, vm, rfl, hst3, _, _, hrow3, _⟩
          obtain ⟨ma, mc, rfl, _, _⟩ := own_shape1 hrow3
          have hrL := HR2.out.stp hst3
          have HSA : Hid (Calls Tryz.prog 19 #[.slice la (linesP V1).length lc, .slice ma (linesP V1).length mc] w3 _) := same_any _ _ (linesP V1) (linesP V1) w3 hrL.strAt (strAt_of hrow3).2 (by omega)
          have htw3 := HX2.out.right hst3
          have HBL : Hid (Below base w w3 ∧ base ≤ w3.heap.size) := ⟨htw3.low, htw3.bt.size⟩
          have h3 : (3 : Int) ≤ ((linesP V1).length : Int) := by omega
          clear hrL htw3 hst3 hrow3 HR2 HX2 HWH2
          go_wp2_with fail
          refine HSA.out.mono ?_
          rintro e wG ⟨rfl, gG⟩
          have HBG : Hid (Below base w wG) := HBL.out.1.trans (gb_below gG HBL.out.2)
          clear gG
          go_wp2
          go_ret
          exact ⟨rfl, HBG.out⟩

end Go.Proofs.YtcfdemhokbddiaaGreatDoor
