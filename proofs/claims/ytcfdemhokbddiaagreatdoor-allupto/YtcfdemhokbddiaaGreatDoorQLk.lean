/-
  Steps of the law: Open, Tick, Change.
-/
import Derived.Test.YtcfdemhokbddiaaGreatDoorQDi

namespace Go.Proofs.YtcfdemhokbddiaaGreatDoor
open Go.RowKit

set_option maxRecDepth 100000 in
set_option maxHeartbeats 2000000 in
theorem step_opn {sk : Value × Value} (base m wb : Nat) (lv : Value) (ps : List (GT × RB)) (w : World) (h : PW base m w wb sk lv ps) (hps : ps ≠ []) (hm : m ≤ 1000000000) (e a b : Int) (he : -9223372036854775808 ≤ e ∧ e ≤ 9223372036854775807) (s : ByteArray) (L : Value) (hL : ∃ x n c, L = .slice x n c) :
    Calls Tryz.prog 30 #[.pointer (some ⟨wb, 0, none⟩), stepV 6 e s a b L] w fun r w' => r = .returned (.bool true) ∧ ∃ lv' ps', PW base (m + 1) w' wb sk lv' ps' ∧ ps' ≠ [] ∧ Kpt wb lv ps w lv' ps' w' ∧ ps'.length = ps.length := by
  have hlen := h.len
  have hpl : 0 < ps.length := List.length_pos_iff.2 hps
  obtain ⟨la, lc, hlv, _, hla⟩ := own_shape2 h.row
  obtain ⟨lb, rfl⟩ : ∃ lb, la = some ⟨lb, 0, none⟩ := by
    rcases hla with ⟨_, h0, _⟩ | ⟨g, h1, _⟩
    · omega
    · exact ⟨g, h1⟩
  have hrow := h.row
  rw [hlv] at hrow
  have hk := lpickP_lt e ps.length hpl
  obtain ⟨c1, c2⟩ := pair_row hrow _ hk
  have c0 : w.cell? ⟨wb, 0, none⟩ = some lv := by unfold World.cell?; simp only [h.blk]; rfl
  rw [hlv] at c0
  have HH : Hid (PW base m w wb sk lv ps) := h
  have HE : Hid (ps = ps.take (lpickP e ps.length) ++ ps[lpickP e ps.length] :: ps.drop (lpickP e ps.length + 1)) := split_at ps _ hk
  obtain ⟨q, hq⟩ : ∃ q, ps[lpickP e ps.length] = q := ⟨_, rfl⟩
  rw [hq] at c1 c2 HE
  obtain ⟨k, hkk⟩ : ∃ k, lpickP e ps.length = k := ⟨_, rfl⟩
  have HPK : Hid (∀ w, Calls Tryz.prog 44 #[.int .i64 e, .int .i64 (ps.length : Int)] w fun r w' => r = .returned (.int .i64 (k : Int)) ∧ w' = w) := fun w => by
    rw [← hkk]; exact pick_any e ps.length w hpl (by omega) he
  rw [hkk] at c1 c2 HE hk
  obtain ⟨xa, xn, xc, rfl⟩ := hL
  obtain ⟨nm, rfl⟩ : ∃ nm, s = B nm := ⟨s.data.toList, (B_self s).symm⟩
  obtain ⟨W, hW⟩ : ∃ W, W = w.alloc (stepObj 6 e (B nm) a b (.slice xa xn xc)) := ⟨_, rfl⟩
  have gW : w.grownBy W none := by rw [hW]; exact gb_alloc (gb_refl _ _) _
  have bS : W.heap[w.heap.size]? = some (stepObj 6 e (B nm) a b (.slice xa xn xc)) := by rw [hW]; exact alloc_new _ _ _ rfl
  have hWz : W.heap.size = w.heap.size + 1 := by rw [hW]; simp
  have d0 := gb_cell gW c0 (by simp)
  have d1 := gb_cell gW c1 (by simp)
  have d2 := gb_cell gW c2 (by simp)
  have s0 : W.cell? ⟨w.heap.size, 0, none⟩ = some (.int .i64 6) := by unfold World.cell?; simp only [bS]; rfl
  have s1 : W.cell? ⟨w.heap.size, 1, none⟩ = some (.int .i64 e) := by unfold World.cell?; simp only [bS]; rfl
  have hki : (k : Int) < (ps.length : Int) := by omega
  have HWE : Hid (w.alloc (.cells #[.int .i64 6, .int .i64 e, .string (B nm), .int .i64 a, .int .i64 b, .slice xa xn xc] 65) = W) := hW.symm
  have HBS : Hid (W.heap[w.heap.size]? = some (stepObj 6 e (B nm) a b (.slice xa xn xc))) := bS
  have HWZ : Hid (W.heap.size = w.heap.size + 1) := hWz
  have ne0 := World.new_ne W _ d0
  have ne1 := World.new_ne W _ d1
  have ne2 := World.new_ne W _ s1
  clear hlv hla hrow hkk hq hps c0 c1 c2 hW bS h hWz
  unfold stepV
  go_enter Tryz.func30, Tryz.ntmps30
  go_upto_region 1 with fail
  rw [HWE.out]
  go_upto_region 5 with fail
  go_cut [5] (fun v w' => v = .pointer (some ⟨W.heap.size, 0, none⟩) ∧ w'.heap[W.heap.size]? = some (.cells #[.pointer (some ⟨q.1.b, 0, none⟩), .pointer (some ⟨q.2.b, 0, none⟩)] 88) ∧ W.grownBy w' none)
  case first =>
    go_region_held3 (fun w' => w'.cell? ⟨wb, 0, none⟩ = some (.slice (some ⟨lb, 0, none⟩) ps.length lc) ∧ w'.cell? ⟨w.heap.size, 1, none⟩ = some (.int .i64 e) ∧ w'.cell? ⟨lb, k * 2, none⟩ = some (.pointer (some ⟨q.1.b, 0, none⟩)) ∧ w'.cell? ⟨lb, k * 2 + 1, none⟩ = some (.pointer (some ⟨q.2.b, 0, none⟩))) (go_keep) ((go_at_call 44; refine (HPK.out _).mono ?_; rintro r w' ⟨rfl, rfl⟩))
    all_goals
      go_wp2
      go_meet
      case rel => exact ⟨rfl, alloc_new _ _ _ rfl, gb_d (q := 1) (gb_alloc (gb_refl _ _) _)⟩
  case rest =>
    obtain ⟨rfl, hp, gc⟩ := hcut
    have G := gb_trans gW gc
    have hPW := HH.out.gb G
    have hqm : q ∈ ps := by rw [HE.out]; simp
    have hpa := hPW.each q hqm
    have HPA : Hid (PairAt m wc q) := hpa
    have HPW : Hid (PW base m wc wb sk lv ps) := hPW
    have hold : ∀ b' ∈ pairOwn q, b' < w.heap.size := (HH.out.each q hqm).lt
    have HSB : Hid (wc.heap[w.heap.size]? = some (stepObj 6 e (B nm) a b (.slice xa xn xc))) := (gc.block _ (by rw [HWZ.out]; omega) (by simp)).trans HBS.out
    have HPB : Hid (wc.heap[W.heap.size]? = some (.cells #[.pointer (some ⟨q.1.b, 0, none⟩), .pointer (some ⟨q.2.b, 0, none⟩)] 88)) := hp
    have HWB : Hid (∀ w3, wc.grownBy w3 none ∨ Kept (pairOwn q) wc w3 → w3.heap[w.heap.size]? = some (stepObj 6 e (B nm) a b (.slice xa xn xc)) ∧ w3.heap[W.heap.size]? = some (.cells #[.pointer (some ⟨q.1.b, 0, none⟩), .pointer (some ⟨q.2.b, 0, none⟩)] 88)) := by
      intro w3 hk3
      have l1 := lt_of HSB.out
      have l2 := lt_of HPB.out
      rcases hk3 with hk3 | hk3
      · exact ⟨(hk3.block _ l1 (by simp)).trans HSB.out, (hk3.block _ l2 (by simp)).trans HPB.out⟩
      · refine ⟨(hk3.block _ l1 (fun hm => ?_)).trans HSB.out, (hk3.block _ l2 (fun hm => ?_)).trans HPB.out⟩
        · have := hold _ hm; omega
        · have := hold _ hm; have := HWZ.out; omega
    have x0 : wc.cell? ⟨W.heap.size, 0, none⟩ = some (.pointer (some ⟨q.1.b, 0, none⟩)) := by unfold World.cell?; simp only [hp]; rfl
    have y0 : wc.cell? ⟨w.heap.size, 0, none⟩ = some (.int .i64 6) := by unfold World.cell?; simp only [HSB.out]; rfl
    have y2 : wc.cell? ⟨w.heap.size, 2, none⟩ = some (.string (B nm)) := by unfold World.cell?; simp only [HSB.out]; rfl
    have y3 : wc.cell? ⟨w.heap.size, 3, none⟩ = some (.int .i64 a) := by unfold World.cell?; simp only [HSB.out]; rfl
    have y5 : wc.cell? ⟨w.heap.size, 5, none⟩ = some (.slice xa xn xc) := by unfold World.cell?; simp only [HSB.out]; rfl
    have HBW : Hid (w.grownBy wc none) := G
    clear hp gc G hPW hpa d0 d1 d2 s0 s1 ne0 ne1 ne2 gW
    have HOC : Hid (Calls Tryz.prog 15 #[.pointer (some ⟨q.1.b, 0, none⟩), .string (B nm)] wc _) := bOpen_any q.1 (B nm) m wc HPA.out.px HPA.out.ox HPA.out.rx (by omega)
    go_wp2_with fail
    refine HOC.out.mono ?_
    rintro r w3 ⟨t', k1, k2, rfl, ho3, hro3, hv3, hc3⟩
    rw [data_B] at hc3
    obtain ⟨b3, b4⟩ := HWB.out w3 (Or.inr (ho3.kept.mono fun b' hb' => Or.inl (by simp [pairOwn, hb'])))
    have x1 : w3.cell? ⟨W.heap.size, 1, none⟩ = some (.pointer (some ⟨q.2.b, 0, none⟩)) := by unfold World.cell?; simp only [b4]; rfl
    have v2 : w3.cell? ⟨w.heap.size, 2, none⟩ = some (.string (B nm)) := by unfold World.cell?; simp only [b3]; rfl
    have HRC : Hid (Calls Tryz.prog 52 #[.pointer (some ⟨q.2.b, 0, none⟩), .string (B nm)] w3 _) := open_pair HPA.out hm nm ho3 hro3 hv3 hc3
    clear ho3 hro3 hv3 hc3 b3 b4 x0 y0 y2 y3 y5 HOC
    go_wp2_with fail
    refine HRC.out.mono ?_
    rintro r w4 ⟨rfl, r', hps4⟩
    obtain ⟨u1, u2⟩ := HPW.out.upd (q' := (t', r')) (Nat.le_succ m) HE.out hps4.b1 hps4.b2 hps4.at_ hps4.kept hps4.sub
    have HU : Hid (PW base (m + 1) w4 wb sk lv (ps.take k ++ (t', r') :: ps.drop (k + 1)) ∧ Kpt wb lv ps wc lv (ps.take k ++ (t', r') :: ps.drop (k + 1)) w4) := ⟨u1, u2⟩
    have hk1 : (k1 == k1) = true := by simp
    have hk2 : (k2 == k2) = true := by simp
    clear u1 u2 hps4 HRC
    go_wp2_with (go_at_call 49; refine (num_any _ _).mono ?_; rintro r w' ⟨rfl, rfl⟩)
    go_ret
    exact ⟨rfl, lv, _, HU.out.1, by simp, .from HBW.out HU.out.2, by simp; omega⟩

set_option maxRecDepth 100000 in
set_option maxHeartbeats 2000000 in
theorem step_tick {sk : Value × Value} (base m wb : Nat) (lv : Value) (ps : List (GT × RB)) (w : World) (h : PW base m w wb sk lv ps) (hps : ps ≠ []) (hm : m ≤ 1000000000) (e a b : Int) (he : -9223372036854775808 ≤ e ∧ e ≤ 9223372036854775807) (s : ByteArray) (L : Value) (hL : ∃ x n c, L = .slice x n c) :
    Calls Tryz.prog 30 #[.pointer (some ⟨wb, 0, none⟩), stepV 8 e s a b L] w fun r w' => r = .returned (.bool true) ∧ ∃ lv' ps', PW base (m + 1) w' wb sk lv' ps' ∧ ps' ≠ [] ∧ Kpt wb lv ps w lv' ps' w' ∧ ps'.length = ps.length := by
  have hlen := h.len
  have hpl : 0 < ps.length := List.length_pos_iff.2 hps
  obtain ⟨la, lc, hlv, _, hla⟩ := own_shape2 h.row
  obtain ⟨lb, rfl⟩ : ∃ lb, la = some ⟨lb, 0, none⟩ := by
    rcases hla with ⟨_, h0, _⟩ | ⟨g, h1, _⟩
    · omega
    · exact ⟨g, h1⟩
  have hrow := h.row
  rw [hlv] at hrow
  have hk := lpickP_lt e ps.length hpl
  obtain ⟨c1, c2⟩ := pair_row hrow _ hk
  have c0 : w.cell? ⟨wb, 0, none⟩ = some lv := by unfold World.cell?; simp only [h.blk]; rfl
  rw [hlv] at c0
  have HH : Hid (PW base m w wb sk lv ps) := h
  have HE : Hid (ps = ps.take (lpickP e ps.length) ++ ps[lpickP e ps.length] :: ps.drop (lpickP e ps.length + 1)) := split_at ps _ hk
  obtain ⟨q, hq⟩ : ∃ q, ps[lpickP e ps.length] = q := ⟨_, rfl⟩
  rw [hq] at c1 c2 HE
  obtain ⟨k, hkk⟩ : ∃ k, lpickP e ps.length = k := ⟨_, rfl⟩
  have HPK : Hid (∀ w, Calls Tryz.prog 44 #[.int .i64 e, .int .i64 (ps.length : Int)] w fun r w' => r = .returned (.int .i64 (k : Int)) ∧ w' = w) := fun w => by
    rw [← hkk]; exact pick_any e ps.length w hpl (by omega) he
  rw [hkk] at c1 c2 HE hk
  obtain ⟨xa, xn, xc, rfl⟩ := hL
  obtain ⟨nm, rfl⟩ : ∃ nm, s = B nm := ⟨s.data.toList, (B_self s).symm⟩
  obtain ⟨W, hW⟩ : ∃ W, W = w.alloc (stepObj 8 e (B nm) a b (.slice xa xn xc)) := ⟨_, rfl⟩
  have gW : w.grownBy W none := by rw [hW]; exact gb_alloc (gb_refl _ _) _
  have bS : W.heap[w.heap.size]? = some (stepObj 8 e (B nm) a b (.slice xa xn xc)) := by rw [hW]; exact alloc_new _ _ _ rfl
  have hWz : W.heap.size = w.heap.size + 1 := by rw [hW]; simp
  have d0 := gb_cell gW c0 (by simp)
  have d1 := gb_cell gW c1 (by simp)
  have d2 := gb_cell gW c2 (by simp)
  have s0 : W.cell? ⟨w.heap.size, 0, none⟩ = some (.int .i64 8) := by unfold World.cell?; simp only [bS]; rfl
  have s1 : W.cell? ⟨w.heap.size, 1, none⟩ = some (.int .i64 e) := by unfold World.cell?; simp only [bS]; rfl
  have hki : (k : Int) < (ps.length : Int) := by omega
  have HWE : Hid (w.alloc (.cells #[.int .i64 8, .int .i64 e, .string (B nm), .int .i64 a, .int .i64 b, .slice xa xn xc] 65) = W) := hW.symm
  have HBS : Hid (W.heap[w.heap.size]? = some (stepObj 8 e (B nm) a b (.slice xa xn xc))) := bS
  have HWZ : Hid (W.heap.size = w.heap.size + 1) := hWz
  have ne0 := World.new_ne W _ d0
  have ne1 := World.new_ne W _ d1
  have ne2 := World.new_ne W _ s1
  clear hlv hla hrow hkk hq hps c0 c1 c2 hW bS h hWz
  unfold stepV
  go_enter Tryz.func30, Tryz.ntmps30
  go_upto_region 1 with fail
  rw [HWE.out]
  go_upto_region 5 with fail
  go_cut [5] (fun v w' => v = .pointer (some ⟨W.heap.size, 0, none⟩) ∧ w'.heap[W.heap.size]? = some (.cells #[.pointer (some ⟨q.1.b, 0, none⟩), .pointer (some ⟨q.2.b, 0, none⟩)] 88) ∧ W.grownBy w' none)
  case first =>
    go_region_held3 (fun w' => w'.cell? ⟨wb, 0, none⟩ = some (.slice (some ⟨lb, 0, none⟩) ps.length lc) ∧ w'.cell? ⟨w.heap.size, 1, none⟩ = some (.int .i64 e) ∧ w'.cell? ⟨lb, k * 2, none⟩ = some (.pointer (some ⟨q.1.b, 0, none⟩)) ∧ w'.cell? ⟨lb, k * 2 + 1, none⟩ = some (.pointer (some ⟨q.2.b, 0, none⟩))) (go_keep) ((go_at_call 44; refine (HPK.out _).mono ?_; rintro r w' ⟨rfl, rfl⟩))
    all_goals
      go_wp2
      go_meet
      case rel => exact ⟨rfl, alloc_new _ _ _ rfl, gb_d (q := 1) (gb_alloc (gb_refl _ _) _)⟩
  case rest =>
    obtain ⟨rfl, hp, gc⟩ := hcut
    have G := gb_trans gW gc
    have hPW := HH.out.gb G
    have hqm : q ∈ ps := by rw [HE.out]; simp
    have hpa := hPW.each q hqm
    have HPA : Hid (PairAt m wc q) := hpa
    have HPW : Hid (PW base m wc wb sk lv ps) := hPW
    have hold : ∀ b' ∈ pairOwn q, b' < w.heap.size := (HH.out.each q hqm).lt
    have HSB : Hid (wc.heap[w.heap.size]? = some (stepObj 8 e (B nm) a b (.slice xa xn xc))) := (gc.block _ (by rw [HWZ.out]; omega) (by simp)).trans HBS.out
    have HPB : Hid (wc.heap[W.heap.size]? = some (.cells #[.pointer (some ⟨q.1.b, 0, none⟩), .pointer (some ⟨q.2.b, 0, none⟩)] 88)) := hp
    have HWB : Hid (∀ w3, wc.grownBy w3 none ∨ Kept (pairOwn q) wc w3 → w3.heap[w.heap.size]? = some (stepObj 8 e (B nm) a b (.slice xa xn xc)) ∧ w3.heap[W.heap.size]? = some (.cells #[.pointer (some ⟨q.1.b, 0, none⟩), .pointer (some ⟨q.2.b, 0, none⟩)] 88)) := by
      intro w3 hk3
      have l1 := lt_of HSB.out
      have l2 := lt_of HPB.out
      rcases hk3 with hk3 | hk3
      · exact ⟨(hk3.block _ l1 (by simp)).trans HSB.out, (hk3.block _ l2 (by simp)).trans HPB.out⟩
      · refine ⟨(hk3.block _ l1 (fun hm => ?_)).trans HSB.out, (hk3.block _ l2 (fun hm => ?_)).trans HPB.out⟩
        · have := hold _ hm; omega
        · have := hold _ hm; have := HWZ.out; omega
    have x0 : wc.cell? ⟨W.heap.size, 0, none⟩ = some (.pointer (some ⟨q.1.b, 0, none⟩)) := by unfold World.cell?; simp only [hp]; rfl
    have y0 : wc.cell? ⟨w.heap.size, 0, none⟩ = some (.int .i64 8) := by unfold World.cell?; simp only [HSB.out]; rfl
    have y2 : wc.cell? ⟨w.heap.size, 2, none⟩ = some (.string (B nm)) := by unfold World.cell?; simp only [HSB.out]; rfl
    have y3 : wc.cell? ⟨w.heap.size, 3, none⟩ = some (.int .i64 a) := by unfold World.cell?; simp only [HSB.out]; rfl
    have y5 : wc.cell? ⟨w.heap.size, 5, none⟩ = some (.slice xa xn xc) := by unfold World.cell?; simp only [HSB.out]; rfl
    have HBW : Hid (w.grownBy wc none) := G
    clear hp gc G hPW hpa d0 d1 d2 s0 s1 ne0 ne1 ne2 gW
    have HOC : Hid (Calls Tryz.prog 22 #[.pointer (some ⟨q.1.b, 0, none⟩)] wc _) := bTick_any q.1 m wc HPA.out.px HPA.out.ox HPA.out.rx
    go_wp2_with fail
    refine HOC.out.mono ?_
    rintro r w3 ⟨rfl, t', ho3, _, hro3, hv3, hc3⟩
    obtain ⟨b3, b4⟩ := HWB.out w3 (Or.inr (ho3.kept.mono fun b' hb' => Or.inl (by simp [pairOwn, hb'])))
    have x1 : w3.cell? ⟨W.heap.size, 1, none⟩ = some (.pointer (some ⟨q.2.b, 0, none⟩)) := by unfold World.cell?; simp only [b4]; rfl
    have HRC : Hid (Calls Tryz.prog 56 #[.pointer (some ⟨q.2.b, 0, none⟩)] w3 _) := tick_pair HPA.out hm ho3 hro3 hv3 hc3
    clear ho3 hro3 hv3 hc3 b3 b4 x0 y0 y2 y3 y5 HOC
    go_wp2_with fail
    refine HRC.out.mono ?_
    rintro r w4 ⟨rfl, r', hps4⟩
    obtain ⟨u1, u2⟩ := HPW.out.upd (q' := (t', r')) (Nat.le_succ m) HE.out hps4.b1 hps4.b2 hps4.at_ hps4.kept hps4.sub
    have HU : Hid (PW base (m + 1) w4 wb sk lv (ps.take k ++ (t', r') :: ps.drop (k + 1)) ∧ Kpt wb lv ps wc lv (ps.take k ++ (t', r') :: ps.drop (k + 1)) w4) := ⟨u1, u2⟩
    clear u1 u2 hps4 HRC
    go_wp2
    go_ret
    exact ⟨rfl, lv, _, HU.out.1, by simp, .from HBW.out HU.out.2, by simp; omega⟩

set_option maxRecDepth 100000 in
set_option maxHeartbeats 2000000 in
theorem step_change2 {sk : Value × Value} (base m wb : Nat) (lv : Value) (ps : List (GT × RB)) (w : World) (h : PW base m w wb sk lv ps) (hps : ps ≠ []) (hm : m ≤ 1000000000) (e a b : Int) (he : -9223372036854775808 ≤ e ∧ e ≤ 9223372036854775807) (s : ByteArray) (L : Value) (hL : ∃ x n c, L = .slice x n c) :
    Calls Tryz.prog 30 #[.pointer (some ⟨wb, 0, none⟩), stepV 4 e s a b L] w fun r w' => r = .returned (.bool true) ∧ ∃ lv' ps', PW base (m + 1) w' wb sk lv' ps' ∧ ps' ≠ [] ∧ Kpt wb lv ps w lv' ps' w' ∧ ps'.length = ps.length := by
  have hlen := h.len
  have hpl : 0 < ps.length := List.length_pos_iff.2 hps
  obtain ⟨la, lc, hlv, _, hla⟩ := own_shape2 h.row
  obtain ⟨lb, rfl⟩ : ∃ lb, la = some ⟨lb, 0, none⟩ := by
    rcases hla with ⟨_, h0, _⟩ | ⟨g, h1, _⟩
    · omega
    · exact ⟨g, h1⟩
  have hrow := h.row
  rw [hlv] at hrow
  have hk := lpickP_lt e ps.length hpl
  obtain ⟨c1, c2⟩ := pair_row hrow _ hk
  have c0 : w.cell? ⟨wb, 0, none⟩ = some lv := by unfold World.cell?; simp only [h.blk]; rfl
  rw [hlv] at c0
  have HH : Hid (PW base m w wb sk lv ps) := h
  have HE : Hid (ps = ps.take (lpickP e ps.length) ++ ps[lpickP e ps.length] :: ps.drop (lpickP e ps.length + 1)) := split_at ps _ hk
  obtain ⟨q, hq⟩ : ∃ q, ps[lpickP e ps.length] = q := ⟨_, rfl⟩
  rw [hq] at c1 c2 HE
  obtain ⟨k, hkk⟩ : ∃ k, lpickP e ps.length = k := ⟨_, rfl⟩
  have HPK : Hid (∀ w, Calls Tryz.prog 44 #[.int .i64 e, .int .i64 (ps.length : Int)] w fun r w' => r = .returned (.int .i64 (k : Int)) ∧ w' = w) := fun w => by
    rw [← hkk]; exact pick_any e ps.length w hpl (by omega) he
  rw [hkk] at c1 c2 HE hk
  obtain ⟨xa, xn, xc, rfl⟩ := hL
  obtain ⟨W, hW⟩ : ∃ W, W = w.alloc (stepObj 4 e s a b (.slice xa xn xc)) := ⟨_, rfl⟩
  have gW : w.grownBy W none := by rw [hW]; exact gb_alloc (gb_refl _ _) _
  have bS : W.heap[w.heap.size]? = some (stepObj 4 e s a b (.slice xa xn xc)) := by rw [hW]; exact alloc_new _ _ _ rfl
  have hWz : W.heap.size = w.heap.size + 1 := by rw [hW]; simp
  have d0 := gb_cell gW c0 (by simp)
  have d1 := gb_cell gW c1 (by simp)
  have d2 := gb_cell gW c2 (by simp)
  have s0 : W.cell? ⟨w.heap.size, 0, none⟩ = some (.int .i64 4) := by unfold World.cell?; simp only [bS]; rfl
  have s1 : W.cell? ⟨w.heap.size, 1, none⟩ = some (.int .i64 e) := by unfold World.cell?; simp only [bS]; rfl
  have hki : (k : Int) < (ps.length : Int) := by omega
  have HWE : Hid (w.alloc (.cells #[.int .i64 4, .int .i64 e, .string s, .int .i64 a, .int .i64 b, .slice xa xn xc] 65) = W) := hW.symm
  have HBS : Hid (W.heap[w.heap.size]? = some (stepObj 4 e s a b (.slice xa xn xc))) := bS
  have HWZ : Hid (W.heap.size = w.heap.size + 1) := hWz
  have ne0 := World.new_ne W _ d0
  have ne1 := World.new_ne W _ d1
  have ne2 := World.new_ne W _ s1
  clear hlv hla hrow hkk hq hps c0 c1 c2 hW bS h hWz
  unfold stepV
  go_enter Tryz.func30, Tryz.ntmps30
  go_upto_region 1 with fail
  rw [HWE.out]
  go_upto_region 5 with fail
  go_cut [5] (fun v w' => v = .pointer (some ⟨W.heap.size, 0, none⟩) ∧ w'.heap[W.heap.size]? = some (.cells #[.pointer (some ⟨q.1.b, 0, none⟩), .pointer (some ⟨q.2.b, 0, none⟩)] 88) ∧ W.grownBy w' none)
  case first =>
    go_region_held3 (fun w' => w'.cell? ⟨wb, 0, none⟩ = some (.slice (some ⟨lb, 0, none⟩) ps.length lc) ∧ w'.cell? ⟨w.heap.size, 1, none⟩ = some (.int .i64 e) ∧ w'.cell? ⟨lb, k * 2, none⟩ = some (.pointer (some ⟨q.1.b, 0, none⟩)) ∧ w'.cell? ⟨lb, k * 2 + 1, none⟩ = some (.pointer (some ⟨q.2.b, 0, none⟩))) (go_keep) ((go_at_call 44; refine (HPK.out _).mono ?_; rintro r w' ⟨rfl, rfl⟩))
    all_goals
      go_wp2
      go_meet
      case rel => exact ⟨rfl, alloc_new _ _ _ rfl, gb_d (q := 1) (gb_alloc (gb_refl _ _) _)⟩
  case rest =>
    obtain ⟨rfl, hp, gc⟩ := hcut
    have G := gb_trans gW gc
    have hPW := HH.out.gb G
    have hqm : q ∈ ps := by rw [HE.out]; simp
    have hpa := hPW.each q hqm
    have HPA : Hid (PairAt m wc q) := hpa
    have HPW : Hid (PW base m wc wb sk lv ps) := hPW
    have hold : ∀ b' ∈ pairOwn q, b' < w.heap.size := (HH.out.each q hqm).lt
    have HSB : Hid (wc.heap[w.heap.size]? = some (stepObj 4 e s a b (.slice xa xn xc))) := (gc.block _ (by rw [HWZ.out]; omega) (by simp)).trans HBS.out
    have HPB : Hid (wc.heap[W.heap.size]? = some (.cells #[.pointer (some ⟨q.1.b, 0, none⟩), .pointer (some ⟨q.2.b, 0, none⟩)] 88)) := hp
    have HWB : Hid (∀ w3, wc.grownBy w3 none ∨ Kept (pairOwn q) wc w3 → w3.heap[w.heap.size]? = some (stepObj 4 e s a b (.slice xa xn xc)) ∧ w3.heap[W.heap.size]? = some (.cells #[.pointer (some ⟨q.1.b, 0, none⟩), .pointer (some ⟨q.2.b, 0, none⟩)] 88)) := by
      intro w3 hk3
      have l1 := lt_of HSB.out
      have l2 := lt_of HPB.out
      rcases hk3 with hk3 | hk3
      · exact ⟨(hk3.block _ l1 (by simp)).trans HSB.out, (hk3.block _ l2 (by simp)).trans HPB.out⟩
      · refine ⟨(hk3.block _ l1 (fun hm => ?_)).trans HSB.out, (hk3.block _ l2 (fun hm => ?_)).trans HPB.out⟩
        · have := hold _ hm; omega
        · have := hold _ hm; have := HWZ.out; omega
    have x0 : wc.cell? ⟨W.heap.size, 0, none⟩ = some (.pointer (some ⟨q.1.b, 0, none⟩)) := by unfold World.cell?; simp only [hp]; rfl
    have y0 : wc.cell? ⟨w.heap.size, 0, none⟩ = some (.int .i64 4) := by unfold World.cell?; simp only [HSB.out]; rfl
    have y2 : wc.cell? ⟨w.heap.size, 2, none⟩ = some (.string s) := by unfold World.cell?; simp only [HSB.out]; rfl
    have y3 : wc.cell? ⟨w.heap.size, 3, none⟩ = some (.int .i64 a) := by unfold World.cell?; simp only [HSB.out]; rfl
    have y5 : wc.cell? ⟨w.heap.size, 5, none⟩ = some (.slice xa xn xc) := by unfold World.cell?; simp only [HSB.out]; rfl
    have HBW : Hid (w.grownBy wc none) := G
    clear hp gc G hPW hpa d0 d1 d2 s0 s1 ne0 ne1 ne2 gW
    go_wp2_with fail
    refine (bChange_any q.1 s a m _ HPA.out.px HPA.out.ox (by omega)).mono ?_
    rintro r w3 ⟨t', k1, rfl, ho3, hd3, hc3⟩
    obtain ⟨b3, b4⟩ := HWB.out w3 (Or.inr (ho3.kept.mono fun b' hb' => Or.inl (by simp [pairOwn, hb'])))
    have x1 : w3.cell? ⟨W.heap.size, 1, none⟩ = some (.pointer (some ⟨q.2.b, 0, none⟩)) := by unfold World.cell?; simp only [b4]; rfl
    have v2 : w3.cell? ⟨w.heap.size, 2, none⟩ = some (.string s) := by unfold World.cell?; simp only [b3]; rfl
    have v3 : w3.cell? ⟨w.heap.size, 3, none⟩ = some (.int .i64 a) := by unfold World.cell?; simp only [b3]; rfl
    have hnd := HPA.out.nodup
    have hr3 : RB.At w3 q.2 := HPA.out.py.kept ho3.kept (fun b' hb' hm => by
      simp only [pairOwn, List.nodup_append] at hnd
      exact hnd.2.2 b' hm b' (by simp [hb']) rfl)
    have HO3 : Hid (Out (m + 1) q.1 t' wc w3) := ho3
    have HC3 : Hid (ChgOut q.1.view s.data.toList a k1 t'.view) := chgOut (view_srt HPA.out.ox) (view_ser HPA.out.ox) hc3
    have HD3 : Hid (RdOk t' ∧ t'.rview = q.1.rview) := ⟨rdOk_of HPA.out.rx hd3, rview_of hd3⟩
    clear ho3 hc3 hd3 b3 b4 x0 y0 y2 y3 y5
    go_wp2_with fail
    refine (refChg_any q.2 s a m _ hr3 HPA.out.oy (by omega)).mono ?_
    rintro r w4 ⟨r', k2, rfl, ho4, hc4⟩
    obtain ⟨hcode, hrel⟩ := chg_step HPA.out.rel (names_nodup HPA.out.ox) (by have := HPA.out.oy.slen; simpa [RB.view] using this) HC3.out hc4
    subst hcode
    obtain ⟨p1, p2, p3⟩ := pair_out hnd HPA.out.py (HPA.out.rds.mono (Nat.le_succ m)) HO3.out HD3.out.1 HD3.out.2 ho4 hrel
    obtain ⟨u1, u2⟩ := HPW.out.upd (q' := (t', r')) (Nat.le_succ m) HE.out HO3.out.b ho4.b p1 p2 p3
    have HU : Hid (PW base (m + 1) w4 wb sk lv (ps.take k ++ (t', r') :: ps.drop (k + 1)) ∧ Kpt wb lv ps wc lv (ps.take k ++ (t', r') :: ps.drop (k + 1)) w4) := ⟨u1, u2⟩
    have hkk : (k1 == k1) = true := by simp
    clear u1 u2 p1 p2 p3 ho4 hc4 hrel hr3 hnd
    go_wp2_with (go_at_call 49; refine (num_any _ _).mono ?_; rintro r w' ⟨rfl, rfl⟩)
    go_ret
    exact ⟨rfl, lv, _, HU.out.1, by simp, .from HBW.out HU.out.2, by simp; omega⟩

end Go.Proofs.YtcfdemhokbddiaaGreatDoor

/-
  Lists that came out, written full of a mark by the caller.
-/
namespace Go.Proofs.YtcfdemhokbddiaaGreatDoor
open Go.RowKit

theorem row_prefix {w : World} {s n k g c : Nat} {xs ys : List Value} (h : w.ownsRow s 9 1 (.slice (some ⟨g, 0, none⟩) (n + k) c) (n + k) (xs ++ ys)) (hx : xs.length = n) : w.ownsRow s 9 1 (.slice (some ⟨g, 0, none⟩) n c) n xs := by
  rcases h.2 with ⟨h1, _⟩ | ⟨g', cap, cur, h1, h2, h3, h4, h5, h6, h7⟩
  · simp at h1
  · simp only [Value.slice.injEq, Option.some.injEq, Addr.mk.injEq, and_true, true_and] at h1
    obtain ⟨rfl, rfl⟩ := h1
    refine ⟨by rw [hx, Nat.mul_one], Or.inr ⟨g, c, cur, rfl, h2, h3, by omega, h5, h6, ?_⟩⟩
    have := congrArg (List.take n) h7
    rw [List.take_take, Nat.mul_one, Nat.min_eq_left (by omega), List.take_append_of_le_length (by omega), List.take_of_length_le (l := xs) (by omega)] at this
    rw [Nat.mul_one]; exact this
theorem run_append_rows4 (w : World) (base base' : Nat) (v : Value) (n : Nat) (xs : List Value) (hv : w.ownsRow base 9 1 v n xs) (u : Value) (k : Nat) (ls : List (List UInt8)) (hu : w.ownsRow base' 9 1 u k (strs ls)) (hb : base ≤ w.heap.size) (hn : n + k ≤ 100000) :
    ∃ v' w', (Builtin.append_ #[32, 32] 32 #[v, u]).run Tryz.prog w = .ok v' w' ∧ w'.ownsRow base 9 1 v' (n + k) (xs ++ strs ls) ∧ w.grownBy w' v.ownBlock ∧ (v'.ownBlock = v.ownBlock ∨ (v'.ownBlock = some w.heap.size ∧ w.grownBy w' none)) ∧ w'.ownsRow base 9 1 v n xs := by
  obtain ⟨v', w', hr, h2, h3⟩ := run_append_rows w base base' v n xs hv u k ls hu hb hn
  refine ⟨v', w', hr, h2, h3, ?_⟩
  obtain ⟨i0, hi, hz0, hz1, hz2⟩ := info_parts Tryz.info9
  rcases hu.2 with ⟨rfl, rfl⟩ | ⟨g, cap, cur, rfl, _⟩
  · have hr2 := run_append_owned_none w base 32 32 9 i0 1 Tryz.underlying32 hi v n xs hv
    have := hr.symm.trans hr2
    injection this with e1 e2
    exact ⟨Or.inl (by rw [e1]), by rw [e2]; exact hv⟩
  · have hl : (strs ls).length = k * i0.size := by rw [hz1]; exact hu.1
    have hnews : ∀ j u, (strs ls)[j]? = some u → w.cell? ((⟨g, 0, none⟩ : Addr).add j) = some u := fun j u hj => own_cells1 hu rfl j u hj
    have h1c : ∀ u ∈ strs ls, u.oneCell' = true := fun u hu => by
      simp only [strs, List.mem_map] at hu
      obtain ⟨a, _, rfl⟩ := hu
      rfl
    rcases hv.2 with ⟨rfl, rfl⟩ | ⟨g', cap', cur', rfl, hbg, hg, hnc, hcm, hcs, htake⟩
    · by_cases hk0 : k = 0
      · subst hk0
        obtain ⟨v2, w2, hq, _, _, hq4⟩ := run_append_own (P := Tryz.prog) w base 32 32 9 i0 (.string ⟨#[]⟩) 1 16 Tryz.underlying32 hi hz0 hz1 hz2 rfl (by omega) _ 0 xs hv ⟨g, 0, none⟩ 0 cap (strs ls) hu.1 hnews h1c (by unfold maxLen; omega) (by omega) hb
        have := hr.symm.trans hq
        injection this with e1 _
        have hx0 : xs = [] := List.eq_nil_of_length_eq_zero (by simpa using hv.1)
        exact ⟨Or.inl (by rw [e1, hq4.2 ⟨rfl, rfl⟩]), by rw [hx0]; exact own_nil _ _ _⟩
      · have hr2 := run_append_nil (P := Tryz.prog) w 32 32 9 i0 (.string ⟨#[]⟩) Tryz.underlying32 hi hz0 ⟨g, 0, none⟩ k cap (strs ls) hl hnews (by omega) (by omega) (by rw [hz2]; omega)
        have := hr.symm.trans hr2
        injection this with e1 e2
        have hg0 : w.grownBy w' none := by rw [e2]; exact gb_alloc (gb_drew (gb_refl _ _)) _
        exact ⟨Or.inr ⟨by rw [e1]; rfl, hg0⟩, own_frame hv fun b hb => hg0.block b (own_lt hv b hb) (by simp)⟩
    · by_cases hroom : n + k ≤ cap'
      · have hfit : n * i0.size + (strs ls).length ≤ cur'.size := by rw [hl, hz1, hcs]; omega
        have hr2 := run_append_room (P := Tryz.prog) w 32 32 9 i0 Tryz.underlying32 hi g' n cap' cur' hg ⟨g, 0, none⟩ k cap (strs ls) hl hnews h1c hroom hfit
        have := hr.symm.trans hr2
        injection this with e1 _
        refine ⟨Or.inl (by rw [e1]; rfl), ?_⟩
        rw [e1] at h2
        exact row_prefix h2 (by simpa using hv.1)
      · have holds : ∀ j u, xs[j]? = some u → w.cell? ((⟨g', 0, none⟩ : Addr).add j) = some u := hv.cells (g := g') rfl
        have hr2 := run_append_grow (P := Tryz.prog) w 32 32 9 i0 (.string ⟨#[]⟩) Tryz.underlying32 hi hz0 ⟨g', 0, none⟩ n cap' xs (by rw [hz1]; exact hv.1) holds ⟨g, 0, none⟩ k cap (strs ls) hl hnews (by omega) (by omega) (growslice_fits (by omega) (by rw [hz2]; omega))
        have := hr.symm.trans hr2
        injection this with e1 e2
        have hg0 : w.grownBy w' none := by rw [e2]; exact gb_alloc (gb_drew (gb_refl _ _)) _
        exact ⟨Or.inr ⟨by rw [e1]; rfl, hg0⟩, own_frame hv fun b hb => hg0.block b (own_lt hv b hb) (by simp)⟩


def markT (k : Nat) : List UInt8 := [109, 97, 114, 107] ++ Lib.itoa (k : Int)
theorem markT_len (k : Nat) (h : k ≤ 1000000000) : (markT k).length ≤ 30 := by
  have := itoa_len (n := (k : Int)) (by omega)
  simp [markT]; omega
/-- A list all of whose texts are one. -/
def MarkAt (w : World) (v : Value) (x : List UInt8) : Prop := ∃ sa n cap, v = .slice sa n cap ∧ n ≤ 100 ∧ (n = 0 ∨ ∃ b, sa = some ⟨b, 0, none⟩ ∧ b < w.heap.size ∧ ∀ i, i < n → w.cell? ⟨b, i, none⟩ = some (.string (B x)))
theorem MarkAt.frame {w w' : World} {v : Value} {x : List UInt8} (h : MarkAt w v x) (hs : w.heap.size ≤ w'.heap.size) (hk : ∀ b ∈ v.ownBlock.toList, b < w.heap.size → w'.heap[b]? = w.heap[b]?) : MarkAt w' v x := by
  obtain ⟨sa, n, cap, rfl, hn, hp⟩ := h
  refine ⟨sa, n, cap, rfl, hn, ?_⟩
  rcases hp with hp | ⟨b, rfl, hb, hc⟩
  · exact Or.inl hp
  · refine Or.inr ⟨b, rfl, by omega, fun i hi => ?_⟩
    rw [World.cell?_of_block (a := ⟨b, i, none⟩) (hk b (by simp [Value.ownBlock]) hb)]
    exact hc i hi
theorem MarkAt.gb {w w' : World} {v : Value} {x : List UInt8} (h : MarkAt w v x) (hg : w.grownBy w' none) : MarkAt w' v x := h.frame hg.size fun b _ hl => hg.block b hl (by simp)
theorem mark_of_row {w : World} {s n : Nat} {v : Value} {x : List UInt8} (h : w.ownsRow s 9 1 v n (strs (List.replicate n x))) (hn : n ≤ 100) : MarkAt w v x := by
  obtain ⟨sa, sc, rfl, _, hsa⟩ := own_shape1 h
  refine ⟨sa, n, sc, rfl, hn, ?_⟩
  rcases hsa with ⟨_, h0, _⟩ | ⟨g, rfl, hg⟩
  · exact Or.inl h0
  · refine Or.inr ⟨g, rfl, hg, fun i hi => ?_⟩
    have := own_cells1 h rfl i (.string (B x)) (by simp [strs, hi])
    rw [Addr.add_lit, Nat.zero_add] at this
    exact this
theorem strs_rep (n k : Nat) (x : List UInt8) : strs (List.replicate n x) ++ strs (List.replicate k x) = strs (List.replicate (n + k) x) := by
  simp [strs, List.replicate_append_replicate]
/-- Marks put behind a list of marks: the new list, the old one, and any other that lies there stand so. -/
theorem app_mark {w w' : World} {s n k : Nat} {v v' : Value} {x : List UInt8} (h1 : w'.ownsRow s 9 1 v' (n + k) (strs (List.replicate (n + k) x))) (hg : w.grownBy w' v.ownBlock) (hor : v'.ownBlock = v.ownBlock ∨ (v'.ownBlock = some w.heap.size ∧ w.grownBy w' none)) {u : Value} {xa : Option Addr} {len c : Nat} (eu : u = .slice xa len c) (hu : MarkAt w u x) (hl : u.ownBlock = v.ownBlock → len ≤ n + k) : MarkAt w' u x := by
  rcases hor with ho | ⟨_, hn⟩
  · by_cases hb : u.ownBlock = v.ownBlock
    · obtain ⟨sa, n', cap, e, hn', hp⟩ := hu
      rw [eu] at e
      simp only [Value.slice.injEq] at e
      obtain ⟨rfl, rfl, rfl⟩ := e
      refine ⟨xa, len, c, eu, hn', ?_⟩
      rcases hp with hp | ⟨b, rfl, hbl, _⟩
      · exact Or.inl hp
      · refine Or.inr ⟨b, rfl, Nat.lt_of_lt_of_le hbl hg.size, fun i hi => ?_⟩
        have e1 : v'.ownBlock = some b := by rw [ho, ← hb, eu]; rfl
        obtain ⟨sa2, sc2, rfl, _, hsa2⟩ := own_shape1 h1
        rcases hsa2 with ⟨rfl, _, _⟩ | ⟨g, rfl, _⟩
        · simp [Value.ownBlock] at e1
        · simp only [Value.ownBlock, Option.some.injEq] at e1
          subst e1
          have hik : i < n + k := by have := hl hb; omega
          have := own_cells1 h1 rfl i (.string (B x)) (by simp [strs, hik])
          rw [Addr.add_lit, Nat.zero_add] at this
          exact this
    · exact hu.frame hg.size fun b hbm hl => hg.block b hl (fun e => hb (by
        cases hq : u.ownBlock with
        | none => rw [hq] at hbm; simp at hbm
        | some b' => rw [hq] at hbm; simp at hbm; rw [← e, hbm]))
  · exact hu.gb hn
theorem wpList_append_mark (w : World) {ops : Array Oper} {rest : List Oper} {o : Oper} {a : Act} {Q : Exit → Act → World → Prop} (hg : o.guard = none) (s x : Operand) (hop : o.op = Op.call { callee := Callee.builtin Builtin.append, args := #[s, x], argTypes := #[32, 32] }) (hty : o.type = 32)
    (base base' : Nat) (v : Value) (n : Nat) (xs : List Value) (hs : a.eval s = v) (hv : w.ownsRow base 9 1 v n xs) (u : Value) (k : Nat) (ls : List (List UInt8)) (hx : a.eval x = u) (hu : w.ownsRow base' 9 1 u k (strs ls)) (hb : base ≤ w.heap.size) (hn : n + k ≤ 100000)
    (hK : ∀ v' w', w'.ownsRow base 9 1 v' (n + k) (xs ++ strs ls) → w.grownBy w' v.ownBlock → (v'.ownBlock = v.ownBlock ∨ (v'.ownBlock = some w.heap.size ∧ w.grownBy w' none)) → w'.ownsRow base 9 1 v n xs → wpList Tryz.prog ops Q rest (a.put o.dst v') w') : wpList Tryz.prog ops Q (o :: rest) a w := by
  refine wpList_plain hg fun K hK' => ?_
  obtain ⟨v', w', hrun, r1, r2, r3, r4⟩ := run_append_rows4 w base base' v n xs hv u k ls hu hb hn
  unfold Oper.wp
  simp [execOp, hop, hty, resolve, invoke, builtin, hs, hx, hrun, Result.andThen]
  exact hK' _ _ (hK v' w' r1 r2 r3 r4)

end Go.Proofs.YtcfdemhokbddiaaGreatDoor

/-
  The law's World.own: what it needs.
-/
namespace Go.Proofs.YtcfdemhokbddiaaGreatDoor
open Go.RowKit

/-- The caller's list and what he put behind it so far. -/
structure OI (w0 : World) (l : Value) (s n : Nat) (x : List UInt8) (us : List Value) (w : World) : Prop where
  row : w.ownsRow s 9 1 l n (strs (List.replicate n x))
  kept : Kept l.ownBlock.toList w0 w
  marks : ∀ u ∈ us, MarkAt w u x ∧ (∃ xa len c, u = .slice xa len c ∧ len ≤ n + us.length) ∧ ∀ b ∈ u.ownBlock.toList, b ∈ l.ownBlock.toList ∨ (w0.heap.size ≤ b ∧ b < w.heap.size)
theorem OI.gb {w0 : World} {l : Value} {s n : Nat} {x : List UInt8} {us : List Value} {w w' : World} (h : OI w0 l s n x us w) (hg : w.grownBy w' none) : OI w0 l s n x us w' :=
  ⟨own_frame h.row fun b hb => hg.block b (own_lt h.row b hb) (by simp), h.kept.trans (Kept.of_none hg _), fun u hu => by
    obtain ⟨h1, h2, h3⟩ := h.marks u hu
    exact ⟨h1.gb hg, h2, fun b hb => (h3 b hb).imp id fun q => ⟨q.1, Nat.lt_of_lt_of_le q.2 hg.size⟩⟩⟩
theorem OI.app {w0 : World} {l : Value} {s n : Nat} {x : List UInt8} {us : List Value} {wy w' : World} {v' : Value} (h : OI w0 l s n x us wy) (hn : n + (us.length + 1) ≤ 100) (r1 : w'.ownsRow s 9 1 v' (n + (us.length + 1)) (strs (List.replicate n x) ++ strs (List.replicate (us.length + 1) x))) (hg : wy.grownBy w' l.ownBlock) (hor : v'.ownBlock = l.ownBlock ∨ (v'.ownBlock = some wy.heap.size ∧ wy.grownBy w' none)) (r4 : w'.ownsRow s 9 1 l n (strs (List.replicate n x))) : OI w0 l s n x (us ++ [v']) w' := by
  rw [strs_rep] at r1
  have hk1 : Kept l.ownBlock.toList wy w' := kept_of_opt (gb_refl wy none) hg
  refine ⟨r4, h.kept.trans hk1, fun u hu => ?_⟩
  rw [List.length_append, List.length_singleton]
  rcases List.mem_append.1 hu with hu | hu
  · obtain ⟨h1, ⟨xa, len, c, e, hl⟩, h3⟩ := h.marks u hu
    exact ⟨app_mark r1 hg hor e h1 (fun _ => by omega), ⟨xa, len, c, e, by omega⟩, fun b hb => (h3 b hb).imp id fun q => ⟨q.1, Nat.lt_of_lt_of_le q.2 hg.size⟩⟩
  · obtain rfl := List.mem_singleton.1 hu
    refine ⟨mark_of_row r1 hn, ?_, fun b hb => ?_⟩
    · obtain ⟨sa, sc, e, _, _⟩ := own_shape1 r1
      exact ⟨sa, _, sc, e, by omega⟩
    · have hlt := own_lt r1 b hb
      rcases hor with ho | ⟨ho, _⟩
      · rw [ho] at hb; exact Or.inl hb
      · rw [ho] at hb
        have e : b = wy.heap.size := by simpa using hb
        exact Or.inr ⟨by rw [e]; exact h.kept.size, hlt⟩
theorem rep_row {w : World} {b k : Nat} {x : List UInt8} (h : w.heap[b]? = some (.cells (List.replicate k (Value.string (B x))).toArray 9)) (hk : k ≤ 100) : w.ownsRow b 9 1 (.slice (some ⟨b, 0, none⟩) k k) k (strs (List.replicate k x)) := by
  refine ⟨by simp [strs], Or.inr ⟨b, k, _, rfl, Nat.le_refl _, h, Nat.le_refl _, by unfold maxLen; omega, by simp, ?_⟩⟩
  simp [strs]
/-- One text of a row written over. -/
theorem row_put {w : World} {s n g c k : Nat} {xs : List Value} (h : w.ownsRow s 9 1 (.slice (some ⟨g, 0, none⟩) n c) n xs) (v : Value) : (w.setCell ⟨g, k, none⟩ v).ownsRow s 9 1 (.slice (some ⟨g, 0, none⟩) n c) n (xs.set k v) := by
  have hx : xs.length = n := by have := h.1; omega
  rcases h.2 with ⟨h1, _⟩ | ⟨g', cap, cur, h1, h2, h3, h4, h5, h6, h7⟩
  · simp at h1
  · simp only [Value.slice.injEq, Option.some.injEq, Addr.mk.injEq, and_true, true_and] at h1
    obtain ⟨rfl, rfl⟩ := h1
    refine ⟨by rw [List.length_set, hx, Nat.mul_one], Or.inr ⟨g, c, cur.setIfInBounds k v, rfl, h2, text_set h3 v, h4, h5, by simp [h6], ?_⟩⟩
    rw [Array.toList_setIfInBounds, Nat.mul_one, List.take_set, ← h7, Nat.mul_one]

end Go.Proofs.YtcfdemhokbddiaaGreatDoor
