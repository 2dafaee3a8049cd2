/-
  One step of the law: Change.
-/
import Derived.Test.YtcfdemhokbddiaaGreatDoorQLa
import Derived.Deep.RegionHeld3
import Derived.Test.YtcfdemhokbddiaaGreatDoorQUa
import Derived.ProofKit
import Derived.SizedLaws
import Derived.Deep.Slices

namespace Go.Proofs.YtcfdemhokbddiaaGreatDoor
open Go.RowKit

def stepV (kind e : Int) (s : ByteArray) (a b : Int) (L : Value) : Value := .agg #[.int .i64 kind, .int .i64 e, .string s, .int .i64 a, .int .i64 b, L]
def stepObj (kind e : Int) (s : ByteArray) (a b : Int) (L : Value) : Obj := .cells #[.int .i64 kind, .int .i64 e, .string s, .int .i64 a, .int .i64 b, L] 65

theorem view_srt {m : Nat} {t : GT} (h : GT.Ok m t) : KSrt lt (t.view.map Fam.nm) := by
  have e : t.view.map Fam.nm = t.fams.map GF.nm := by simp [GT.view, GF.view]
  rw [e]; exact h.srt
theorem view_ser {m : Nat} {t : GT} (h : GT.Ok m t) : ∀ f ∈ t.view, KSrt lt (f.ser.map Cnt.plain) := fun f hf => by
  obtain ⟨g, hg, rfl⟩ := List.mem_map.1 hf
  have e : (GF.view g).ser.map Cnt.plain = g.ser.map (fun c => c.x.plain) := by simp [GF.view]
  rw [e]; exact (h.each g hg).srt
theorem pair_row {w : World} {g cap n : Nat} {ps : List (GT × RB)} (h : w.ownsRow 0 88 2 (.slice (some ⟨g, 0, none⟩) n cap) n (ps.flatMap pairCells)) (k : Nat) (hk : k < ps.length) :
    w.cell? ⟨g, k * 2, none⟩ = some (.pointer (some ⟨(ps[k]).1.b, 0, none⟩)) ∧ w.cell? ⟨g, k * 2 + 1, none⟩ = some (.pointer (some ⟨(ps[k]).2.b, 0, none⟩)) := by
  have hget : ∀ (ps : List (GT × RB)) (k : Nat) (hk : k < ps.length), (ps.flatMap pairCells)[k * 2]? = some (.pointer (some ⟨(ps[k]).1.b, 0, none⟩)) ∧ (ps.flatMap pairCells)[k * 2 + 1]? = some (.pointer (some ⟨(ps[k]).2.b, 0, none⟩)) := by
    intro ps
    induction ps with
    | nil => intro k hk; simp at hk
    | cons q ps ih =>
      intro k hk
      cases k with
      | zero => simp [pairCells]
      | succ k =>
        have := ih k (by simpa using hk)
        rw [List.flatMap_cons, show (k + 1) * 2 = k * 2 + 2 from by omega, show k * 2 + 2 + 1 = k * 2 + 1 + 2 from by omega, List.getElem?_append_right (by simp [pairCells]), List.getElem?_append_right (by simp [pairCells])]
        simpa [pairCells] using this
  obtain ⟨h1, h2⟩ := hget ps k hk
  have e1 := h.cells (g := g) rfl _ _ h1
  have e2 := h.cells (g := g) rfl _ _ h2
  rw [Addr.add_lit, Nat.zero_add] at e1 e2
  exact ⟨e1, e2⟩

set_option maxRecDepth 100000 in
set_option maxHeartbeats 2000000 in
theorem step_change {sk : Value × Value} (base m wb : Nat) (lv : Value) (ps : List (GT × RB)) (w : World) (h : PW base m w wb sk lv ps) (hps : ps ≠ []) (hm : m ≤ 2199023255552) (e a b : Int) (he : -9223372036854775808 ≤ e ∧ e ≤ 9223372036854775807) (s : ByteArray) (L : Value) (hL : ∃ x n c, L = .slice x n c) :
    Calls Tryz.prog 30 #[.pointer (some ⟨wb, 0, none⟩), stepV 4 e s a b L] w fun r w' => r = .returned (.bool true) ∧ ∃ lv' ps', PW base (m + 1) w' wb sk lv' ps' ∧ ps' ≠ [] ∧ Kpt wb lv ps w lv' ps' w' := by
  have hlen := h.len
  have hpl : 0 < ps.length := List.length_pos_iff.2 hps
  obtain ⟨la, lc, hlv, _, hla⟩ := own_shape2 h.row
  obtain ⟨lb, rfl⟩ : ∃ lb, la = some ⟨lb, 0, none⟩ := by
    rcases hla with ⟨_, h0, _⟩ | ⟨g, h1, _⟩
    · omega
    · exact ⟨g, h1⟩
  have hrow := h.row
  rw [hlv] at hrow
  have hk := lpickP_lt e ps.length hpl
  obtain ⟨c1, c2⟩ := pair_row hrow _ hk
  have c0 : w.cell? ⟨wb, 0, none⟩ = some lv := by unfold World.cell?; simp only [h.blk]; rfl
  rw [hlv] at c0
  have HH : Hid (PW base m w wb sk lv ps) := h
  have HE : Hid (ps = ps.take (lpickP e ps.length) ++ ps[lpickP e ps.length] :: ps.drop (lpickP e ps.length + 1)) := split_at ps _ hk
  obtain ⟨q, hq⟩ : ∃ q, ps[lpickP e ps.length] = q := ⟨_, rfl⟩
  rw [hq] at c1 c2 HE
  obtain ⟨k, hkk⟩ : ∃ k, lpickP e ps.length = k := ⟨_, rfl⟩
  have HPK : Hid (∀ w, Calls Tryz.prog 44 #[.int .i64 e, .int .i64 (ps.length : Int)] w fun r w' => r = .returned (.int .i64 (k : Int)) ∧ w' = w) := fun w => by
    rw [← hkk]; exact pick_any e ps.length w hpl (by omega) he
  rw [hkk] at c1 c2 HE hk
  obtain ⟨xa, xn, xc, rfl⟩ := hL
  obtain ⟨W, hW⟩ : ∃ W, W = w.alloc (stepObj 4 e s a b (.slice xa xn xc)) := ⟨_, rfl⟩
  have gW : w.grownBy W none := by rw [hW]; exact gb_alloc (gb_refl _ _) _
  have bS : W.heap[w.heap.size]? = some (stepObj 4 e s a b (.slice xa xn xc)) := by rw [hW]; exact alloc_new _ _ _ rfl
  have hWz : W.heap.size = w.heap.size + 1 := by rw [hW]; simp
  have d0 := gb_cell gW c0 (by simp)
  have d1 := gb_cell gW c1 (by simp)
  have d2 := gb_cell gW c2 (by simp)
  have s0 : W.cell? ⟨w.heap.size, 0, none⟩ = some (.int .i64 4) := by unfold World.cell?; simp only [bS]; rfl
  have s1 : W.cell? ⟨w.heap.size, 1, none⟩ = some (.int .i64 e) := by unfold World.cell?; simp only [bS]; rfl
  have hki : (k : Int) < (ps.length : Int) := by omega
  have HWE : Hid (w.alloc (.cells #[.int .i64 4, .int .i64 e, .string s, .int .i64 a, .int .i64 b, .slice xa xn xc] 65) = W) := hW.symm
  have HBS : Hid (W.heap[w.heap.size]? = some (stepObj 4 e s a b (.slice xa xn xc))) := bS
  have HWZ : Hid (W.heap.size = w.heap.size + 1) := hWz
  have ne0 := World.new_ne W _ d0
  have ne1 := World.new_ne W _ d1
  have ne2 := World.new_ne W _ s1
  clear hlv hla hrow hkk hq hps c0 c1 c2 hW bS h hWz
  unfold stepV
  go_enter Tryz.func30, Tryz.ntmps30
  go_upto_region 1 with fail
  rw [HWE.out]
  go_upto_region 5 with fail
  go_cut [5] (fun v w' => v = .pointer (some ⟨W.heap.size, 0, none⟩) ∧ w'.heap[W.heap.size]? = some (.cells #[.pointer (some ⟨q.1.b, 0, none⟩), .pointer (some ⟨q.2.b, 0, none⟩)] 88) ∧ W.grownBy w' none)
  case first =>
    go_region_held3 (fun w' => w'.cell? ⟨wb, 0, none⟩ = some (.slice (some ⟨lb, 0, none⟩) ps.length lc) ∧ w'.cell? ⟨w.heap.size, 1, none⟩ = some (.int .i64 e) ∧ w'.cell? ⟨lb, k * 2, none⟩ = some (.pointer (some ⟨q.1.b, 0, none⟩)) ∧ w'.cell? ⟨lb, k * 2 + 1, none⟩ = some (.pointer (some ⟨q.2.b, 0, none⟩))) (go_keep) ((go_at_call 44; refine (HPK.out _).mono ?_; rintro r w' ⟨rfl, rfl⟩))
    all_goals
      go_wp2
      go_meet
      case rel => exact ⟨rfl, alloc_new _ _ _ rfl, gb_d (q := 1) (gb_alloc (gb_refl _ _) _)⟩
  case rest =>
    obtain ⟨rfl, hp, gc⟩ := hcut
    have G := gb_trans gW gc
    have hPW := HH.out.gb G
    have hqm : q ∈ ps := by rw [HE.out]; simp
    have hpa := hPW.each q hqm
    have HPA : Hid (PairAt m wc q) := hpa
    have HPW : Hid (PW base m wc wb sk lv ps) := hPW
    have hold : ∀ b' ∈ pairOwn q, b' < w.heap.size := (HH.out.each q hqm).lt
    have HSB : Hid (wc.heap[w.heap.size]? = some (stepObj 4 e s a b (.slice xa xn xc))) := (gc.block _ (by rw [HWZ.out]; omega) (by simp)).trans HBS.out
    have HPB : Hid (wc.heap[W.heap.size]? = some (.cells #[.pointer (some ⟨q.1.b, 0, none⟩), .pointer (some ⟨q.2.b, 0, none⟩)] 88)) := hp
    have HWB : Hid (∀ w3, wc.grownBy w3 none ∨ Kept (pairOwn q) wc w3 → w3.heap[w.heap.size]? = some (stepObj 4 e s a b (.slice xa xn xc)) ∧ w3.heap[W.heap.size]? = some (.cells #[.pointer (some ⟨q.1.b, 0, none⟩), .pointer (some ⟨q.2.b, 0, none⟩)] 88)) := by
      intro w3 hk3
      have l1 := lt_of HSB.out
      have l2 := lt_of HPB.out
      rcases hk3 with hk3 | hk3
      · exact ⟨(hk3.block _ l1 (by simp)).trans HSB.out, (hk3.block _ l2 (by simp)).trans HPB.out⟩
      · refine ⟨(hk3.block _ l1 (fun hm => ?_)).trans HSB.out, (hk3.block _ l2 (fun hm => ?_)).trans HPB.out⟩
        · have := hold _ hm; omega
        · have := hold _ hm; have := HWZ.out; omega
    have x0 : wc.cell? ⟨W.heap.size, 0, none⟩ = some (.pointer (some ⟨q.1.b, 0, none⟩)) := by unfold World.cell?; simp only [hp]; rfl
    have y0 : wc.cell? ⟨w.heap.size, 0, none⟩ = some (.int .i64 4) := by unfold World.cell?; simp only [HSB.out]; rfl
    have y2 : wc.cell? ⟨w.heap.size, 2, none⟩ = some (.string s) := by unfold World.cell?; simp only [HSB.out]; rfl
    have y3 : wc.cell? ⟨w.heap.size, 3, none⟩ = some (.int .i64 a) := by unfold World.cell?; simp only [HSB.out]; rfl
    have y5 : wc.cell? ⟨w.heap.size, 5, none⟩ = some (.slice xa xn xc) := by unfold World.cell?; simp only [HSB.out]; rfl
    have HBW : Hid (w.grownBy wc none) := G
    clear hp gc G hPW hpa d0 d1 d2 s0 s1 ne0 ne1 ne2 gW
    go_wp2_with fail
    refine (bChange_any q.1 s a m _ HPA.out.px HPA.out.ox (by omega)).mono ?_
    rintro r w3 ⟨t', k1, rfl, ho3, hd3, hc3⟩
    obtain ⟨b3, b4⟩ := HWB.out w3 (Or.inr (ho3.kept.mono fun b' hb' => Or.inl (by simp [pairOwn, hb'])))
    have x1 : w3.cell? ⟨W.heap.size, 1, none⟩ = some (.pointer (some ⟨q.2.b, 0, none⟩)) := by unfold World.cell?; simp only [b4]; rfl
    have v2 : w3.cell? ⟨w.heap.size, 2, none⟩ = some (.string s) := by unfold World.cell?; simp only [b3]; rfl
    have v3 : w3.cell? ⟨w.heap.size, 3, none⟩ = some (.int .i64 a) := by unfold World.cell?; simp only [b3]; rfl
    have hnd := HPA.out.nodup
    have hr3 : RB.At w3 q.2 := HPA.out.py.kept ho3.kept (fun b' hb' hm => by
      simp only [pairOwn, List.nodup_append] at hnd
      exact hnd.2.2 b' hm b' (by simp [hb']) rfl)
    have HO3 : Hid (Out (m + 1) q.1 t' wc w3) := ho3
    have HC3 : Hid (ChgOut q.1.view s.data.toList a k1 t'.view) := chgOut (view_srt HPA.out.ox) (view_ser HPA.out.ox) hc3
    have HD3 : Hid (RdOk t' ∧ t'.rview = q.1.rview) := ⟨rdOk_of HPA.out.rx hd3, rview_of hd3⟩
    clear ho3 hc3 hd3 b3 b4 x0 y0 y2 y3 y5
    go_wp2_with fail
    refine (refChg_any q.2 s a m _ hr3 HPA.out.oy (by omega)).mono ?_
    rintro r w4 ⟨r', k2, rfl, ho4, hc4⟩
    obtain ⟨hcode, hrel⟩ := chg_step HPA.out.rel (names_nodup HPA.out.ox) (by have := HPA.out.oy.slen; simpa [RB.view] using this) HC3.out hc4
    subst hcode
    obtain ⟨p1, p2, p3⟩ := pair_out hnd HPA.out.py (HPA.out.rds.mono (Nat.le_succ m)) HO3.out HD3.out.1 HD3.out.2 ho4 hrel
    obtain ⟨u1, u2⟩ := HPW.out.upd (q' := (t', r')) (Nat.le_succ m) HE.out HO3.out.b ho4.b p1 p2 p3
    have HU : Hid (PW base (m + 1) w4 wb sk lv (ps.take k ++ (t', r') :: ps.drop (k + 1)) ∧ Kpt wb lv ps wc lv (ps.take k ++ (t', r') :: ps.drop (k + 1)) w4) := ⟨u1, u2⟩
    have hkk : (k1 == k1) = true := by simp
    clear u1 u2 p1 p2 p3 ho4 hc4 hrel hr3 hnd
    go_wp2_with (go_at_call 49; refine (num_any _ _).mono ?_; rintro r w' ⟨rfl, rfl⟩)
    go_ret
    exact ⟨rfl, lv, _, HU.out.1, by simp, .from HBW.out HU.out.2⟩

end Go.Proofs.YtcfdemhokbddiaaGreatDoor

/-
  Steps of the law: Drop, Plain, New, and what does nothing.
-/
namespace Go.Proofs.YtcfdemhokbddiaaGreatDoor
open Go.RowKit

set_option maxRecDepth 100000 in
set_option maxHeartbeats 2000000 in
theorem step_drop {sk : Value × Value} (base m wb : Nat) (lv : Value) (ps : List (GT × RB)) (w : World) (h : PW base m w wb sk lv ps) (hps : ps ≠ []) (hm : m ≤ 2199023255552) (e a b : Int) (he : -9223372036854775808 ≤ e ∧ e ≤ 9223372036854775807) (s : ByteArray) (L : Value) (hL : ∃ x n c, L = .slice x n c) :
    Calls Tryz.prog 30 #[.pointer (some ⟨wb, 0, none⟩), stepV 5 e s a b L] w fun r w' => r = .returned (.bool true) ∧ ∃ lv' ps', PW base (m + 1) w' wb sk lv' ps' ∧ ps' ≠ [] ∧ Kpt wb lv ps w lv' ps' w' := by
  have hlen := h.len
  have hpl : 0 < ps.length := List.length_pos_iff.2 hps
  obtain ⟨la, lc, hlv, _, hla⟩ := own_shape2 h.row
  obtain ⟨lb, rfl⟩ : ∃ lb, la = some ⟨lb, 0, none⟩ := by
    rcases hla with ⟨_, h0, _⟩ | ⟨g, h1, _⟩
    · omega
    · exact ⟨g, h1⟩
  have hrow := h.row
  rw [hlv] at hrow
  have hk := lpickP_lt e ps.length hpl
  obtain ⟨c1, c2⟩ := pair_row hrow _ hk
  have c0 : w.cell? ⟨wb, 0, none⟩ = some lv := by unfold World.cell?; simp only [h.blk]; rfl
  rw [hlv] at c0
  have HH : Hid (PW base m w wb sk lv ps) := h
  have HE : Hid (ps = ps.take (lpickP e ps.length) ++ ps[lpickP e ps.length] :: ps.drop (lpickP e ps.length + 1)) := split_at ps _ hk
  obtain ⟨q, hq⟩ : ∃ q, ps[lpickP e ps.length] = q := ⟨_, rfl⟩
  rw [hq] at c1 c2 HE
  obtain ⟨k, hkk⟩ : ∃ k, lpickP e ps.length = k := ⟨_, rfl⟩
  have HPK : Hid (∀ w, Calls Tryz.prog 44 #[.int .i64 e, .int .i64 (ps.length : Int)] w fun r w' => r = .returned (.int .i64 (k : Int)) ∧ w' = w) := fun w => by
    rw [← hkk]; exact pick_any e ps.length w hpl (by omega) he
  rw [hkk] at c1 c2 HE hk
  obtain ⟨xa, xn, xc, rfl⟩ := hL
  obtain ⟨W, hW⟩ : ∃ W, W = w.alloc (stepObj 5 e s a b (.slice xa xn xc)) := ⟨_, rfl⟩
  have gW : w.grownBy W none := by rw [hW]; exact gb_alloc (gb_refl _ _) _
  have bS : W.heap[w.heap.size]? = some (stepObj 5 e s a b (.slice xa xn xc)) := by rw [hW]; exact alloc_new _ _ _ rfl
  have hWz : W.heap.size = w.heap.size + 1 := by rw [hW]; simp
  have d0 := gb_cell gW c0 (by simp)
  have d1 := gb_cell gW c1 (by simp)
  have d2 := gb_cell gW c2 (by simp)
  have s0 : W.cell? ⟨w.heap.size, 0, none⟩ = some (.int .i64 5) := by unfold World.cell?; simp only [bS]; rfl
  have s1 : W.cell? ⟨w.heap.size, 1, none⟩ = some (.int .i64 e) := by unfold World.cell?; simp only [bS]; rfl
  have hki : (k : Int) < (ps.length : Int) := by omega
  have HWE : Hid (w.alloc (.cells #[.int .i64 5, .int .i64 e, .string s, .int .i64 a, .int .i64 b, .slice xa xn xc] 65) = W) := hW.symm
  have HBS : Hid (W.heap[w.heap.size]? = some (stepObj 5 e s a b (.slice xa xn xc))) := bS
  have HWZ : Hid (W.heap.size = w.heap.size + 1) := hWz
  have ne0 := World.new_ne W _ d0
  have ne1 := World.new_ne W _ d1
  have ne2 := World.new_ne W _ s1
  clear hlv hla hrow hkk hq hps c0 c1 c2 hW bS h hWz
  unfold stepV
  go_enter Tryz.func30, Tryz.ntmps30
  go_upto_region 1 with fail
  rw [HWE.out]
  go_upto_region 5 with fail
  go_cut [5] (fun v w' => v = .pointer (some ⟨W.heap.size, 0, none⟩) ∧ w'.heap[W.heap.size]? = some (.cells #[.pointer (some ⟨q.1.b, 0, none⟩), .pointer (some ⟨q.2.b, 0, none⟩)] 88) ∧ W.grownBy w' none)
  case first =>
    go_region_held3 (fun w' => w'.cell? ⟨wb, 0, none⟩ = some (.slice (some ⟨lb, 0, none⟩) ps.length lc) ∧ w'.cell? ⟨w.heap.size, 1, none⟩ = some (.int .i64 e) ∧ w'.cell? ⟨lb, k * 2, none⟩ = some (.pointer (some ⟨q.1.b, 0, none⟩)) ∧ w'.cell? ⟨lb, k * 2 + 1, none⟩ = some (.pointer (some ⟨q.2.b, 0, none⟩))) (go_keep) ((go_at_call 44; refine (HPK.out _).mono ?_; rintro r w' ⟨rfl, rfl⟩))
    all_goals
      go_wp2
      go_meet
      case rel => exact ⟨rfl, alloc_new _ _ _ rfl, gb_d (q := 1) (gb_alloc (gb_refl _ _) _)⟩
  case rest =>
    obtain ⟨rfl, hp, gc⟩ := hcut
    have G := gb_trans gW gc
    have hPW := HH.out.gb G
    have hqm : q ∈ ps := by rw [HE.out]; simp
    have hpa := hPW.each q hqm
    have HPA : Hid (PairAt m wc q) := hpa
    have HPW : Hid (PW base m wc wb sk lv ps) := hPW
    have hold : ∀ b' ∈ pairOwn q, b' < w.heap.size := (HH.out.each q hqm).lt
    have HSB : Hid (wc.heap[w.heap.size]? = some (stepObj 5 e s a b (.slice xa xn xc))) := (gc.block _ (by rw [HWZ.out]; omega) (by simp)).trans HBS.out
    have HPB : Hid (wc.heap[W.heap.size]? = some (.cells #[.pointer (some ⟨q.1.b, 0, none⟩), .pointer (some ⟨q.2.b, 0, none⟩)] 88)) := hp
    have HWB : Hid (∀ w3, wc.grownBy w3 none ∨ Kept (pairOwn q) wc w3 → w3.heap[w.heap.size]? = some (stepObj 5 e s a b (.slice xa xn xc)) ∧ w3.heap[W.heap.size]? = some (.cells #[.pointer (some ⟨q.1.b, 0, none⟩), .pointer (some ⟨q.2.b, 0, none⟩)] 88)) := by
      intro w3 hk3
      have l1 := lt_of HSB.out
      have l2 := lt_of HPB.out
      rcases hk3 with hk3 | hk3
      · exact ⟨(hk3.block _ l1 (by simp)).trans HSB.out, (hk3.block _ l2 (by simp)).trans HPB.out⟩
      · refine ⟨(hk3.block _ l1 (fun hm => ?_)).trans HSB.out, (hk3.block _ l2 (fun hm => ?_)).trans HPB.out⟩
        · have := hold _ hm; omega
        · have := hold _ hm; have := HWZ.out; omega
    have x0 : wc.cell? ⟨W.heap.size, 0, none⟩ = some (.pointer (some ⟨q.1.b, 0, none⟩)) := by unfold World.cell?; simp only [hp]; rfl
    have y0 : wc.cell? ⟨w.heap.size, 0, none⟩ = some (.int .i64 5) := by unfold World.cell?; simp only [HSB.out]; rfl
    have y2 : wc.cell? ⟨w.heap.size, 2, none⟩ = some (.string s) := by unfold World.cell?; simp only [HSB.out]; rfl
    have y3 : wc.cell? ⟨w.heap.size, 3, none⟩ = some (.int .i64 a) := by unfold World.cell?; simp only [HSB.out]; rfl
    have y5 : wc.cell? ⟨w.heap.size, 5, none⟩ = some (.slice xa xn xc) := by unfold World.cell?; simp only [HSB.out]; rfl
    have HBW : Hid (w.grownBy wc none) := G
    clear hp gc G hPW hpa d0 d1 d2 s0 s1 ne0 ne1 ne2 gW
    go_wp2_with fail
    refine (bDrop_any q.1 s m _ HPA.out.px HPA.out.ox).mono ?_
    rintro r w3 ⟨t', k1, rfl, ho3, hd3, hc3⟩
    obtain ⟨b3, b4⟩ := HWB.out w3 (Or.inr (ho3.kept.mono fun b' hb' => Or.inl (by simp [pairOwn, hb'])))
    have x1 : w3.cell? ⟨W.heap.size, 1, none⟩ = some (.pointer (some ⟨q.2.b, 0, none⟩)) := by unfold World.cell?; simp only [b4]; rfl
    have v2 : w3.cell? ⟨w.heap.size, 2, none⟩ = some (.string s) := by unfold World.cell?; simp only [b3]; rfl
    have hnd := HPA.out.nodup
    have hr3 : RB.At w3 q.2 := HPA.out.py.kept ho3.kept (fun b' hb' hm => by
      simp only [pairOwn, List.nodup_append] at hnd
      exact hnd.2.2 b' hm b' (by simp [hb']) rfl)
    have HO3 : Hid (Out m q.1 t' wc w3) := ho3
    have HC3 : Hid (DrpOut q.1.view s.data.toList k1 t'.view) := drpOut (view_srt HPA.out.ox) (view_ser HPA.out.ox) hc3
    have HD3 : Hid (RdOk t' ∧ t'.rview = q.1.rview) := ⟨rdOk_of HPA.out.rx hd3, rview_of hd3⟩
    clear ho3 hc3 hd3 b3 b4 x0 y0 y2 y3 y5
    go_wp2_with fail
    refine (refDrp_any q.2 s m _ hr3 HPA.out.oy).mono ?_
    rintro r w4 ⟨r', k2, rfl, ho4, hc4⟩
    obtain ⟨hcode, hrel⟩ := drp_step HPA.out.rel (names_nodup HPA.out.ox) HC3.out hc4
    subst hcode
    obtain ⟨p1, p2, p3⟩ := pair_out hnd HPA.out.py HPA.out.rds HO3.out HD3.out.1 HD3.out.2 ho4 hrel
    obtain ⟨u1, u2⟩ := HPW.out.upd (q' := (t', r')) (Nat.le_refl m) HE.out HO3.out.b ho4.b p1 p2 p3
    have HU : Hid (PW base (m + 1) w4 wb sk lv (ps.take k ++ (t', r') :: ps.drop (k + 1)) ∧ Kpt wb lv ps wc lv (ps.take k ++ (t', r') :: ps.drop (k + 1)) w4) := ⟨u1.mono (Nat.le_succ m), u2⟩
    have hkk : (k1 == k1) = true := by simp
    clear u1 u2 p1 p2 p3 ho4 hc4 hrel hr3 hnd
    go_wp2_with (go_at_call 49; refine (num_any _ _).mono ?_; rintro r w' ⟨rfl, rfl⟩)
    go_ret
    exact ⟨rfl, lv, _, HU.out.1, by simp, .from HBW.out HU.out.2⟩

set_option maxRecDepth 100000 in
set_option maxHeartbeats 2000000 in
theorem step_other {sk : Value × Value} (base m wb : Nat) (lv : Value) (ps : List (GT × RB)) (w : World) (h : PW base m w wb sk lv ps) (hps : ps ≠ []) (hm : m ≤ 2199023255552) (kind e a b : Int) (hkd : (kind == 1) = false ∧ (kind == 2) = false ∧ (kind == 3) = false ∧ (kind == 4) = false ∧ (kind == 5) = false ∧ (kind == 6) = false ∧ (kind == 7) = false ∧ (kind == 8) = false) (he : -9223372036854775808 ≤ e ∧ e ≤ 9223372036854775807) (s : ByteArray) (L : Value) (hL : ∃ x n c, L = .slice x n c) :
    Calls Tryz.prog 30 #[.pointer (some ⟨wb, 0, none⟩), stepV kind e s a b L] w fun r w' => r = .returned (.bool true) ∧ ∃ lv' ps', PW base (m + 1) w' wb sk lv' ps' ∧ ps' ≠ [] ∧ Kpt wb lv ps w lv' ps' w' := by
  obtain ⟨kd1, kd2, kd3, kd4, kd5, kd6, kd7, kd8⟩ := hkd
  have hlen := h.len
  have hpl : 0 < ps.length := List.length_pos_iff.2 hps
  obtain ⟨la, lc, hlv, _, hla⟩ := own_shape2 h.row
  obtain ⟨lb, rfl⟩ : ∃ lb, la = some ⟨lb, 0, none⟩ := by
    rcases hla with ⟨_, h0, _⟩ | ⟨g, h1, _⟩
    · omega
    · exact ⟨g, h1⟩
  have hrow := h.row
  rw [hlv] at hrow
  have hk := lpickP_lt e ps.length hpl
  obtain ⟨c1, c2⟩ := pair_row hrow _ hk
  have c0 : w.cell? ⟨wb, 0, none⟩ = some lv := by unfold World.cell?; simp only [h.blk]; rfl
  rw [hlv] at c0
  have HH : Hid (PW base m w wb sk lv ps) := h
  have HE : Hid (ps = ps.take (lpickP e ps.length) ++ ps[lpickP e ps.length] :: ps.drop (lpickP e ps.length + 1)) := split_at ps _ hk
  obtain ⟨q, hq⟩ : ∃ q, ps[lpickP e ps.length] = q := ⟨_, rfl⟩
  rw [hq] at c1 c2 HE
  obtain ⟨k, hkk⟩ : ∃ k, lpickP e ps.length = k := ⟨_, rfl⟩
  have HPK : Hid (∀ w, Calls Tryz.prog 44 #[.int .i64 e, .int .i64 (ps.length : Int)] w fun r w' => r = .returned (.int .i64 (k : Int)) ∧ w' = w) := fun w => by
    rw [← hkk]; exact pick_any e ps.length w hpl (by omega) he
  rw [hkk] at c1 c2 HE hk
  obtain ⟨xa, xn, xc, rfl⟩ := hL
  obtain ⟨W, hW⟩ : ∃ W, W = w.alloc (stepObj kind e s a b (.slice xa xn xc)) := ⟨_, rfl⟩
  have gW : w.grownBy W none := by rw [hW]; exact gb_alloc (gb_refl _ _) _
  have bS : W.heap[w.heap.size]? = some (stepObj kind e s a b (.slice xa xn xc)) := by rw [hW]; exact alloc_new _ _ _ rfl
  have hWz : W.heap.size = w.heap.size + 1 := by rw [hW]; simp
  have d0 := gb_cell gW c0 (by simp)
  have d1 := gb_cell gW c1 (by simp)
  have d2 := gb_cell gW c2 (by simp)
  have s0 : W.cell? ⟨w.heap.size, 0, none⟩ = some (.int .i64 kind) := by unfold World.cell?; simp only [bS]; rfl
  have s1 : W.cell? ⟨w.heap.size, 1, none⟩ = some (.int .i64 e) := by unfold World.cell?; simp only [bS]; rfl
  have hki : (k : Int) < (ps.length : Int) := by omega
  have HWE : Hid (w.alloc (.cells #[.int .i64 kind, .int .i64 e, .string s, .int .i64 a, .int .i64 b, .slice xa xn xc] 65) = W) := hW.symm
  have HBS : Hid (W.heap[w.heap.size]? = some (stepObj kind e s a b (.slice xa xn xc))) := bS
  have HWZ : Hid (W.heap.size = w.heap.size + 1) := hWz
  have ne0 := World.new_ne W _ d0
  have ne1 := World.new_ne W _ d1
  have ne2 := World.new_ne W _ s1
  clear hlv hla hrow hkk hq hps c0 c1 c2 hW bS h hWz
  unfold stepV
  go_enter Tryz.func30, Tryz.ntmps30
  go_upto_region 1 with fail
  rw [HWE.out]
  go_upto_region 5 with fail
  go_cut [5] (fun v w' => v = .pointer (some ⟨W.heap.size, 0, none⟩) ∧ w'.heap[W.heap.size]? = some (.cells #[.pointer (some ⟨q.1.b, 0, none⟩), .pointer (some ⟨q.2.b, 0, none⟩)] 88) ∧ W.grownBy w' none)
  case first =>
    go_region_held3 (fun w' => w'.cell? ⟨wb, 0, none⟩ = some (.slice (some ⟨lb, 0, none⟩) ps.length lc) ∧ w'.cell? ⟨w.heap.size, 1, none⟩ = some (.int .i64 e) ∧ w'.cell? ⟨lb, k * 2, none⟩ = some (.pointer (some ⟨q.1.b, 0, none⟩)) ∧ w'.cell? ⟨lb, k * 2 + 1, none⟩ = some (.pointer (some ⟨q.2.b, 0, none⟩))) (go_keep) ((go_at_call 44; refine (HPK.out _).mono ?_; rintro r w' ⟨rfl, rfl⟩))
    all_goals
      go_wp2
      go_meet
      case rel => exact ⟨rfl, alloc_new _ _ _ rfl, gb_d (q := 1) (gb_alloc (gb_refl _ _) _)⟩
  case rest =>
    obtain ⟨rfl, hp, gc⟩ := hcut
    have G := gb_trans gW gc
    have HPW : Hid (PW base m wc wb sk lv ps) := HH.out.gb G
    have HBW : Hid (w.grownBy wc none) := G
    have hsb := (gc.block _ (by rw [HWZ.out]; omega) (by simp)).trans HBS.out
    have y0 : wc.cell? ⟨w.heap.size, 0, none⟩ = some (.int .i64 kind) := by unfold World.cell?; simp only [hsb]; rfl
    clear hp gc G d0 d1 d2 s0 s1 ne0 ne1 ne2 gW hsb
    go_wp2
    go_ret
    exact ⟨rfl, lv, ps, HPW.out.mono (Nat.le_succ m), by rw [HE.out]; simp, .same HBW.out⟩

set_option maxRecDepth 100000 in
set_option maxHeartbeats 400000 in
theorem step_plain {sk : Value × Value} (base m wb : Nat) (lv : Value) (ps : List (GT × RB)) (w : World) (h : PW base m w wb sk lv ps) (hps : ps ≠ []) (e a b : Int) (s : ByteArray) (L : Value) (hL : ∃ x n c, L = .slice x n c) :
    Calls Tryz.prog 30 #[.pointer (some ⟨wb, 0, none⟩), stepV 1 e s a b L] w fun r w' => r = .returned (.bool true) ∧ ∃ lv' ps', PW base (m + 1) w' wb sk lv' ps' ∧ ps' ≠ [] ∧ Kpt wb lv ps w lv' ps' w' := by
  have HH : Hid (PW base m w wb sk lv ps) := h
  obtain ⟨xa, xn, xc, rfl⟩ := hL
  clear h
  unfold stepV
  go_enter Tryz.func30, Tryz.ntmps30
  go_wp2_with fail
  refine (plains_any s _).mono ?_
  rintro r w1 ⟨rfl, g1⟩
  have G := gb_trans (gb_alloc (gb_refl w none) _) g1
  go_wp2
  go_ret
  exact ⟨rfl, lv, ps, (HH.out.gb G).mono (Nat.le_succ m), hps, .same G⟩

set_option maxRecDepth 100000 in
set_option maxHeartbeats 400000 in
theorem step_new {sk : Value × Value} (base m wb : Nat) (lv : Value) (ps : List (GT × RB)) (w : World) (h : PW base m w wb sk lv ps) (hm : m ≤ 2199023255552) (e a b : Int) (s : ByteArray) (L : Value) (hL : ∃ x n c, L = .slice x n c) :
    Calls Tryz.prog 30 #[.pointer (some ⟨wb, 0, none⟩), stepV 2 e s a b L] w fun r w' => r = .returned (.bool true) ∧ ∃ lv' ps', PW base (m + 1) w' wb sk lv' ps' ∧ ps' ≠ [] ∧ Kpt wb lv ps w lv' ps' w' := by
  obtain ⟨xa, xn, xc, rfl⟩ := hL
  have ga := gb_alloc (gb_refl w none) (.cells #[.int .i64 2, .int .i64 e, .string s, .int .i64 a, .int .i64 b, .slice xa xn xc] 65)
  have HH : Hid (PW base m (w.alloc (.cells #[.int .i64 2, .int .i64 e, .string s, .int .i64 a, .int .i64 b, .slice xa xn xc] 65)) wb sk lv ps) := h.gb ga
  have hlow := h.low
  clear h
  unfold stepV
  go_enter Tryz.func30, Tryz.ntmps30
  go_wp2_with fail
  refine (more_any base m wb lv ps _ HH.out (by omega)).mono ?_
  rintro r w1 ⟨rfl, lv', ps', h1, h2, h3⟩
  have HR : Hid (PW base (m + 1) w1 wb sk lv' ps' ∧ ps' ≠ [] ∧ Kpt wb lv ps w lv' ps' w1) := ⟨h1, h2, .from ga h3⟩
  clear h1 h2 h3 ga HH
  go_wp2
  go_ret
  exact ⟨rfl, lv', ps', HR.out.1, HR.out.2.1, HR.out.2.2⟩

end Go.Proofs.YtcfdemhokbddiaaGreatDoor

/-
  One step of the law: Family.
-/
namespace Go.Proofs.YtcfdemhokbddiaaGreatDoor
open Go.RowKit

/-- A list of numbers that lies in none of these blocks. -/
def FarL (w : World) (own : List Nat) (v : Value) (xs : List Int) : Prop := ∃ sa cap, v = .slice sa xs.length cap ∧ xs.length ≤ cap ∧ (xs = [] ∨ ∃ b off, sa = some ⟨b, off, none⟩ ∧ b ∉ own ∧ b < w.heap.size ∧ IntsAt w b off xs)
theorem FarL.gb {w w' : World} {own : List Nat} {v : Value} {xs : List Int} (h : FarL w own v xs) (hg : w.grownBy w' none) : FarL w' own v xs := by
  obtain ⟨sa, cap, h1, h2, h3⟩ := h
  refine ⟨sa, cap, h1, h2, ?_⟩
  rcases h3 with h3 | ⟨b, off, h3, h4, h5, h6⟩
  · exact Or.inl h3
  · exact Or.inr ⟨b, off, h3, h4, Nat.lt_of_lt_of_le h5 hg.size, h6.gb hg⟩
theorem FarL.intSl {w : World} {own : List Nat} {v : Value} {xs : List Int} (h : FarL w own v xs) : IntSl w v xs := by
  obtain ⟨sa, cap, h1, h2, h3⟩ := h
  refine ⟨sa, cap, h1, h2, ?_⟩
  rcases h3 with h3 | ⟨b, off, h3, _, _, h6⟩
  · exact Or.inl h3
  · exact Or.inr ⟨b, off, h3, h6⟩
theorem FarL.kept {w w' : World} {own L : List Nat} {v : Value} {xs : List Int} (h : FarL w own v xs) (hk : Kept L w w') (hl : ∀ b ∈ L, b ∈ own) : FarL w' own v xs := by
  obtain ⟨sa, cap, h1, h2, h3⟩ := h
  refine ⟨sa, cap, h1, h2, ?_⟩
  rcases h3 with h3 | ⟨b, off, h3, h4, h5, h6⟩
  · exact Or.inl h3
  · refine Or.inr ⟨b, off, h3, h4, Nat.lt_of_lt_of_le h5 hk.size, fun k hkk => ?_⟩
    rw [← h6 k hkk]
    exact World.cell?_of_block (w := w) (hk.block b h5 (fun hm => h4 (hl b hm)))
theorem FarL.far {w w' : World} {own : List Nat} {v : Value} {xs : List Int} {h : Nat} (hf : FarL w own v xs) (hf' : FarL w' own v xs) (hh : w.heap.size ≤ h) : IntFar w' h v xs := by
  obtain ⟨sa, cap, h1, h2, h3⟩ := hf
  obtain ⟨sa', cap', h1', h2', h3'⟩ := hf'
  refine ⟨sa, cap, h1, ?_⟩
  rw [h1] at h1'
  simp at h1'
  obtain ⟨rfl, rfl⟩ := h1'
  rcases h3 with h3 | ⟨b, off, rfl, h4, h5, h6⟩
  · exact Or.inl h3
  · rcases h3' with h3' | ⟨b', off', h3', _, _, h6'⟩
    · exact Or.inl h3'
    · simp at h3'
      obtain ⟨rfl, rfl⟩ := h3'
      exact Or.inr ⟨b, off, rfl, by omega, h6'⟩

set_option maxRecDepth 100000 in
set_option maxHeartbeats 2000000 in
theorem step_family {sk : Value × Value} (base m wb : Nat) (lv : Value) (ps : List (GT × RB)) (w : World) (h : PW base m w wb sk lv ps) (hps : ps ≠ []) (hm : m ≤ 2199023255552) (e a b : Int) (he : -9223372036854775808 ≤ e ∧ e ≤ 9223372036854775807) (s : ByteArray) (L : Value) (xs : List Int) (hL : FarL w (pwOwn wb lv ps) L xs) (hxb : xs.length ≤ 17592186044416) :
    Calls Tryz.prog 30 #[.pointer (some ⟨wb, 0, none⟩), stepV 3 e s a b L] w fun r w' => r = .returned (.bool true) ∧ ∃ lv' ps', PW base (m + 1) w' wb sk lv' ps' ∧ ps' ≠ [] ∧ Kpt wb lv ps w lv' ps' w' := by
  have hlen := h.len
  have hpl : 0 < ps.length := List.length_pos_iff.2 hps
  obtain ⟨la, lc, hlv, _, hla⟩ := own_shape2 h.row
  obtain ⟨lb, rfl⟩ : ∃ lb, la = some ⟨lb, 0, none⟩ := by
    rcases hla with ⟨_, h0, _⟩ | ⟨g, h1, _⟩
    · omega
    · exact ⟨g, h1⟩
  have hrow := h.row
  rw [hlv] at hrow
  have hk := lpickP_lt e ps.length hpl
  obtain ⟨c1, c2⟩ := pair_row hrow _ hk
  have c0 : w.cell? ⟨wb, 0, none⟩ = some lv := by unfold World.cell?; simp only [h.blk]; rfl
  rw [hlv] at c0
  have HH : Hid (PW base m w wb sk lv ps) := h
  have HE : Hid (ps = ps.take (lpickP e ps.length) ++ ps[lpickP e ps.length] :: ps.drop (lpickP e ps.length + 1)) := split_at ps _ hk
  obtain ⟨q, hq⟩ : ∃ q, ps[lpickP e ps.length] = q := ⟨_, rfl⟩
  rw [hq] at c1 c2 HE
  obtain ⟨k, hkk⟩ : ∃ k, lpickP e ps.length = k := ⟨_, rfl⟩
  have HPK : Hid (∀ w, Calls Tryz.prog 44 #[.int .i64 e, .int .i64 (ps.length : Int)] w fun r w' => r = .returned (.int .i64 (k : Int)) ∧ w' = w) := fun w => by
    rw [← hkk]; exact pick_any e ps.length w hpl (by omega) he
  rw [hkk] at c1 c2 HE hk
  have HFL : Hid (FarL w (pwOwn wb lv ps) L xs) := hL
  obtain ⟨xa, xn, xc, rfl⟩ : ∃ x n c, L = .slice x n c := by obtain ⟨x, c, e1, _⟩ := hL; exact ⟨x, _, c, e1⟩
  obtain ⟨nm, rfl⟩ : ∃ nm, s = B nm := ⟨s.data.toList, (B_self s).symm⟩
  obtain ⟨W, hW⟩ : ∃ W, W = w.alloc (stepObj 3 e (B nm) a b (.slice xa xn xc)) := ⟨_, rfl⟩
  have gW : w.grownBy W none := by rw [hW]; exact gb_alloc (gb_refl _ _) _
  have bS : W.heap[w.heap.size]? = some (stepObj 3 e (B nm) a b (.slice xa xn xc)) := by rw [hW]; exact alloc_new _ _ _ rfl
  have hWz : W.heap.size = w.heap.size + 1 := by rw [hW]; simp
  have d0 := gb_cell gW c0 (by simp)
  have d1 := gb_cell gW c1 (by simp)
  have d2 := gb_cell gW c2 (by simp)
  have s0 : W.cell? ⟨w.heap.size, 0, none⟩ = some (.int .i64 3) := by unfold World.cell?; simp only [bS]; rfl
  have s1 : W.cell? ⟨w.heap.size, 1, none⟩ = some (.int .i64 e) := by unfold World.cell?; simp only [bS]; rfl
  have hki : (k : Int) < (ps.length : Int) := by omega
  have HWE : Hid (w.alloc (.cells #[.int .i64 3, .int .i64 e, .string (B nm), .int .i64 a, .int .i64 b, .slice xa xn xc] 65) = W) := hW.symm
  have HBS : Hid (W.heap[w.heap.size]? = some (stepObj 3 e (B nm) a b (.slice xa xn xc))) := bS
  have HWZ : Hid (W.heap.size = w.heap.size + 1) := hWz
  have ne0 := World.new_ne W _ d0
  have ne1 := World.new_ne W _ d1
  have ne2 := World.new_ne W _ s1
  clear hlv hla hrow hkk hq hps c0 c1 c2 hW bS h hWz hL
  unfold stepV
  go_enter Tryz.func30, Tryz.ntmps30
  go_upto_region 1 with fail
  rw [HWE.out]
  go_upto_region 5 with fail
  go_cut [5] (fun v w' => v = .pointer (some ⟨W.heap.size, 0, none⟩) ∧ w'.heap[W.heap.size]? = some (.cells #[.pointer (some ⟨q.1.b, 0, none⟩), .pointer (some ⟨q.2.b, 0, none⟩)] 88) ∧ W.grownBy w' none)
  case first =>
    go_region_held3 (fun w' => w'.cell? ⟨wb, 0, none⟩ = some (.slice (some ⟨lb, 0, none⟩) ps.length lc) ∧ w'.cell? ⟨w.heap.size, 1, none⟩ = some (.int .i64 e) ∧ w'.cell? ⟨lb, k * 2, none⟩ = some (.pointer (some ⟨q.1.b, 0, none⟩)) ∧ w'.cell? ⟨lb, k * 2 + 1, none⟩ = some (.pointer (some ⟨q.2.b, 0, none⟩))) (go_keep) ((go_at_call 44; refine (HPK.out _).mono ?_; rintro r w' ⟨rfl, rfl⟩))
    all_goals
      go_wp2
      go_meet
      case rel => exact ⟨rfl, alloc_new _ _ _ rfl, gb_d (q := 1) (gb_alloc (gb_refl _ _) _)⟩
  case rest =>
    obtain ⟨rfl, hp, gc⟩ := hcut
    obtain ⟨wv, hwv⟩ : ∃ wv, wv = wc := ⟨_, rfl⟩
    subst hwv
    have G := gb_trans gW gc
    have hPW := HH.out.gb G
    have hqm : q ∈ ps := by rw [HE.out]; simp
    have hpa := hPW.each q hqm
    have HPA : Hid (PairAt m wv q) := hpa
    have HPW : Hid (PW base m wv wb sk lv ps) := hPW
    have hold : ∀ b' ∈ pairOwn q, b' < w.heap.size := (HH.out.each q hqm).lt
    have HSB : Hid (wv.heap[w.heap.size]? = some (stepObj 3 e (B nm) a b (.slice xa xn xc))) := (gc.block _ (by rw [HWZ.out]; omega) (by simp)).trans HBS.out
    have HPB : Hid (wv.heap[W.heap.size]? = some (.cells #[.pointer (some ⟨q.1.b, 0, none⟩), .pointer (some ⟨q.2.b, 0, none⟩)] 88)) := hp
    have HWB : Hid (∀ w3, wv.grownBy w3 none ∨ Kept (pairOwn q) wv w3 → w3.heap[w.heap.size]? = some (stepObj 3 e (B nm) a b (.slice xa xn xc)) ∧ w3.heap[W.heap.size]? = some (.cells #[.pointer (some ⟨q.1.b, 0, none⟩), .pointer (some ⟨q.2.b, 0, none⟩)] 88)) := by
      intro w3 hk3
      have l1 := lt_of HSB.out
      have l2 := lt_of HPB.out
      rcases hk3 with hk3 | hk3
      · exact ⟨(hk3.block _ l1 (by simp)).trans HSB.out, (hk3.block _ l2 (by simp)).trans HPB.out⟩
      · refine ⟨(hk3.block _ l1 (fun hm => ?_)).trans HSB.out, (hk3.block _ l2 (fun hm => ?_)).trans HPB.out⟩
        · have := hold _ hm; omega
        · have := hold _ hm; have := HWZ.out; omega
    have x0 : wv.cell? ⟨W.heap.size, 0, none⟩ = some (.pointer (some ⟨q.1.b, 0, none⟩)) := by unfold World.cell?; simp only [hp]; rfl
    have y0 : wv.cell? ⟨w.heap.size, 0, none⟩ = some (.int .i64 3) := by unfold World.cell?; simp only [HSB.out]; rfl
    have y2 : wv.cell? ⟨w.heap.size, 2, none⟩ = some (.string (B nm)) := by unfold World.cell?; simp only [HSB.out]; rfl
    have y3 : wv.cell? ⟨w.heap.size, 3, none⟩ = some (.int .i64 a) := by unfold World.cell?; simp only [HSB.out]; rfl
    have y5 : wv.cell? ⟨w.heap.size, 5, none⟩ = some (.slice xa xn xc) := by unfold World.cell?; simp only [HSB.out]; rfl
    have HBW : Hid (w.grownBy wv none) := G
    have HFW : Hid (FarL wv (pwOwn wb lv ps) (.slice xa xn xc) xs) := HFL.out.gb G
    clear hp gc G hPW hpa d0 d1 d2 s0 s1 ne0 ne1 ne2 gW
    have hXN : xn = xs.length := by
      obtain ⟨x, c, e1, _⟩ := HFW.out
      simp at e1; exact e1.2.1
    subst hXN
    have hIS : IntSl wv (.slice xa xs.length xc) xs := HFW.out.intSl
    have hwvl : w.heap.size < wv.heap.size := lt_of HSB.out
    go_wp2_with fail
    refine (lent_any _ xs _ hIS hxb).mono ?_
    rintro r w2 ⟨rfl, hlent, g2⟩
    have HLE : Hid (w2.heap[wv.heap.size]? = some (lentObj xs)) := hlent
    have hl2 : wv.heap.size < w2.heap.size := lt_of hlent
    have x0' := gb_cell g2 x0 (by simp)
    have y2' := gb_cell g2 y2 (by simp)
    have y3' := gb_cell g2 y3 (by simp)
    have y5' := gb_cell g2 y5 (by simp)
    have HG2 : Hid (wv.grownBy w2 none) := g2
    have HPA2 : Hid (PairAt m w2 q) := HPA.out.frame g2.size fun b' hb' => g2.block b' (HPA.out.lt b' hb') (by simp)
    have HPW2 : Hid (PW base m w2 wb sk lv ps) := HPW.out.gb g2
    have HPT : Hid (∀ V, w2.grownBy V none → Calls Tryz.prog 46 #[.slice (some ⟨wv.heap.size, 0, none⟩) (xs.length + 2) (xs.length + 2), .slice xa xs.length xc] V fun e w' => ∃ u, e = .returned u ∧ IntSl V u xs ∧ w' = V) := fun V gV => part_any _ xs wv.heap.size V ((hIS.gb g2).gb gV) ((gV.block _ hl2 (by simp)).trans hlent)
    have HFM : Hid (∀ V u, w2.grownBy V none → IntSl V u xs → Calls Tryz.prog 33 #[.pointer (some ⟨q.1.b, 0, none⟩), .string (B nm), .int .i64 a, u] V fun e w' => ∃ t' code, e = .returned (.int .i64 code) ∧ Out m q.1 t' w2 w' ∧ t'.rds = q.1.rds ∧ FamOut q.1.view nm a xs code t'.view) := fun V u gV hu => (bFamily_any q.1 nm a u xs m V (HPA2.out.px.gb gV) HPA2.out.ox hu (by omega)).mono fun e w' ⟨t', c, k1, k2, k3, k4⟩ => ⟨t', c, k1, .from gV k2, k3, famOut (view_srt HPA2.out.ox) k4⟩
    clear hlent hIS x0 y0 y2 y3 y5 g2
    go_upto_region 9 with fail
    go_cut [7] (fun v w' => ∃ t' k1, v = .int .i64 k1 ∧ Out m q.1 t' w2 w' ∧ t'.rds = q.1.rds ∧ FamOut q.1.view nm a xs k1 t'.view)
    case first =>
      go_region_held3 (fun w' => w'.cell? ⟨W.heap.size, 0, none⟩ = some (.pointer (some ⟨q.1.b, 0, none⟩)) ∧ w'.cell? ⟨w.heap.size, 2, none⟩ = some (.string (B nm)) ∧ w'.cell? ⟨w.heap.size, 3, none⟩ = some (.int .i64 a) ∧ w'.cell? ⟨w.heap.size, 5, none⟩ = some (.slice xa xs.length xc)) (first | go_keep | exact ⟨x3, z2, z3, z5⟩) ((first
        | (go_at_call 46; refine (HPT.out _ (by first | exact gb_refl _ _ | exact gb_drewN _ 1 _)).mono ?_; rintro r wx ⟨u, rfl, hu, rfl⟩; obtain ⟨ua, uc, rfl⟩ := intSl_shape hu)
        | (go_at_call 33; refine (HFM.out _ _ (by first | exact gb_refl _ _ | exact gb_drewN _ 1 _) hu).mono ?_; rintro r w3 ⟨t', k1, rfl, ho3, hd3, hc3⟩; obtain ⟨b3, b4⟩ := HWB.out w3 (Or.inr ((Kept.of_none HG2.out _).trans (ho3.kept.mono fun b' hb' => Or.inl (by simp [pairOwn, hb'])))); have x3 : w3.cell? ⟨W.heap.size, 0, none⟩ = some (.pointer (some ⟨q.1.b, 0, none⟩)) := (by unfold World.cell?; simp only [b4]; rfl); have z2 : w3.cell? ⟨w.heap.size, 2, none⟩ = some (.string (B nm)) := (by unfold World.cell?; simp only [b3]; rfl); have z3 : w3.cell? ⟨w.heap.size, 3, none⟩ = some (.int .i64 a) := (by unfold World.cell?; simp only [b3]; rfl); have z5 : w3.cell? ⟨w.heap.size, 5, none⟩ = some (.slice xa xs.length xc) := (by unfold World.cell?; simp only [b3]; rfl); have HO3 : Hid (Out m q.1 t' w2 w3) := ho3; have HC3 : Hid (FamOut q.1.view nm a xs k1 t'.view) := hc3; have HD3 : Hid (t'.rds = q.1.rds) := hd3; clear ho3 hc3 hd3 b3 b4)))
      all_goals
        go_wp2
        go_meet
        case rel => exact ⟨t', k1, rfl, HO3.out, HD3.out, HC3.out⟩
    case rest =>
      obtain ⟨t', k1, rfl, ho3, hd3, hc3⟩ := hcut
      obtain ⟨w3, hw3⟩ : ∃ w3, w3 = wc := ⟨_, rfl⟩
      subst hw3
      have hk3 : Kept (pairOwn q) wv w3 := (Kept.of_none HG2.out _).trans (ho3.kept.mono fun b' hb' => Or.inl (by simp [pairOwn, hb']))
      obtain ⟨b3, b4⟩ := HWB.out w3 (Or.inr hk3)
      have x1 : w3.cell? ⟨W.heap.size, 1, none⟩ = some (.pointer (some ⟨q.2.b, 0, none⟩)) := by unfold World.cell?; simp only [b4]; rfl
      have v2 : w3.cell? ⟨w.heap.size, 2, none⟩ = some (.string (B nm)) := by unfold World.cell?; simp only [b3]; rfl
      have v3 : w3.cell? ⟨w.heap.size, 3, none⟩ = some (.int .i64 a) := by unfold World.cell?; simp only [b3]; rfl
      have v5 : w3.cell? ⟨w.heap.size, 5, none⟩ = some (.slice xa xs.length xc) := by unfold World.cell?; simp only [b3]; rfl
      have hnd := HPA2.out.nodup
      have hr3 : RB.At w3 q.2 := HPA2.out.py.kept ho3.kept (fun b' hb' hm => by
        simp only [pairOwn, List.nodup_append] at hnd
        exact hnd.2.2 b' hm b' (by simp [hb']) rfl)
      have hsubo : ∀ b' ∈ pairOwn q, b' ∈ pwOwn wb lv ps := fun b' hb' => by
        simp only [pwOwn, List.mem_cons, List.mem_append, List.mem_flatMap]
        exact Or.inr (Or.inr ⟨q, hqm, hb'⟩)
      have hF3 := HFW.out.kept hk3 hsubo
      have HO3 : Hid (Out m q.1 t' w2 w3) := ho3
      have HC3 : Hid (FamOut q.1.view nm a xs k1 t'.view) := hc3
      have HD3 : Hid (RdOk t' ∧ t'.rview = q.1.rview) := ⟨rdOk_of HPA2.out.rx hd3, rview_of hd3⟩
      have HRF : Hid (Calls Tryz.prog 47 #[.pointer (some ⟨q.2.b, 0, none⟩), .string (B nm), .int .i64 a, .slice xa xs.length xc] w3 _) := refFam_any q.2 nm a _ xs m w3 hr3 HPA2.out.oy hF3.intSl (by omega)
      have HF3 : Hid (FarL w3 (pwOwn wb lv ps) (.slice xa xs.length xc) xs) := hF3
      have HK3 : Hid (Kept (pairOwn q) wv w3) := hk3
      clear ho3 hc3 hd3 b3 b4 x0' y2' y3' y5' hF3 hk3 hr3
      go_wp2_with fail
      refine HRF.out.mono ?_
      rintro r w4 ⟨r', k2, rfl, ho4, hc4⟩
      obtain ⟨hcode, hrel⟩ := fam_step HPA2.out.rel (names_nodup HPA2.out.ox) HC3.out hc4
      subst hcode
      obtain ⟨p1, p2, p3⟩ := pair_out hnd HPA2.out.py HPA2.out.rds HO3.out HD3.out.1 HD3.out.2 ho4 hrel
      obtain ⟨u1, u2⟩ := HPW2.out.upd (q' := (t', r')) (Nat.le_refl m) HE.out HO3.out.b ho4.b p1 p2 p3
      have hk34 : Kept (pairOwn q) w3 w4 := ho4.kept.mono fun b' hb' => Or.inl (by simp [pairOwn, hb'])
      obtain ⟨b3, _⟩ := HWB.out w4 (Or.inr (HK3.out.trans hk34))
      have t5 : w4.cell? ⟨w.heap.size, 5, none⟩ = some (.slice xa xs.length xc) := by unfold World.cell?; simp only [b3]; rfl
      have hhold : ∀ b' ∈ pairOwn q, b' < wv.heap.size := HPA.out.lt
      have hl4 : w4.heap[wv.heap.size]? = some (lentObj xs) := (p2.block _ hl2 (fun hm => by have := hhold _ hm; omega)).trans HLE.out
      have hF4 := HF3.out.kept hk34 hsubo
      have HST : Hid (Calls Tryz.prog 48 #[.slice (some ⟨wv.heap.size, 0, none⟩) (xs.length + 2) (xs.length + 2), .slice xa xs.length xc] w4 _) := still_any _ xs wv.heap.size w4 (FarL.far HFW.out hF4 (Nat.le_refl _)) hl4 hxb
      have HU : Hid (PW base m w4 wb sk lv (ps.take k ++ (t', r') :: ps.drop (k + 1)) ∧ Kpt wb lv ps w2 lv (ps.take k ++ (t', r') :: ps.drop (k + 1)) w4) := ⟨u1, u2⟩
      have HNH : Hid (∀ b' ∈ pwOwn wb lv (ps.take k ++ (t', r') :: ps.drop (k + 1)), b' ≠ wv.heap.size) := by
        intro b' hb' e
        have hol := HPW.out.lt
        have hin : b' ∈ pwOwn wb lv ps ∨ b' ∈ pairOwn (t', r') := by
          have hE := HE.out
          simp only [pwOwn, List.mem_cons, List.mem_append, List.flatMap_append, List.flatMap_cons] at hb'
          rcases hb' with h1 | h1 | h1 | h1 | h1
          · exact Or.inl (by simp [pwOwn, h1])
          · exact Or.inl (by simp only [pwOwn, List.mem_cons, List.mem_append]; exact Or.inr (Or.inl h1))
          · refine Or.inl ?_
            rw [hE]
            simp only [pwOwn, List.mem_cons, List.mem_append, List.flatMap_append, List.flatMap_cons]
            exact Or.inr (Or.inr (Or.inl h1))
          · exact Or.inr h1
          · refine Or.inl ?_
            rw [hE]
            simp only [pwOwn, List.mem_cons, List.mem_append, List.flatMap_append, List.flatMap_cons]
            exact Or.inr (Or.inr (Or.inr (Or.inr h1)))
        rcases hin with h1 | h1
        · have := hol b' h1; omega
        · rcases p3 b' h1 with h2 | h2
          · have := hhold b' h2; omega
          · omega
      have hkk : (k1 == k1) = true := by simp
      clear u1 u2 p1 p2 p3 ho4 hc4 hrel hnd b3 hl4 hF4 hk34 x1 v2 v3 v5 HRF
      go_wp2_with fail
      refine HST.out.mono ?_
      rintro r w5 ⟨rfl, g5⟩
      go_wp2_with (go_at_call 49; refine (num_any _ _).mono ?_; rintro r w5 ⟨rfl, rfl⟩)
      go_ret
      have h05 : w5.heap[0]? = w4.heap[0]? := g5.block 0 HU.out.1.tab.lt (by have := HPW.out.tab.lt; simp; omega)
      refine ⟨rfl, lv, _, (HU.out.1.frame g5.size h05 fun b' hb' => g5.block b' (HU.out.1.lt b' hb') (by simpa using HNH.out b' hb')).mono (Nat.le_succ m), by simp, ?_⟩
      have k1 : Kpt wb lv ps wv lv (ps.take k ++ (t', r') :: ps.drop (k + 1)) w4 := .from HG2.out HU.out.2
      refine .from HBW.out ⟨⟨g5.os.trans k1.kept.os, g5.tape.trans k1.kept.tape, g5.output.trans k1.kept.output, Nat.le_trans k1.kept.size g5.size, fun i hi hn => ?_⟩, k1.sub⟩
      have := k1.kept.size
      exact (g5.block i (by omega) (by simp; omega)).trans (k1.kept.block i hi hn)

end Go.Proofs.YtcfdemhokbddiaaGreatDoor

/-
  A step of any kind up to 5; the beginning; the script.
-/
namespace Go.Proofs.YtcfdemhokbddiaaGreatDoor
open Go.RowKit

theorem lawStep_any {sk : Value × Value} (base m wb : Nat) (lv : Value) (ps : List (GT × RB)) (w : World) (h : PW base m w wb sk lv ps) (hps : ps ≠ []) (hm : m ≤ 2199023255552) (kind e a b : Int) (hk : kind ≤ 5) (he : -9223372036854775808 ≤ e ∧ e ≤ 9223372036854775807) (s : ByteArray) (L : Value) (xs : List Int) (hL : FarL w (pwOwn wb lv ps) L xs) (hxb : xs.length ≤ 17592186044416) :
    Calls Tryz.prog 30 #[.pointer (some ⟨wb, 0, none⟩), stepV kind e s a b L] w fun r w' => r = .returned (.bool true) ∧ ∃ lv' ps', PW base (m + 1) w' wb sk lv' ps' ∧ ps' ≠ [] ∧ Kpt wb lv ps w lv' ps' w' := by
  have hLs : ∃ x n c, L = .slice x n c := by obtain ⟨x, c, e1, _⟩ := hL; exact ⟨x, _, c, e1⟩
  by_cases h1 : kind = 1
  · subst h1; exact step_plain base m wb lv ps w h hps e a b s L hLs
  by_cases h2 : kind = 2
  · subst h2; exact step_new base m wb lv ps w h hm e a b s L hLs
  by_cases h3 : kind = 3
  · subst h3; exact step_family base m wb lv ps w h hps hm e a b he s L xs hL hxb
  by_cases h4 : kind = 4
  · subst h4; exact step_change base m wb lv ps w h hps hm e a b he s L hLs
  by_cases h5 : kind = 5
  · subst h5; exact step_drop base m wb lv ps w h hps hm e a b he s L hLs
  · exact step_other base m wb lv ps w h hps hm kind e a b ⟨by simpa using h1, by simpa using h2, by simpa using h3, by simpa using h4, by simpa using h5, by simp; omega, by simp; omega, by simp; omega⟩ he s L hLs

def hitsB : ByteArray := ⟨#[104, 105, 116, 115]⟩
def waitB : ByteArray := ⟨#[119, 97, 105, 116]⟩
def firstB : ByteArray := ⟨#[104, 105, 116, 115, 123, 98, 61, 34, 50, 34, 44, 97, 61, 34, 49, 34, 125]⟩

theorem farL_nil (w : World) (own : List Nat) : FarL w own (.slice none 0 0) [] := ⟨none, 0, rfl, Nat.le_refl _, Or.inl rfl⟩

set_option maxRecDepth 100000 in
set_option maxHeartbeats 1000000 in
theorem begins_any {sk : Value × Value} (base wb : Nat) (w : World) (h : PW base 0 w wb sk (.slice none 0 0) []) :
    Calls Tryz.prog 29 #[.pointer (some ⟨wb, 0, none⟩)] w fun r w' => r = .returned (.bool true) ∧ ∃ lv' ps', PW base 4 w' wb sk lv' ps' ∧ ps' ≠ [] ∧ Kpt wb (.slice none 0 0) [] w lv' ps' w' := by
  have HM : Hid (Calls Tryz.prog 42 #[.pointer (some ⟨wb, 0, none⟩)] w _) := more_any base 0 wb _ [] w h (by omega)
  have hlow := h.low
  clear h
  go_enter Tryz.func29, Tryz.ntmps29
  go_wp2_with fail
  refine HM.out.mono ?_
  rintro r w1 ⟨rfl, lv1, ps1, p1, n1, b1⟩
  have HB1 : Hid (Kpt wb (.slice none 0 0) [] w lv1 ps1 w1) := b1
  have H1 : Hid (Calls Tryz.prog 30 #[.pointer (some ⟨wb, 0, none⟩), .agg #[.int .i64 3, .int .i64 0, .string ⟨#[104, 105, 116, 115]⟩, .int .i64 1, .int .i64 0, .slice none 0 0]] w1 _) := lawStep_any base 1 wb lv1 ps1 w1 p1 n1 (by omega) 3 0 1 0 (by omega) (by omega) hitsB (.slice none 0 0) [] (farL_nil _ _) (by simp)
  clear p1 n1 b1 HM
  go_wp2_with fail
  refine H1.out.mono ?_
  rintro r w2 ⟨rfl, lv2, ps2, p2, n2, b2⟩
  have HB2 : Hid (Kpt wb lv1 ps1 w1 lv2 ps2 w2) := b2
  have ga := gb_alloc (gb_refl w2 none) (.cells #[.int .i64 10, .int .i64 20] 3)
  have hbn := alloc_new w2 (.cells #[.int .i64 10, .int .i64 20] 3) _ rfl
  have hfar : FarL (w2.alloc (.cells #[.int .i64 10, .int .i64 20] 3)) (pwOwn wb lv2 ps2) (.slice (some ⟨w2.heap.size, 0, none⟩) 2 2) [10, 20] := by
    refine ⟨_, 2, rfl, Nat.le_refl _, Or.inr ⟨w2.heap.size, 0, rfl, fun hm => ?_, by simp, fun k hk => ?_⟩⟩
    · have := p2.lt _ hm; omega
    · unfold World.cell?
      simp only [hbn]
      simp only [List.length_cons, List.length_nil] at hk
      match k, hk with
      | 0, _ => rfl
      | 1, _ => rfl
  have H2 : Hid (Calls Tryz.prog 30 #[.pointer (some ⟨wb, 0, none⟩), .agg #[.int .i64 3, .int .i64 0, .string ⟨#[119, 97, 105, 116]⟩, .int .i64 3, .int .i64 0, .slice (some ⟨w2.heap.size, 0, none⟩) 2 2]] (w2.alloc (.cells #[.int .i64 10, .int .i64 20] 3)) _) := lawStep_any base 2 wb lv2 ps2 _ (p2.gb ga) n2 (by omega) 3 0 3 0 (by omega) (by omega) waitB _ [10, 20] hfar (by simp)
  have HG : Hid (w2.grownBy (w2.alloc (.cells #[.int .i64 10, .int .i64 20] 3)) none) := ga
  clear p2 n2 b2 H1 ga hbn hfar
  go_wp2_with fail
  refine H2.out.mono ?_
  rintro r w3 ⟨rfl, lv3, ps3, p3, n3, b3⟩
  have HB3 : Hid (Kpt wb lv2 ps2 (w2.alloc (.cells #[.int .i64 10, .int .i64 20] 3)) lv3 ps3 w3) := b3
  have H3 : Hid (Calls Tryz.prog 30 #[.pointer (some ⟨wb, 0, none⟩), .agg #[.int .i64 4, .int .i64 0, .string ⟨#[104, 105, 116, 115, 123, 98, 61, 34, 50, 34, 44, 97, 61, 34, 49, 34, 125]⟩, .int .i64 5, .int .i64 0, .slice none 0 0]] w3 _) := lawStep_any base 3 wb lv3 ps3 w3 p3 n3 (by omega) 4 0 5 0 (by omega) (by omega) firstB (.slice none 0 0) [] (farL_nil _ _) (by simp)
  clear p3 n3 b3 H2
  go_wp2_with fail
  refine H3.out.mono ?_
  rintro r w4 ⟨rfl, lv4, ps4, p4, n4, b4⟩
  have HR : Hid (PW base 4 w4 wb sk lv4 ps4 ∧ ps4 ≠ [] ∧ Kpt wb (.slice none 0 0) [] w lv4 ps4 w4) := ⟨p4, n4, (((HB1.out.trans HB2.out).to HG.out).trans HB3.out).trans b4⟩
  clear p4 n4 b4 H3
  go_wp2
  go_ret
  exact ⟨rfl, lv4, ps4, HR.out.1, HR.out.2.1, HR.out.2.2⟩

/-- What is known of the script's i-th step. -/
structure StepIs (w : World) (b o : Nat) (kind e : Int) (s : ByteArray) (a c : Int) (v : Value) (xs : List Int) : Prop where
  c0 : w.cell? ⟨b, o, none⟩ = some (.int .i64 kind)
  c1 : w.cell? ⟨b, o + 1, none⟩ = some (.int .i64 e)
  c2 : w.cell? ⟨b, o + 2, none⟩ = some (.string s)
  c3 : w.cell? ⟨b, o + 3, none⟩ = some (.int .i64 a)
  c4 : w.cell? ⟨b, o + 4, none⟩ = some (.int .i64 c)
  c5 : w.cell? ⟨b, o + 5, none⟩ = some v
  he : -9223372036854775808 ≤ e ∧ e ≤ 9223372036854775807
  far : FarL w [] v xs
  len : xs.length ≤ 17592186044416

theorem below_cell {base : Nat} {w w' : World} (h : Below base w w') {p : Addr} (hb : p.block < base) : w'.cell? p = w.cell? p := World.cell?_of_block (w := w) (h.block p.block hb)
theorem StepIs.below {w w' : World} {b o : Nat} {kind e : Int} {s : ByteArray} {a c : Int} {v : Value} {xs : List Int} (h : StepIs w b o kind e s a c v xs) (hb : Below w.heap.size w w') : StepIs w' b o kind e s a c v xs := by
  have hl : b < w.heap.size := World.block_lt_of_cell? _ _ h.c0
  refine ⟨?_, ?_, ?_, ?_, ?_, ?_, h.he, ?_, h.len⟩
  · rw [below_cell hb (p := ⟨b, o, none⟩) hl]; exact h.c0
  · rw [below_cell hb (p := ⟨b, o + 1, none⟩) hl]; exact h.c1
  · rw [below_cell hb (p := ⟨b, o + 2, none⟩) hl]; exact h.c2
  · rw [below_cell hb (p := ⟨b, o + 3, none⟩) hl]; exact h.c3
  · rw [below_cell hb (p := ⟨b, o + 4, none⟩) hl]; exact h.c4
  · rw [below_cell hb (p := ⟨b, o + 5, none⟩) hl]; exact h.c5
  · obtain ⟨sa, cap, h1, h2, h3⟩ := h.far
    refine ⟨sa, cap, h1, h2, ?_⟩
    rcases h3 with h3 | ⟨b', off, h3, h4, h5, h6⟩
    · exact Or.inl h3
    · exact Or.inr ⟨b', off, h3, h4, Nat.lt_of_lt_of_le h5 hb.size, fun k hk => by rw [below_cell hb (p := ⟨b', off + k, none⟩) h5]; exact h6 k hk⟩
theorem StepIs.farOwn {w w' : World} {own : List Nat} {b o : Nat} {kind e : Int} {s : ByteArray} {a c : Int} {v : Value} {xs : List Int} (h : StepIs w b o kind e s a c v xs) (hb : Below w.heap.size w w') (ho : ∀ x ∈ own, w.heap.size ≤ x) : FarL w' own v xs := by
  obtain ⟨sa, cap, h1, h2, h3⟩ := h.far
  refine ⟨sa, cap, h1, h2, ?_⟩
  rcases h3 with h3 | ⟨b', off, h3, h4, h5, h6⟩
  · exact Or.inl h3
  · exact Or.inr ⟨b', off, h3, fun hm => by have := ho b' hm; omega, Nat.lt_of_lt_of_le h5 hb.size, fun k hk => by rw [below_cell hb (p := ⟨b', off + k, none⟩) h5]; exact h6 k hk⟩

set_option maxRecDepth 100000 in
set_option maxHeartbeats 2000000 in
theorem plays_any (sa : Option Addr) (n cap : Nat) (w : World) (ht : Tab w) (hn : n ≤ 1954687338268) (hs : n = 0 ∨ ∃ b off, sa = some ⟨b, off, none⟩ ∧ ∀ i, i < n → ∃ kind e s a c v xs, StepIs w b (off + i * 6) kind e s a c v xs) :
    Calls Tryz.prog 11 #[.slice sa n cap, .int .i64 5] w fun r w' => r = .returned (.bool true) ∧ Below w.heap.size w w' := by
  have ga := gb_alloc (gb_refl w none) (.cells #[.slice none 0 0, .slice none 0 0, .slice none 0 0] 62)
  have hP0 : PW w.heap.size 0 (w.alloc (.cells #[.slice none 0 0, .slice none 0 0, .slice none 0 0] 62)) w.heap.size (.slice none 0 0, .slice none 0 0) (.slice none 0 0) [] :=
    ⟨alloc_new _ _ _ rfl, World.ownsRow_nil _ _ _ _, by simp, by simp [pwOwn, Value.ownBlock], by simp [pwOwn, Value.ownBlock], by simp, by simp, ht.gb ga, ht.lt⟩
  have HB : Hid (Calls Tryz.prog 29 #[.pointer (some ⟨w.heap.size, 0, none⟩)] (w.alloc (.cells #[.slice none 0 0, .slice none 0 0, .slice none 0 0] 62)) _) := (begins_any w.heap.size w.heap.size _ hP0).mono fun r w' ⟨h1, lv', ps', h2, h3, h4⟩ => (⟨h1, lv', ps', h2, h3, h4.below hP0⟩ : r = Ending.returned (.bool true) ∧ ∃ lv' ps', PW w.heap.size 4 w' w.heap.size (.slice none 0 0, .slice none 0 0) lv' ps' ∧ ps' ≠ [] ∧ Below w.heap.size _ w')
  have HG : Hid (Below w.heap.size w (w.alloc (.cells #[.slice none 0 0, .slice none 0 0, .slice none 0 0] 62))) := ⟨ga.os, ga.tape, ga.output, ga.size, fun j hj => ga.block j hj (by simp)⟩
  have HS : Hid (n = 0 ∨ ∃ b off, sa = some ⟨b, off, none⟩ ∧ ∀ i, i < n → ∃ kind e s a c v xs, StepIs w b (off + i * 6) kind e s a c v xs) := hs
  clear ga hP0 hs ht
  go_enter Tryz.func11, Tryz.ntmps11
  go_wp2_with fail
  refine HB.out.mono ?_
  rintro r w1 ⟨rfl, lv1, ps1, p1, n1, b1⟩
  have HR1 : Hid (PW w.heap.size 4 w1 w.heap.size (.slice none 0 0, .slice none 0 0) lv1 ps1 ∧ ps1 ≠ [] ∧ Below w.heap.size w w1) := ⟨p1, n1, HG.out.trans b1⟩
  clear p1 n1 b1 HB HG
  go_wp2_with fail
  go_loopw [6, 7] (fun ok i wr => ∃ (k : Nat) (lv : Value) (ps : List (GT × RB)), ok = .bool true ∧ i = .int .i64 (k : Int) ∧ k ≤ n ∧ Hid (PW w.heap.size (4 + k) wr w.heap.size (.slice none 0 0, .slice none 0 0) lv ps ∧ ps ≠ [] ∧ Below w.heap.size w wr)) (fun _ i _ => n - (intOf i).toNat)
  case atStart => exact ⟨0, lv1, ps1, rfl, rfl, Nat.zero_le _, HR1.out⟩
  case round =>
    obtain ⟨k, lv, ps, rfl, rfl, hk, HR⟩ := hrel
    by_cases hlt : k < n
    · obtain ⟨b, off, rfl, hall⟩ : ∃ b off, sa = some ⟨b, off, none⟩ ∧ ∀ i, i < n → ∃ kind e s a c v xs, StepIs w b (off + i * 6) kind e s a c v xs := by
        rcases HS.out with h0 | h0
        · omega
        · exact h0
      obtain ⟨kind, e, s, a, c, v, xs, hst⟩ := hall k hlt
      have hstr := hst.below HR.out.2.2
      obtain ⟨q0, q1, q2, q3, q4, q5, _, _, _⟩ := hstr
      obtain ⟨va, vc, hv⟩ : ∃ va vc, v = .slice va xs.length vc := by obtain ⟨x, y, e1, _⟩ := hst.far; exact ⟨x, y, e1⟩
      rw [hv] at q5
      have hki : (k : Int) < (n : Int) := by omega
      by_cases hk5 : kind ≤ 5
      · have hk5' : ¬ (5 : Int) < kind := by omega
        have hstep := lawStep_any w.heap.size (4 + k) w.heap.size lv ps wr HR.out.1 HR.out.2.1 (by omega) kind e a c hk5 hst.he s v xs (hst.farOwn HR.out.2.2 HR.out.1.above) hst.len
        rw [hv] at hstep
        unfold stepV at hstep
        have HST : Hid (Calls Tryz.prog 30 #[.pointer (some ⟨w.heap.size, 0, none⟩), .agg #[.int .i64 kind, .int .i64 e, .string s, .int .i64 a, .int .i64 c, .slice va xs.length vc]] wr _) := hstep
        clear hstep hst hv hall
        go_wp2_with fail
        refine HST.out.mono ?_
        rintro r w2 ⟨rfl, lv2, ps2, p2, n2, b2⟩
        have HR2 : Hid (PW w.heap.size (4 + k + 1) w2 w.heap.size (.slice none 0 0, .slice none 0 0) lv2 ps2 ∧ ps2 ≠ [] ∧ Below w.heap.size w w2) := ⟨p2, n2, HR.out.2.2.trans (b2.below HR.out.1)⟩
        clear p2 n2 b2 HST
        go_wp2_with fail
        refine (looks_any _ _ _ _ _ _ HR2.out.1).mono ?_
        rintro r w2 ⟨rfl, rfl⟩
        go_wp2
        go_roundw
        case rel => exact ⟨k + 1, lv2, ps2, by simp, by go_num, by omega, HR2.out⟩
        case measure => simp [intOf]; omega
      · have hk5' : (5 : Int) < kind := by omega
        clear hst hv hall
        go_wp2
        go_roundw
        case rel => exact ⟨k + 1, lv, ps, by simp, by go_num, by omega, ⟨HR.out.1.mono (by omega), HR.out.2.1, HR.out.2.2⟩⟩
        case measure => simp [intOf]; omega
    · have hki : ¬ (k : Int) < (n : Int) := by omega
      have hpl : 0 < ps.length := List.length_pos_iff.2 HR.out.2.1
      obtain ⟨xa, xc, hlv, _, _⟩ := own_shape2 HR.out.1.row
      have c0 : wr.cell? ⟨w.heap.size, 0, none⟩ = some lv := by unfold World.cell?; simp only [HR.out.1.blk]; rfl
      rw [hlv] at c0
      have hpi : (0 : Int) < (ps.length : Int) := by omega
      have HLK : Hid (Calls Tryz.prog 31 #[.pointer (some ⟨w.heap.size, 0, none⟩)] wr _) := looks_any _ _ _ _ _ _ HR.out.1
      clear hlv
      go_wp2_with fail
      refine wp_loop_rounds 1 ?_
      rw [rounds_succ]
      go_wp2_with fail
      refine HLK.out.mono ?_
      rintro r w2 ⟨rfl, rfl⟩
      go_wp2
      go_ret
      exact ⟨rfl, HR.out.2.2⟩

set_option maxRecDepth 100000 in
set_option maxHeartbeats 400000 in
theorem counts_any (sa : Option Addr) (n cap : Nat) (w : World) (ht : Tab w) (hn : n ≤ 1954687338268) (hs : n = 0 ∨ ∃ b off, sa = some ⟨b, off, none⟩ ∧ ∀ i, i < n → ∃ kind e s a c v xs, StepIs w b (off + i * 6) kind e s a c v xs) :
    Calls Tryz.prog 3 #[.slice sa n cap] w fun r w' => r = .returned (.bool true) ∧ Below w.heap.size w w' := by
  have HP : Hid (Calls Tryz.prog 11 #[.slice sa n cap, .int .i64 5] w _) := plays_any sa n cap w ht hn hs
  clear hs ht
  go_enter Tryz.func3, Tryz.ntmps3
  go_wp2_with fail
  refine HP.out.mono ?_
  rintro r w1 ⟨rfl, b1⟩
  go_wp2
  go_ret
  exact ⟨rfl, b1⟩

end Go.Proofs.YtcfdemhokbddiaaGreatDoor


namespace Go.Proofs.YtcfdemhokbddiaaGreatDoor
open Go.ChangeShapes Go.WideShapes Go.ChangeAt Go.RowKit

theorem Tryz.cells33 : Tryz.prog.cellsOf 65 = 6 := by kernel_rfl
theorem Tryz.cells28 : Tryz.prog.cellsOf 26 = 1 := by kernel_rfl
theorem Tryz.cells9 : Tryz.prog.cellsOf 9 = 1 := by kernel_rfl
theorem Tryz.bytes33 : Tryz.prog.bytesOf 65 = 72 := by kernel_rfl

theorem weights_all_mem {H : Type} {P : Program} {e : TypeId} : ∀ {l : List (DataW H)} {d : DataW H}, d ∈ l → ∀ n ∈ d.weights P e, n ∈ DataW.weightsAll P e l
  | x :: r, d, h, n, hn => by
    simp only [DataW.weightsAll, List.mem_append]
    rcases List.mem_cons.1 h with rfl | h
    · exact Or.inl hn
    · exact Or.inr (weights_all_mem h n hn)

/-- One step among the arguments, opened. -/
theorem step_open {H : Type} {enc : TypeId × Value → H} {w : World} {held : Bool} {m : Nat} {cs : List Value} {d : DataW H} {pl : List MemPlace} {b o : Nat}
    (hcs : w.cells? 0 ⟨b, o, none⟩ 6 = some cs) (h : DataW.trod enc Tryz.prog w 0 (fun _ => true) held m 65 cs = some (d, pl)) (hsz : ∀ n ∈ d.weights Tryz.prog 65, n ≤ reachBytes) :
    ∃ kind e s a c v xs, StepIs w b o kind e s a c v xs := by
  obtain ⟨_, hlen, hc⟩ := World.cells?_some hcs
  match cs, hlen with
  | [v0, v1, v2, v3, v4, v5], _ =>
    have q0 : w.cell? ⟨b, o, none⟩ = some v0 := by simpa [Addr.add] using hc 0 (by omega)
    have q1 : w.cell? ⟨b, o + 1, none⟩ = some v1 := by simpa [Addr.add] using hc 1 (by omega)
    have q2 : w.cell? ⟨b, o + 2, none⟩ = some v2 := by simpa [Addr.add] using hc 2 (by omega)
    have q3 : w.cell? ⟨b, o + 3, none⟩ = some v3 := by simpa [Addr.add] using hc 3 (by omega)
    have q4 : w.cell? ⟨b, o + 4, none⟩ = some v4 := by simpa [Addr.add] using hc 4 (by omega)
    have q5 : w.cell? ⟨b, o + 5, none⟩ = some v5 := by simpa [Addr.add] using hc 5 (by omega)
    obtain ⟨ys, n, _, hx, _, hyl, hf⟩ := DataW.trod_struct Tryz.underlying65 h
    match ys, hyl with
    | [y0, y1, y2, y3, y4, y5], _ =>
      have f0 : DataW.trod enc Tryz.prog w 0 (fun _ => true) held n 3 [v0] = some y0 := by
        have q := hf 0 { name := "Kind", type := 3, offset := 0, embedded := false, tag := "", pkgPath := "", byteOffset := 0 } rfl
        rw [show Tryz.prog.cellsOf 3 = 1 from Tryz.cells3] at q
        exact q
      have f1 : DataW.trod enc Tryz.prog w 0 (fun _ => true) held n 3 [v1] = some y1 := by
        have q := hf 1 { name := "E", type := 3, offset := 1, embedded := false, tag := "", pkgPath := "", byteOffset := 8 } rfl
        rw [show Tryz.prog.cellsOf 3 = 1 from Tryz.cells3] at q
        exact q
      have f2 : DataW.trod enc Tryz.prog w 0 (fun _ => true) held n 9 [v2] = some y2 := by
        have q := hf 2 { name := "S", type := 9, offset := 2, embedded := false, tag := "", pkgPath := "", byteOffset := 16 } rfl
        rw [show Tryz.prog.cellsOf 9 = 1 from Tryz.cells9] at q
        exact q
      have f3 : DataW.trod enc Tryz.prog w 0 (fun _ => true) held n 3 [v3] = some y3 := by
        have q := hf 3 { name := "A", type := 3, offset := 3, embedded := false, tag := "", pkgPath := "", byteOffset := 32 } rfl
        rw [show Tryz.prog.cellsOf 3 = 1 from Tryz.cells3] at q
        exact q
      have f4 : DataW.trod enc Tryz.prog w 0 (fun _ => true) held n 3 [v4] = some y4 := by
        have q := hf 4 { name := "B", type := 3, offset := 4, embedded := false, tag := "", pkgPath := "", byteOffset := 40 } rfl
        rw [show Tryz.prog.cellsOf 3 = 1 from Tryz.cells3] at q
        exact q
      have f5 : DataW.trod enc Tryz.prog w 0 (fun _ => true) held n 26 [v5] = some y5 := by
        have q := hf 5 { name := "L", type := 26, offset := 5, embedded := false, tag := "", pkgPath := "", byteOffset := 48 } rfl
        rw [show Tryz.prog.cellsOf 26 = 1 from Tryz.cells28] at q
        exact q
      obtain ⟨k0, e0, _, _⟩ := DataW.trod_int Tryz.underlying3 f0
      obtain ⟨k1, e1, _, g1⟩ := DataW.trod_int Tryz.underlying3 f1
      obtain ⟨k2, e2, _, _⟩ := DataW.trod_string Tryz.underlying9 f2
      obtain ⟨k3, e3, _, _⟩ := DataW.trod_int Tryz.underlying3 f3
      obtain ⟨k4, e4, _, _⟩ := DataW.trod_int Tryz.underlying3 f4
      simp only [List.cons.injEq, and_true] at e0 e1 e2 e3 e4
      subst e0 e1 e2 e3 e4
      have g1' : -9223372036854775808 ≤ k1 ∧ k1 ≤ 9223372036854775807 := by
        simp only [Lit.wf, Bool.and_eq_true, decide_eq_true_eq] at g1
        rw [show IntKind.i64.min = -9223372036854775808 by decide, show IntKind.i64.max = 9223372036854775807 by decide] at g1
        exact g1
      simp only [Prod.mk.injEq] at hx
      obtain ⟨hd, _⟩ := hx
      rcases open_ints Tryz.underlying26 Tryz.underlying3 Tryz.cells3 f5 with ⟨hv, _⟩ | ⟨a, len, cap, zs, hv, _, hl, hm, hz, hy, hcell, _⟩
      · simp only [List.cons.injEq, and_true] at hv
        subst hv
        exact ⟨k0, k1, k2, k3, k4, _, [], ⟨q0, q1, q2, q3, q4, q5, g1', ⟨none, 0, rfl, Nat.le_refl _, Or.inl rfl⟩, Nat.zero_le _⟩⟩
      · simp only [List.cons.injEq, and_true] at hv
        subst hv
        simp only [if_true] at hz
        have hy1 : y5.1 = .slice (lits .i64 (zs.take len)) (lits .i64 (zs.drop len)) := congrArg Prod.fst hy
        have hw8 : (len + (cap - len)) * 8 ≤ reachBytes := by
          refine hsz _ ?_
          rw [hd]
          simp only [DataW.weights, Tryz.underlying65, List.map_cons, List.map_nil, DataW.weightsEach, hy1, Tryz.underlying26, Tryz.bytes3, List.mem_append, List.append_nil]
          iterate 5 refine Or.inr ?_
          refine List.mem_cons.2 (Or.inl ?_)
          simp [lits, hz, Nat.min_eq_left hl]
        have htl : (zs.take len).length = len := by simp [hz, Nat.min_eq_left hl]
        refine ⟨k0, k1, k2, k3, k4, _, zs.take len, ⟨q0, q1, q2, q3, q4, q5, g1', ⟨some a, cap, by rw [htl], by omega, ?_⟩, ?_⟩⟩
        · by_cases hl0 : len = 0
          · exact Or.inl (by simp [hl0])
          · right
            have h0 := hcell 0 (by omega)
            obtain ⟨b', off', spot⟩ := a
            have hspot : spot = none := by simpa [Addr.add] using World.cell?_spot h0
            subst hspot
            have hbW : b' < w.heap.size := World.block_lt_of_cell? _ _ h0
            refine ⟨b', off', rfl, by simp, hbW, fun k hk => ?_⟩
            have := hcell k (by omega)
            rw [← Addr.add_lit, this]
            simp [List.getD, List.getElem?_eq_getElem (show k < zs.length by omega)]
        · unfold reachBytes at hw8
          omega

end Go.Proofs.YtcfdemhokbddiaaGreatDoor
