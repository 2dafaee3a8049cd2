/-
  One step of the law: Change.
-/
import Derived.Test.YtecmkooiaghgcaaGreatDoorLe
import Derived.Deep.RegionHeld3

namespace Go.Proofs.YtecmkooiaghgcaaGreatDoor
open Go.RowKit

def stepV (kind e : Int) (s : ByteArray) (a b : Int) (L : Value) : Value := .agg #[.int .i64 kind, .int .i64 e, .string s, .int .i64 a, .int .i64 b, L]
def stepObj (kind e : Int) (s : ByteArray) (a b : Int) (L : Value) : Obj := .cells #[.int .i64 kind, .int .i64 e, .string s, .int .i64 a, .int .i64 b, L] 33

theorem pair_row {w : World} {g cap n : Nat} {ps : List (GT × RB)} (h : w.ownsRow 0 39 2 (.slice (some ⟨g, 0, none⟩) n cap) n (ps.flatMap pairCells)) (k : Nat) (hk : k < ps.length) :
    w.cell? ⟨g, k * 2, none⟩ = some (.pointer (some ⟨(ps[k]).1.b, 0, none⟩)) ∧ w.cell? ⟨g, k * 2 + 1, none⟩ = some (.pointer (some ⟨(ps[k]).2.b, 0, none⟩)) := by
  have hget : ∀ (ps : List (GT × RB)) (k : Nat) (hk : k < ps.length), (ps.flatMap pairCells)[k * 2]? = some (.pointer (some ⟨(ps[k]).1.b, 0, none⟩)) ∧ (ps.flatMap pairCells)[k * 2 + 1]? = some (.pointer (some ⟨(ps[k]).2.b, 0, none⟩)) := by
    intro ps
    induction ps with
    | nil => intro k hk; simp at hk
    | cons q ps ih =>
      intro k hk
      cases k with
      | zero => simp [pairCells]
      | succ k =>
        have := ih k (by simpa using hk)
        rw [List.flatMap_cons, show (k + 1) * 2 = k * 2 + 2 from by omega, show k * 2 + 2 + 1 = k * 2 + 1 + 2 from by omega, List.getElem?_append_right (by simp [pairCells]), List.getElem?_append_right (by simp [pairCells])]
        simpa [pairCells] using this
  obtain ⟨h1, h2⟩ := hget ps k hk
  have e1 := h.cells (g := g) rfl _ _ h1
  have e2 := h.cells (g := g) rfl _ _ h2
  rw [Addr.add_lit, Nat.zero_add] at e1 e2
  exact ⟨e1, e2⟩

set_option maxRecDepth 100000 in
set_option maxHeartbeats 2000000 in
theorem step_change (base m wb : Nat) (lv : Value) (ps : List (GT × RB)) (w : World) (h : PW base m w wb lv ps) (hps : ps ≠ []) (hm : m ≤ 2199023255552) (e a b : Int) (he : -9223372036854775808 ≤ e ∧ e ≤ 9223372036854775807) (s : ByteArray) (L : Value) (hL : ∃ x n c, L = .slice x n c) :
    Calls Tryz.prog 6 #[.pointer (some ⟨wb, 0, none⟩), stepV 4 e s a b L] w fun r w' => r = .returned (.bool true) ∧ ∃ lv' ps', PW base (m + 1) w' wb lv' ps' ∧ ps' ≠ [] ∧ Below base w w' := by
  have hlen := h.len
  have hpl : 0 < ps.length := List.length_pos_iff.2 hps
  obtain ⟨la, lc, hlv, _, hla⟩ := own_shape2 h.row
  obtain ⟨lb, rfl⟩ : ∃ lb, la = some ⟨lb, 0, none⟩ := by
    rcases hla with ⟨_, h0, _⟩ | ⟨g, h1, _⟩
    · omega
    · exact ⟨g, h1⟩
  have hrow := h.row
  rw [hlv] at hrow
  have hk := pickP_lt e ps.length hpl
  obtain ⟨c1, c2⟩ := pair_row hrow _ hk
  have c0 : w.cell? ⟨wb, 0, none⟩ = some lv := by unfold World.cell?; simp only [h.blk]; rfl
  rw [hlv] at c0
  have HH : Hid (PW base m w wb lv ps) := h
  have HE : Hid (ps = ps.take (pickP e ps.length) ++ ps[pickP e ps.length] :: ps.drop (pickP e ps.length + 1)) := split_at ps _ hk
  obtain ⟨q, hq⟩ : ∃ q, ps[pickP e ps.length] = q := ⟨_, rfl⟩
  rw [hq] at c1 c2 HE
  obtain ⟨k, hkk⟩ : ∃ k, pickP e ps.length = k := ⟨_, rfl⟩
  have HPK : Hid (∀ w, Calls Tryz.prog 10 #[.int .i64 e, .int .i64 (ps.length : Int)] w fun r w' => r = .returned (.int .i64 (k : Int)) ∧ w' = w) := fun w => by
    rw [← hkk]; exact pick_any e ps.length w hpl (by omega) he
  rw [hkk] at c1 c2 HE hk
  obtain ⟨xa, xn, xc, rfl⟩ := hL
  obtain ⟨W, hW⟩ : ∃ W, W = w.alloc (stepObj 4 e s a b (.slice xa xn xc)) := ⟨_, rfl⟩
  have gW : w.grownBy W none := by rw [hW]; exact gb_alloc (gb_refl _ _) _
  have bS : W.heap[w.heap.size]? = some (stepObj 4 e s a b (.slice xa xn xc)) := by rw [hW]; exact alloc_new _ _ _ rfl
  have hWz : W.heap.size = w.heap.size + 1 := by rw [hW]; simp
  have d0 := gb_cell gW c0 (by simp)
  have d1 := gb_cell gW c1 (by simp)
  have d2 := gb_cell gW c2 (by simp)
  have s0 : W.cell? ⟨w.heap.size, 0, none⟩ = some (.int .i64 4) := by unfold World.cell?; simp only [bS]; rfl
  have s1 : W.cell? ⟨w.heap.size, 1, none⟩ = some (.int .i64 e) := by unfold World.cell?; simp only [bS]; rfl
  have hki : (k : Int) < (ps.length : Int) := by omega
  have HWE : Hid (w.alloc (.cells #[.int .i64 4, .int .i64 e, .string s, .int .i64 a, .int .i64 b, .slice xa xn xc] 33) = W) := hW.symm
  have HBS : Hid (W.heap[w.heap.size]? = some (stepObj 4 e s a b (.slice xa xn xc))) := bS
  have HWZ : Hid (W.heap.size = w.heap.size + 1) := hWz
  have ne0 := World.new_ne W _ d0
  have ne1 := World.new_ne W _ d1
  have ne2 := World.new_ne W _ s1
  clear hlv hla hrow hkk hq hps c0 c1 c2 hW bS h hWz
  unfold stepV
  go_enter Tryz.func6, Tryz.ntmps6
  go_upto_region 1 with fail
  rw [HWE.out]
  go_upto_region 5 with fail
  go_cut [5] (fun v w' => v = .pointer (some ⟨W.heap.size, 0, none⟩) ∧ w'.heap[W.heap.size]? = some (.cells #[.pointer (some ⟨q.1.b, 0, none⟩), .pointer (some ⟨q.2.b, 0, none⟩)] 39) ∧ W.grownBy w' none)
  case first =>
    go_region_held3 (fun w' => w'.cell? ⟨wb, 0, none⟩ = some (.slice (some ⟨lb, 0, none⟩) ps.length lc) ∧ w'.cell? ⟨w.heap.size, 1, none⟩ = some (.int .i64 e) ∧ w'.cell? ⟨lb, k * 2, none⟩ = some (.pointer (some ⟨q.1.b, 0, none⟩)) ∧ w'.cell? ⟨lb, k * 2 + 1, none⟩ = some (.pointer (some ⟨q.2.b, 0, none⟩))) (go_keep) ((go_at_call 10; refine (HPK.out _).mono ?_; rintro r w' ⟨rfl, rfl⟩))
    all_goals
      go_wp2
      go_meet
      case rel => exact ⟨rfl, alloc_new _ _ _ rfl, gb_d (q := 1) (gb_alloc (gb_refl _ _) _)⟩
  case rest =>
    obtain ⟨rfl, hp, gc⟩ := hcut
    have G := gb_trans gW gc
    have hPW := HH.out.gb G
    have hqm : q ∈ ps := by rw [HE.out]; simp
    have hpa := hPW.each q hqm
    have HPA : Hid (PairAt m wc q) := hpa
    have HPW : Hid (PW base m wc wb lv ps) := hPW
    have hold : ∀ b' ∈ pairOwn q, b' < w.heap.size := (HH.out.each q hqm).lt
    have HSB : Hid (wc.heap[w.heap.size]? = some (stepObj 4 e s a b (.slice xa xn xc))) := (gc.block _ (by rw [HWZ.out]; omega) (by simp)).trans HBS.out
    have HPB : Hid (wc.heap[W.heap.size]? = some (.cells #[.pointer (some ⟨q.1.b, 0, none⟩), .pointer (some ⟨q.2.b, 0, none⟩)] 39)) := hp
    have HWB : Hid (∀ w3, wc.grownBy w3 none ∨ Kept (pairOwn q) wc w3 → w3.heap[w.heap.size]? = some (stepObj 4 e s a b (.slice xa xn xc)) ∧ w3.heap[W.heap.size]? = some (.cells #[.pointer (some ⟨q.1.b, 0, none⟩), .pointer (some ⟨q.2.b, 0, none⟩)] 39)) := by
      intro w3 hk3
      have l1 := lt_of HSB.out
      have l2 := lt_of HPB.out
      rcases hk3 with hk3 | hk3
      · exact ⟨(hk3.block _ l1 (by simp)).trans HSB.out, (hk3.block _ l2 (by simp)).trans HPB.out⟩
      · refine ⟨(hk3.block _ l1 (fun hm => ?_)).trans HSB.out, (hk3.block _ l2 (fun hm => ?_)).trans HPB.out⟩
        · have := hold _ hm; omega
        · have := hold _ hm; have := HWZ.out; omega
    have x0 : wc.cell? ⟨W.heap.size, 0, none⟩ = some (.pointer (some ⟨q.1.b, 0, none⟩)) := by unfold World.cell?; simp only [hp]; rfl
    have y0 : wc.cell? ⟨w.heap.size, 0, none⟩ = some (.int .i64 4) := by unfold World.cell?; simp only [HSB.out]; rfl
    have y2 : wc.cell? ⟨w.heap.size, 2, none⟩ = some (.string s) := by unfold World.cell?; simp only [HSB.out]; rfl
    have y3 : wc.cell? ⟨w.heap.size, 3, none⟩ = some (.int .i64 a) := by unfold World.cell?; simp only [HSB.out]; rfl
    have y5 : wc.cell? ⟨w.heap.size, 5, none⟩ = some (.slice xa xn xc) := by unfold World.cell?; simp only [HSB.out]; rfl
    have HBW : Hid (Below base w wc) := ⟨G.os, G.tape, G.output, G.size, fun j hj => G.block j (by have := HH.out.low; omega) (by simp)⟩
    clear hp gc G hPW hpa d0 d1 d2 s0 s1 ne0 ne1 ne2 gW
    go_wp2_with fail
    refine (bChange_any q.1 s a m _ HPA.out.px HPA.out.ox (by omega)).mono ?_
    rintro r w3 ⟨t', k1, rfl, ho3, hc3⟩
    obtain ⟨b3, b4⟩ := HWB.out w3 (Or.inr (ho3.kept.mono fun b' hb' => Or.inl (by simp [pairOwn, hb'])))
    have x1 : w3.cell? ⟨W.heap.size, 1, none⟩ = some (.pointer (some ⟨q.2.b, 0, none⟩)) := by unfold World.cell?; simp only [b4]; rfl
    have v2 : w3.cell? ⟨w.heap.size, 2, none⟩ = some (.string s) := by unfold World.cell?; simp only [b3]; rfl
    have v3 : w3.cell? ⟨w.heap.size, 3, none⟩ = some (.int .i64 a) := by unfold World.cell?; simp only [b3]; rfl
    have hnd := HPA.out.nodup
    have hr3 : RB.At w3 q.2 := HPA.out.py.kept ho3.kept (fun b' hb' hm => by
      simp only [pairOwn, List.nodup_append] at hnd
      exact hnd.2.2 b' hm b' hb' rfl)
    have HO3 : Hid (Out (m + 1) q.1 t' wc w3) := ho3
    have HC3 : Hid (ChgOut q.1.view s.data.toList a k1 t'.view) := hc3
    clear ho3 hc3 b3 b4 x0 y0 y2 y3 y5
    go_wp2_with fail
    refine (refChg_any q.2 s a m _ hr3 HPA.out.oy (by omega)).mono ?_
    rintro r w4 ⟨r', k2, rfl, ho4, hc4⟩
    obtain ⟨hcode, hrel⟩ := chg_step HPA.out.rel (names_nodup HPA.out.ox) (by have := HPA.out.oy.slen; simpa [RB.view] using this) HC3.out hc4
    subst hcode
    obtain ⟨p1, p2, p3⟩ := pair_out hnd HPA.out.py HO3.out ho4 hrel
    obtain ⟨u1, u2⟩ := HPW.out.upd (q' := (t', r')) (Nat.le_succ m) HE.out HO3.out.b ho4.b p1 p2 p3
    have HU : Hid (PW base (m + 1) w4 wb lv (ps.take k ++ (t', r') :: ps.drop (k + 1)) ∧ Below base wc w4) := ⟨u1, u2⟩
    have hkk : (k1 == k1) = true := by simp
    clear u1 u2 p1 p2 p3 ho4 hc4 hrel hr3 hnd
    go_wp2_with (go_at_call 16; refine (num_any _ _).mono ?_; rintro r w' ⟨rfl, rfl⟩)
    go_ret
    exact ⟨rfl, lv, _, HU.out.1, by simp, HBW.out.trans (HU.out.2.mono (by have := HH.out.low; omega))⟩

end Go.Proofs.YtecmkooiaghgcaaGreatDoor
