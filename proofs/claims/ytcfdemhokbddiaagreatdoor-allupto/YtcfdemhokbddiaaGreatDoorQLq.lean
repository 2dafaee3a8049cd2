/-
  A step of the law: Page.
-/
import Derived.Test.YtcfdemhokbddiaaGreatDoorQLn
import Derived.Test.YtcfdemhokbddiaaGreatDoorQLf

namespace Go.Proofs.YtcfdemhokbddiaaGreatDoor
open Go.RowKit

theorem below_gb {base : Nat} {w w' : World} (h : w.grownBy w' none) (hs : base ≤ w.heap.size) : Below base w w' := ⟨h.os, h.tape, h.output, h.size, fun b hb => h.block b (by omega) (by simp)⟩

set_option maxRecDepth 100000 in
set_option maxHeartbeats 2000000 in
theorem step_page {sk : Value × Value} (base m wb : Nat) (lv : Value) (ps : List (GT × RB)) (w : World) (h : PW base m w wb sk lv ps) (V : List Value) (ks : List Nat) (hM : Marks base w (pwOwn wb lv ps) sk V ks) (hVl : V.length ≤ 400000000) (hps : ps ≠ []) (hm : m ≤ 1000000000) (e a b : Int) (he : -9223372036854775808 ≤ e ∧ e ≤ 9223372036854775807) (s : ByteArray) (L : Value) (hL : ∃ x n c, L = .slice x n c) :
    Calls Tryz.prog 30 #[.pointer (some ⟨wb, 0, none⟩), stepV 7 e s a b L] w fun r w' => r = .returned (.bool true) ∧ ∃ sk' V' ks' ps', PW base (m + 1) w' wb sk' lv ps' ∧ ps' ≠ [] ∧ Marks base w' (pwOwn wb lv ps') sk' V' ks' ∧ V'.length = V.length + 4 ∧ ps'.length = ps.length ∧ Below base w w' := by
  have HMW : Hid (Marks base w (pwOwn wb lv ps) sk V ks) := hM
  have HLV : Hid (∃ a m c, lv = .slice a m c) := by obtain ⟨la, lc, hlv, _⟩ := own_shape2 h.row; exact ⟨la, _, lc, hlv⟩
  clear hM
  have hlen := h.len
  have hpl : 0 < ps.length := List.length_pos_iff.2 hps
  obtain ⟨la, lc, hlv, _, hla⟩ := own_shape2 h.row
  obtain ⟨lb, rfl⟩ : ∃ lb, la = some ⟨lb, 0, none⟩ := by
    rcases hla with ⟨_, h0, _⟩ | ⟨g, h1, _⟩
    · omega
    · exact ⟨g, h1⟩
  have hrow := h.row
  rw [hlv] at hrow
  have hk := lpickP_lt e ps.length hpl
  obtain ⟨c1, c2⟩ := pair_row hrow _ hk
  have c0 : w.cell? ⟨wb, 0, none⟩ = some lv := by unfold World.cell?; simp only [h.blk]; rfl
  rw [hlv] at c0
  have HH : Hid (PW base m w wb sk lv ps) := h
  have HE : Hid (ps = ps.take (lpickP e ps.length) ++ ps[lpickP e ps.length] :: ps.drop (lpickP e ps.length + 1)) := split_at ps _ hk
  obtain ⟨q, hq⟩ : ∃ q, ps[lpickP e ps.length] = q := ⟨_, rfl⟩
  rw [hq] at c1 c2 HE
  obtain ⟨k, hkk⟩ : ∃ k, lpickP e ps.length = k := ⟨_, rfl⟩
  have HPK : Hid (∀ w, Calls Tryz.prog 44 #[.int .i64 e, .int .i64 (ps.length : Int)] w fun r w' => r = .returned (.int .i64 (k : Int)) ∧ w' = w) := fun w => by
    rw [← hkk]; exact pick_any e ps.length w hpl (by omega) he
  rw [hkk] at c1 c2 HE hk
  obtain ⟨xa, xn, xc, rfl⟩ := hL
  obtain ⟨nm, rfl⟩ : ∃ nm, s = B nm := ⟨s.data.toList, (B_self s).symm⟩
  obtain ⟨W, hW⟩ : ∃ W, W = w.alloc (stepObj 7 e (B nm) a b (.slice xa xn xc)) := ⟨_, rfl⟩
  have gW : w.grownBy W none := by rw [hW]; exact gb_alloc (gb_refl _ _) _
  have bS : W.heap[w.heap.size]? = some (stepObj 7 e (B nm) a b (.slice xa xn xc)) := by rw [hW]; exact alloc_new _ _ _ rfl
  have hWz : W.heap.size = w.heap.size + 1 := by rw [hW]; simp
  have d0 := gb_cell gW c0 (by simp)
  have d1 := gb_cell gW c1 (by simp)
  have d2 := gb_cell gW c2 (by simp)
  have s0 : W.cell? ⟨w.heap.size, 0, none⟩ = some (.int .i64 7) := by unfold World.cell?; simp only [bS]; rfl
  have s1 : W.cell? ⟨w.heap.size, 1, none⟩ = some (.int .i64 e) := by unfold World.cell?; simp only [bS]; rfl
  have hki : (k : Int) < (ps.length : Int) := by omega
  have HWE : Hid (w.alloc (.cells #[.int .i64 7, .int .i64 e, .string (B nm), .int .i64 a, .int .i64 b, .slice xa xn xc] 65) = W) := hW.symm
  have HBS : Hid (W.heap[w.heap.size]? = some (stepObj 7 e (B nm) a b (.slice xa xn xc))) := bS
  have HWZ : Hid (W.heap.size = w.heap.size + 1) := hWz
  have ne0 := World.new_ne W _ d0
  have ne1 := World.new_ne W _ d1
  have ne2 := World.new_ne W _ s1
  clear hlv hla hrow hkk hq hps c0 c1 c2 hW bS h hWz
  unfold stepV
  go_enter Tryz.func30, Tryz.ntmps30
  go_upto_region 1 with fail
  rw [HWE.out]
  go_upto_region 5 with fail
  go_cut [5] (fun v w' => v = .pointer (some ⟨W.heap.size, 0, none⟩) ∧ w'.heap[W.heap.size]? = some (.cells #[.pointer (some ⟨q.1.b, 0, none⟩), .pointer (some ⟨q.2.b, 0, none⟩)] 88) ∧ W.grownBy w' none)
  case first =>
    go_region_held3 (fun w' => w'.cell? ⟨wb, 0, none⟩ = some (.slice (some ⟨lb, 0, none⟩) ps.length lc) ∧ w'.cell? ⟨w.heap.size, 1, none⟩ = some (.int .i64 e) ∧ w'.cell? ⟨lb, k * 2, none⟩ = some (.pointer (some ⟨q.1.b, 0, none⟩)) ∧ w'.cell? ⟨lb, k * 2 + 1, none⟩ = some (.pointer (some ⟨q.2.b, 0, none⟩))) (go_keep) ((go_at_call 44; refine (HPK.out _).mono ?_; rintro r w' ⟨rfl, rfl⟩))
    all_goals
      go_wp2
      go_meet
      case rel => exact ⟨rfl, alloc_new _ _ _ rfl, gb_d (q := 1) (gb_alloc (gb_refl _ _) _)⟩
  case rest =>
    obtain ⟨rfl, hp, gc⟩ := hcut
    have G := gb_trans gW gc
    have hPW := HH.out.gb G
    have hqm : q ∈ ps := by rw [HE.out]; simp
    have hpa := hPW.each q hqm
    have HPA : Hid (PairAt m wc q) := hpa
    have HPW : Hid (PW base m wc wb sk lv ps) := hPW
    have hold : ∀ b' ∈ pairOwn q, b' < w.heap.size := (HH.out.each q hqm).lt
    have HSB : Hid (wc.heap[w.heap.size]? = some (stepObj 7 e (B nm) a b (.slice xa xn xc))) := (gc.block _ (by rw [HWZ.out]; omega) (by simp)).trans HBS.out
    have HPB : Hid (wc.heap[W.heap.size]? = some (.cells #[.pointer (some ⟨q.1.b, 0, none⟩), .pointer (some ⟨q.2.b, 0, none⟩)] 88)) := hp
    have HWB : Hid (∀ w3, wc.grownBy w3 none ∨ Kept (pairOwn q) wc w3 → w3.heap[w.heap.size]? = some (stepObj 7 e (B nm) a b (.slice xa xn xc)) ∧ w3.heap[W.heap.size]? = some (.cells #[.pointer (some ⟨q.1.b, 0, none⟩), .pointer (some ⟨q.2.b, 0, none⟩)] 88)) := by
      intro w3 hk3
      have l1 := lt_of HSB.out
      have l2 := lt_of HPB.out
      rcases hk3 with hk3 | hk3
      · exact ⟨(hk3.block _ l1 (by simp)).trans HSB.out, (hk3.block _ l2 (by simp)).trans HPB.out⟩
      · refine ⟨(hk3.block _ l1 (fun hm => ?_)).trans HSB.out, (hk3.block _ l2 (fun hm => ?_)).trans HPB.out⟩
        · have := hold _ hm; omega
        · have := hold _ hm; have := HWZ.out; omega
    have x0 : wc.cell? ⟨W.heap.size, 0, none⟩ = some (.pointer (some ⟨q.1.b, 0, none⟩)) := by unfold World.cell?; simp only [hp]; rfl
    have y0 : wc.cell? ⟨w.heap.size, 0, none⟩ = some (.int .i64 7) := by unfold World.cell?; simp only [HSB.out]; rfl
    have y2 : wc.cell? ⟨w.heap.size, 2, none⟩ = some (.string (B nm)) := by unfold World.cell?; simp only [HSB.out]; rfl
    have y3 : wc.cell? ⟨w.heap.size, 3, none⟩ = some (.int .i64 a) := by unfold World.cell?; simp only [HSB.out]; rfl
    have y5 : wc.cell? ⟨w.heap.size, 5, none⟩ = some (.slice xa xn xc) := by unfold World.cell?; simp only [HSB.out]; rfl
    have HBW : Hid (w.grownBy wc none) := G
    clear hp gc G hPW hpa d0 d1 d2 s0 s1 ne0 ne1 ne2 gW
    have y4 : wc.cell? ⟨w.heap.size, 4, none⟩ = some (.int .i64 b) := by unfold World.cell?; simp only [HSB.out]; rfl
    have HOC : Hid (Calls Tryz.prog 16 #[.pointer (some ⟨q.1.b, 0, none⟩), .int .i64 a, .int .i64 b] wc _) := bPage_any q.1 a b m wc HPA.out.px HPA.out.ox HPA.out.rx (by omega) HPW.out.tab (fun b' hb' => HPW.out.ne0 b' (by simp only [pwOwn, List.mem_cons, List.mem_append, List.mem_flatMap]; exact Or.inr (Or.inr ⟨q, hqm, by simp [pairOwn, hb']⟩)))
    go_wp2_with fail
    refine HOC.out.mono ?_
    rintro r w3 ⟨t', vl, lines, more, c, rfl, ho3, hto3, hro3, hv3, hrow3, hc3⟩
    obtain ⟨va, vc, rfl, _, _⟩ := own_shape1 hrow3
    have hlen20 : lines.length ≤ 20 := by have := pageP_len q.1.rview a b; rw [← hc3] at this; exact this
    obtain ⟨b3, b4⟩ := HWB.out w3 (Or.inr (ho3.kept.mono fun b' hb' => Or.inl (by simp [pairOwn, hb'])))
    have x1 : w3.cell? ⟨W.heap.size, 1, none⟩ = some (.pointer (some ⟨q.2.b, 0, none⟩)) := by unfold World.cell?; simp only [b4]; rfl
    have v3 : w3.cell? ⟨w.heap.size, 3, none⟩ = some (.int .i64 a) := by unfold World.cell?; simp only [b3]; rfl
    have v4 : w3.cell? ⟨w.heap.size, 4, none⟩ = some (.int .i64 b) := by unfold World.cell?; simp only [b3]; rfl
    have HRC : Hid (Calls Tryz.prog 53 #[.pointer (some ⟨q.2.b, 0, none⟩), .int .i64 a, .int .i64 b] w3 _) := page_pair HPA.out a b ho3 hro3 hto3 hv3 hc3
    have HR3 : Hid (w3.ownsRow wc.heap.size 9 1 (.slice va lines.length vc) lines.length (strs lines)) := hrow3
    have HS3 : Hid (wc.heap.size ≤ w3.heap.size) := ho3.kept.size
    clear ho3 hro3 hv3 hc3 hto3 hrow3 b3 b4 x0 y0 y2 y3 y4 y5 HOC
    go_wp2_with fail
    refine HRC.out.mono ?_
    rintro r w4 ⟨v2, rfl, hrow4, hk34, r', hps4, hsub4⟩
    obtain ⟨va2, vc2, rfl, _, _⟩ := own_shape1 hrow4
    obtain ⟨u1, u2⟩ := HPW.out.upd (q' := (t', r')) (Nat.le_refl m) HE.out hps4.b1 hps4.b2 hps4.at_ hps4.kept hps4.sub
    obtain ⟨P2, hP2⟩ : ∃ P2, ps.take k ++ (t', r') :: ps.drop (k + 1) = P2 := ⟨_, rfl⟩
    have HP3 : Hid (P2.length = ps.length) := by
      show P2.length = ps.length
      rw [← hP2]; simp; omega
    have HP2 : Hid (P2 ≠ [] ∧ ∀ b' ∈ pwOwn wb lv P2, b' < wc.heap.size) := by
      refine ⟨by rw [← hP2]; simp, fun b' hb' => HPW.out.lt b' ?_⟩
      rw [← hP2] at hb'
      rw [HE.out]
      simp only [pwOwn, List.mem_cons, List.mem_append, List.flatMap_append, List.flatMap_cons] at hb' ⊢
      rcases hb' with h1 | h1 | h1 | h1 | h1
      · exact Or.inl h1
      · exact Or.inr (Or.inl h1)
      · exact Or.inr (Or.inr (Or.inl h1))
      · exact Or.inr (Or.inr (Or.inr (Or.inl (hsub4 b' h1))))
      · exact Or.inr (Or.inr (Or.inr (Or.inr h1)))
    rw [hP2] at u1 u2
    have HU : Hid (PW base m w4 wb sk lv P2 ∧ Kpt wb lv ps wc lv P2 w4) := ⟨u1, u2⟩
    have hrb : q.2.b < wc.heap.size := HPA.out.py.lt _ (by simp [RB.own])
    have HR4 : Hid (w4.ownsRow wc.heap.size 9 1 (.slice va lines.length vc) lines.length (strs lines)) := own_frame HR3.out fun b' hb' => hk34.block b' (own_lt HR3.out b' hb') (by have := own_base HR3.out b' hb'; simp; omega)
    have HSM : Hid (Calls Tryz.prog 54 #[.slice va lines.length vc, .slice va2 lines.length vc2] w4 _) := lawSame_any _ _ lines w4 (strSl_of_row HR4.out).2 (strSl_of_row hrow4).2 (by omega)
    have HM4 : Hid (Marks base w4 (pwOwn wb lv P2) sk V ks) := (HMW.out.gb HBW.out).kpt u2
    have HMC : Hid (Marks base wc (pwOwn wb lv ps) sk V ks) := HMW.out.gb HBW.out
    clear u1 u2 hps4 hsub4 HRC hrow4 hk34 hP2 x1 v3 v4
    go_wp2_with fail
    refine HSM.out.mono ?_
    rintro r w5 ⟨rfl, g5⟩
    have PW5 := HU.out.1.gb g5
    have M5 := HM4.out.gb g5
    have row5 : w5.ownsRow wc.heap.size 9 1 (.slice va lines.length vc) lines.length (strs lines) := own_frame HR4.out fun b' hb' => g5.block b' (own_lt HR4.out b' hb') (by simp)
    have hsz : wc.heap.size ≤ w5.heap.size := by have := HS3.out; have := HU.out.2.kept.size; have := g5.size; omega
    obtain ⟨K, hK4⟩ : ∃ K, V.length = 4 * K := ⟨V.length / 4, by have := M5.four; omega⟩
    have hlb : ∀ b' ∈ (Value.slice va lines.length vc).ownBlock.toList, base ≤ b' ∧ b' ∉ pwOwn wb lv P2 ∧ b' ∉ sk.1.ownBlock.toList ∧ b' ∉ sk.2.ownBlock.toList ∧ ∀ v ∈ V, b' ∉ v.ownBlock.toList := fun b' hb' => by
      have hge := own_base row5 b' hb'
      have hbase := HPW.out.low
      refine ⟨by omega, fun hm => ?_, fun hm => ?_, fun hm => ?_, fun v hv hm => ?_⟩
      · have := HP2.out.2 b' hm; omega
      · have := own_lt HMC.out.srow b' hm; omega
      · have := own_lt HMC.out.krow b' hm; omega
      · have := (HMC.out.vlow v hv b' hm).2.1; omega
    have hwbP : wb ∈ pwOwn wb lv P2 := by simp [pwOwn]
    have HOW : Hid (Calls Tryz.prog 55 #[.pointer (some ⟨wb, 0, none⟩), .slice va lines.length vc] w5 _) := own_any wb lv sk.1 sk.2 (.slice va lines.length vc) V (ks.map fun k : Nat => (k : Int)) K V.length lines.length wc.heap.size lines w5 HLV.out PW5.blk hK4 (by omega) M5.srow M5.krow row5 hsz hlen20
      (fun b' hb' => ⟨fun e => (M5.slow b' hb').2.1 (by rw [e]; exact hwbP), (M5.slow b' hb').2.2.1, fun hm => (hlb b' hm).2.2.1 hb'⟩) (fun b' hb' => ⟨fun e => (M5.klow b' hb').2.1 (by rw [e]; exact hwbP), fun hm => (hlb b' hm).2.2.2.1 hb'⟩) (fun b' hb' e => (hlb b' hb').2.1 (by rw [e]; exact hwbP)) PW5.tab
    have HFIN : Hid (∀ w6 sv' kv' us, OwnOut wb lv sk.1 sk.2 (.slice va lines.length vc) V (ks.map fun k : Nat => (k : Int)) K V.length w5 w6 sv' kv' us → ∃ sk' V' ks' ps', PW base (m + 1) w6 wb sk' lv ps' ∧ ps' ≠ [] ∧ Marks base w6 (pwOwn wb lv ps') sk' V' ks' ∧ V'.length = V.length + 4 ∧ ps'.length = ps.length ∧ Below base w w6) := by
      intro w6 sv' kv' us hoo
      obtain ⟨k1, k2⟩ := own_put PW5 M5 row5 hlb hK4 hoo
      refine ⟨_, _, _, P2, k1.mono (Nat.le_succ m), HP2.out.1, k2, by simp [hoo.ulen], HP3.out, ?_⟩
      have hlow := HH.out.low
      have b1 : Below base w wc := below_gb HBW.out hlow
      have b2 : Below base wc w4 := HU.out.2.below HPW.out
      have b3 : Below base w4 w5 := below_gb g5 HU.out.1.low
      have b4 : Below base w5 w6 := below_kept hoo.kept (fun b' hb' => by
        simp only [List.mem_cons, List.mem_append] at hb'
        rcases hb' with rfl | h1 | h1 | h1
        · exact PW5.above _ hwbP
        · exact (hlb b' h1).1
        · exact (M5.slow b' h1).1
        · exact (M5.klow b' h1).1) PW5.low
      exact ((b1.trans b2).trans b3).trans b4
    have hmr : (more == more) = true := by simp
    have hcc : (c == c) = true := by simp
    clear PW5 M5 row5 hlb g5 HSM
    go_wp2_with fail
    refine HOW.out.mono ?_
    rintro r w6 ⟨rfl, sv', kv', us, hoo⟩
    have HR : Hid (∃ sk' V' ks' ps', PW base (m + 1) w6 wb sk' lv ps' ∧ ps' ≠ [] ∧ Marks base w6 (pwOwn wb lv ps') sk' V' ks' ∧ V'.length = V.length + 4 ∧ ps'.length = ps.length ∧ Below base w w6) := HFIN.out w6 sv' kv' us hoo
    clear hoo HFIN HOW
    go_wp2_with (go_at_call 49; refine (num_any _ _).mono ?_; rintro r w' ⟨rfl, rfl⟩)
    go_ret
    exact ⟨rfl, HR.out⟩

end Go.Proofs.YtcfdemhokbddiaaGreatDoor

/-
  Any step of the law, with the lists that came out.
-/
namespace Go.Proofs.YtcfdemhokbddiaaGreatDoor
open Go.RowKit

/-- The law's world: n boards, and the lists that came out. -/
def LW (base m wb n : Nat) (w0 w : World) : Prop := ∃ sk lv ps V ks, PW base m w wb sk lv ps ∧ ps ≠ [] ∧ ps.length = n ∧ Marks base w (pwOwn wb lv ps) sk V ks ∧ V.length ≤ 4 * m ∧ Below base w0 w
theorem LW.mono {base m k wb n : Nat} {w0 w : World} (h : LW base m wb n w0 w) (hk : m ≤ k) : LW base k wb n w0 w := by
  obtain ⟨sk, lv, ps, V, ks, h1, h2, h3, h4, h5, h6⟩ := h
  exact ⟨sk, lv, ps, V, ks, h1.mono hk, h2, h3, h4, by omega, h6⟩
theorem LW.gb {base m wb n : Nat} {w0 w w' : World} (h : LW base m wb n w0 w) (hg : w.grownBy w' none) : LW base m wb n w0 w' := by
  obtain ⟨sk, lv, ps, V, ks, h1, h2, h3, h4, h5, h6⟩ := h
  exact ⟨sk, lv, ps, V, ks, h1.gb hg, h2, h3, h4.gb hg, h5, h6.trans (below_gb hg h1.low)⟩
theorem LW.len {base m wb n : Nat} {w0 w : World} (h : LW base m wb n w0 w) : n ≤ m := by
  obtain ⟨sk, lv, ps, V, ks, h1, _, h3, _⟩ := h
  rw [← h3]; exact h1.len
theorem LW.below {base m wb n : Nat} {w0 w : World} (h : LW base m wb n w0 w) : Below base w0 w := by
  obtain ⟨sk, lv, ps, V, ks, _, _, _, _, _, h6⟩ := h
  exact h6
theorem LW.cell {base m wb n : Nat} {w0 w : World} (h : LW base m wb n w0 w) : ∃ la lc, w.cell? ⟨wb, 0, none⟩ = some (.slice la n lc) := by
  obtain ⟨sk, lv, ps, V, ks, h1, _, h3, _⟩ := h
  obtain ⟨la, lc, e, _, _⟩ := own_shape2 h1.row
  refine ⟨la, lc, ?_⟩
  rw [← h3, ← e]
  unfold World.cell?
  simp only [h1.blk]; rfl
theorem LW.step {base m wb : Nat} {w0 w w' : World} {sk : Value × Value} {lv lv' : Value} {ps ps' : List (GT × RB)} {V : List Value} {ks : List Nat} (hM : Marks base w (pwOwn wb lv ps) sk V ks) (hV : V.length ≤ 4 * m) (hb : Below base w0 w) (h : PW base m w wb sk lv ps) (h1 : PW base (m + 1) w' wb sk lv' ps') (h2 : ps' ≠ []) (hk : Kpt wb lv ps w lv' ps' w') : LW base (m + 1) wb ps'.length w0 w' :=
  ⟨sk, lv', ps', V, ks, h1, h2, rfl, hM.kpt hk, by omega, hb.trans (hk.below h)⟩

/-- A step of any kind. -/
theorem stepA {base m wb n : Nat} {w0 w : World} (h : LW base m wb n w0 w) (hm : m ≤ 99999999) (kind e a b : Int) (he : -9223372036854775808 ≤ e ∧ e ≤ 9223372036854775807) (s : ByteArray) (L : Value) (xs : List Int) (hL : ∀ own : List Nat, (∀ c ∈ own, base ≤ c) → FarL w own L xs) (hxb : xs.length ≤ 17592186044416) :
    Calls Tryz.prog 30 #[.pointer (some ⟨wb, 0, none⟩), stepV kind e s a b L] w fun r w' => r = .returned (.bool true) ∧ ∃ n', LW base (m + 1) wb n' w0 w' ∧ (kind = 4 ∨ kind = 6 ∨ kind = 7 ∨ kind = 8 → n' = n) := by
  obtain ⟨sk, lv, ps, V, ks, h1, h2, h3, h4, h5, h6⟩ := h
  have hF := hL _ h1.above
  have hLs : ∃ x n c, L = .slice x n c := by obtain ⟨x, c, e1, _⟩ := hF; exact ⟨x, _, c, e1⟩
  have fin : ∀ (r : Ending) (w' : World), (r = .returned (.bool true) ∧ ∃ lv' ps', PW base (m + 1) w' wb sk lv' ps' ∧ ps' ≠ [] ∧ Kpt wb lv ps w lv' ps' w') → ¬ (kind = 4 ∨ kind = 6 ∨ kind = 7 ∨ kind = 8) → r = .returned (.bool true) ∧ ∃ n', LW base (m + 1) wb n' w0 w' ∧ (kind = 4 ∨ kind = 6 ∨ kind = 7 ∨ kind = 8 → n' = n) := by
    rintro r w' ⟨rfl, lv', ps', q1, q2, q3⟩ hn
    exact ⟨rfl, ps'.length, LW.step h4 h5 h6 h1 q1 q2 q3, fun hh => absurd hh hn⟩
  have fin2 : ∀ (r : Ending) (w' : World), (r = .returned (.bool true) ∧ ∃ lv' ps', PW base (m + 1) w' wb sk lv' ps' ∧ ps' ≠ [] ∧ Kpt wb lv ps w lv' ps' w' ∧ ps'.length = ps.length) → r = .returned (.bool true) ∧ ∃ n', LW base (m + 1) wb n' w0 w' ∧ (kind = 4 ∨ kind = 6 ∨ kind = 7 ∨ kind = 8 → n' = n) := by
    rintro r w' ⟨rfl, lv', ps', q1, q2, q3, q4⟩
    exact ⟨rfl, ps'.length, LW.step h4 h5 h6 h1 q1 q2 q3, fun _ => by rw [q4, h3]⟩
  by_cases k4 : kind = 4
  · subst k4; exact (step_change2 base m wb lv ps w h1 h2 (by omega) e a b he s L hLs).mono fun r w' q => fin2 r w' q
  by_cases k6 : kind = 6
  · subst k6; exact (step_opn base m wb lv ps w h1 h2 (by omega) e a b he s L hLs).mono fun r w' q => fin2 r w' q
  by_cases k8 : kind = 8
  · subst k8; exact (step_tick base m wb lv ps w h1 h2 (by omega) e a b he s L hLs).mono fun r w' q => fin2 r w' q
  by_cases k7 : kind = 7
  · subst k7
    refine (step_page base m wb lv ps w h1 V ks h4 (by omega) h2 (by omega) e a b he s L hLs).mono ?_
    rintro r w' ⟨rfl, sk', V', ks', ps', q1, q2, q3, q4, q5, q6⟩
    exact ⟨rfl, n, ⟨sk', lv, ps', V', ks', q1, q2, by rw [q5, h3], q3, by omega, h6.trans q6⟩, fun _ => rfl⟩
  have hno : ¬ (kind = 4 ∨ kind = 6 ∨ kind = 7 ∨ kind = 8) := by omega
  by_cases k1 : kind = 1
  · subst k1; exact (step_plain base m wb lv ps w h1 h2 e a b s L hLs).mono fun r w' q => fin r w' q hno
  by_cases k2 : kind = 2
  · subst k2; exact (step_new base m wb lv ps w h1 (by omega) e a b s L hLs).mono fun r w' q => fin r w' q hno
  by_cases k3 : kind = 3
  · subst k3; exact (step_family base m wb lv ps w h1 h2 (by omega) e a b he s L xs hF hxb).mono fun r w' q => fin r w' q hno
  by_cases k5 : kind = 5
  · subst k5; exact (step_drop base m wb lv ps w h1 h2 (by omega) e a b he s L hLs).mono fun r w' q => fin r w' q hno
  · exact (step_other base m wb lv ps w h1 h2 (by omega) kind e a b ⟨by simpa using k1, by simpa using k2, by simpa using k3, by simpa using k4, by simpa using k5, by simpa using k6, by simpa using k7, by simpa using k8⟩ he s L hLs).mono fun r w' q => fin r w' q hno
/-- A step that leaves the boards as many as they are, without numbers. -/
theorem stepN {base m wb n : Nat} {w0 w : World} (h : LW base m wb n w0 w) (hm : m ≤ 99999999) (kind e a b : Int) (hk : kind = 4 ∨ kind = 6 ∨ kind = 7 ∨ kind = 8) (he : -9223372036854775808 ≤ e ∧ e ≤ 9223372036854775807) (s : ByteArray) :
    Calls Tryz.prog 30 #[.pointer (some ⟨wb, 0, none⟩), .agg #[.int .i64 kind, .int .i64 e, .string s, .int .i64 a, .int .i64 b, .slice none 0 0]] w fun r w' => r = .returned (.bool true) ∧ LW base (m + 1) wb n w0 w' :=
  (stepA h hm kind e a b he s (.slice none 0 0) [] (fun own _ => farL_nil w own) (by simp)).mono fun r w' ⟨q1, n', q2, q3⟩ => ⟨q1, by rw [← q3 hk]; exact q2⟩
theorem looksL {base m wb n : Nat} {w0 w : World} (h : LW base m wb n w0 w) (hm : m ≤ 100000000) :
    Calls Tryz.prog 31 #[.pointer (some ⟨wb, 0, none⟩)] w fun r w' => r = .returned (.bool true) ∧ LW base m wb n w0 w' := by
  have h' := h
  obtain ⟨sk, lv, ps, V, ks, h1, h2, h3, h4, h5, h6⟩ := h
  obtain ⟨la, lc, hlv, _, _⟩ := own_shape2 h1.row
  refine (looksAll_any wb lv sk.1 sk.2 V ks V.length w ⟨la, _, lc, hlv⟩ h1.blk h4.srow h4.krow (by omega) h4.klen (fun k hk => ?_) h4.each h1.tab).mono fun r w' ⟨q1, q2⟩ => ⟨q1, h'.gb q2⟩
  have := h4.kb k hk
  omega

end Go.Proofs.YtcfdemhokbddiaaGreatDoor

/-
  The law All.
-/
namespace Go.Proofs.YtcfdemhokbddiaaGreatDoor
open Go.RowKit

set_option maxRecDepth 100000 in
set_option maxHeartbeats 8000000 in
theorem playsAll_any (sa : Option Addr) (n cap : Nat) (w : World) (ht : Tab w) (hn : n ≤ 1048576) (hs : n = 0 ∨ ∃ b off, sa = some ⟨b, off, none⟩ ∧ ∀ i, i < n → ∃ kind e s a c v xs, StepIs w b (off + i * 6) kind e s a c v xs) :
    Calls Tryz.prog 11 #[.slice sa n cap, .int .i64 8] w fun r w' => r = .returned (.bool true) ∧ Below w.heap.size w w' := by
  have ga := gb_alloc (gb_refl w none) (.cells #[.slice none 0 0, .slice none 0 0, .slice none 0 0] 62)
  have hP0 : PW w.heap.size 0 (w.alloc (.cells #[.slice none 0 0, .slice none 0 0, .slice none 0 0] 62)) w.heap.size (.slice none 0 0, .slice none 0 0) (.slice none 0 0) [] :=
    ⟨alloc_new _ _ _ rfl, World.ownsRow_nil _ _ _ _, by simp, by simp [pwOwn, Value.ownBlock], by simp [pwOwn, Value.ownBlock], by simp, by simp, ht.gb ga, ht.lt⟩
  obtain ⟨wb, hwb⟩ : ∃ wb, w.heap.size = wb := ⟨_, rfl⟩
  have HB : Hid (Calls Tryz.prog 29 #[.pointer (some ⟨w.heap.size, 0, none⟩)] (w.alloc (.cells #[.slice none 0 0, .slice none 0 0, .slice none 0 0] 62)) fun r w' => r = .returned (.bool true) ∧ ∃ nb, LW w.heap.size 4 w.heap.size nb w w') := (begins_any w.heap.size w.heap.size _ hP0).mono fun r w' ⟨h1, lv', ps', h2, h3, h4⟩ => ⟨h1, ps'.length, (.slice none 0 0, .slice none 0 0), lv', ps', [], [], h2, h3, rfl, Marks.start _ _ _, by simp, (below_gb ga (Nat.le_refl _)).trans (h4.below hP0)⟩
  have HS : Hid (n = 0 ∨ ∃ b off, sa = some ⟨b, off, none⟩ ∧ ∀ i, i < n → ∃ kind e s a c v xs, StepIs w b (off + i * 6) kind e s a c v xs) := hs
  have HWB : Hid (w.heap.size = wb) := hwb
  clear ga hP0 hs ht hwb
  go_enter Tryz.func11, Tryz.ntmps11
  go_wp2_with fail
  refine HB.out.mono ?_
  rintro r w1 ⟨rfl, nb1, h1⟩
  have HR1 : Hid (LW w.heap.size 4 w.heap.size nb1 w w1) := h1
  clear h1 HB
  go_wp2_with fail
  go_loopw [6, 7] (fun ok i wr => ∃ (k nb : Nat), ok = .bool true ∧ i = .int .i64 (k : Int) ∧ k ≤ n ∧ Hid (LW w.heap.size (4 + k) w.heap.size nb w wr)) (fun _ i _ => n - (intOf i).toNat)
  case atStart => exact ⟨0, nb1, rfl, rfl, Nat.zero_le _, HR1.out⟩
  case round =>
    obtain ⟨k, nb, rfl, rfl, hk, HR⟩ := hrel
    clear HR1
    by_cases hlt : k < n
    · obtain ⟨b, off, rfl, hall⟩ : ∃ b off, sa = some ⟨b, off, none⟩ ∧ ∀ i, i < n → ∃ kind e s a c v xs, StepIs w b (off + i * 6) kind e s a c v xs := by
        rcases HS.out with h0 | h0
        · omega
        · exact h0
      obtain ⟨kind, e, s, a, c, v, xs, hst⟩ := hall k hlt
      have hstr := hst.below HR.out.below
      obtain ⟨q0, q1, q2, q3, q4, q5, _, _, _⟩ := hstr
      obtain ⟨va, vc, hv⟩ : ∃ va vc, v = .slice va xs.length vc := by obtain ⟨x, y, e1, _⟩ := hst.far; exact ⟨x, y, e1⟩
      rw [hv] at q5
      have hki : (k : Int) < (n : Int) := by omega
      by_cases hk8 : kind ≤ 8
      · have hk8' : ¬ (8 : Int) < kind := by omega
        have hstep := stepA HR.out (by omega) kind e a c hst.he s v xs (fun own ho => hst.farOwn HR.out.below ho) hst.len
        rw [hv] at hstep
        unfold stepV at hstep
        have HST : Hid (Calls Tryz.prog 30 #[.pointer (some ⟨w.heap.size, 0, none⟩), .agg #[.int .i64 kind, .int .i64 e, .string s, .int .i64 a, .int .i64 c, .slice va xs.length vc]] wr _) := hstep
        clear hstep hst hv hall
        go_wp2_with fail
        refine HST.out.mono ?_
        rintro r w2 ⟨rfl, nb2, h2, _⟩
        have HLK : Hid (Calls Tryz.prog 31 #[.pointer (some ⟨w.heap.size, 0, none⟩)] w2 _) := looksL h2 (by omega)
        clear h2 HST
        go_wp2_with fail
        refine HLK.out.mono ?_
        rintro r w3 ⟨rfl, h3⟩
        have HR3 : Hid (LW w.heap.size (4 + (k + 1)) w.heap.size nb2 w w3) := h3
        clear h3 HLK
        go_wp2
        go_roundw
        case rel => exact ⟨k + 1, nb2, by simp, by go_num, by omega, HR3.out⟩
        case measure => simp [intOf]; omega
      · have hk8' : (8 : Int) < kind := by omega
        clear hst hv hall
        go_wp2
        go_roundw
        case rel => exact ⟨k + 1, nb, by simp, by go_num, by omega, HR.out.mono (by omega)⟩
        case measure => simp [intOf]; omega
    · have hki : ¬ (k : Int) < (n : Int) := by omega
      obtain rfl : k = n := by omega
      have hnb : nb ≤ 4 + k := HR.out.len
      obtain ⟨w4, hw4⟩ : ∃ w4, w4 = wr := ⟨_, rfl⟩
      subst hw4
      go_wp2_with fail
      go_loopw [6, 9] (fun ok i wr => ∃ j : Nat, ok = .bool true ∧ i = .int .i64 (j : Int) ∧ j ≤ nb ∧ Hid (LW w.heap.size (4 + k + 26 * j) w.heap.size nb w wr)) (fun _ i _ => nb - (intOf i).toNat)
      case atStart => exact ⟨0, rfl, rfl, Nat.zero_le _, HR.out⟩
      case round =>
        clear HR
        obtain ⟨j, rfl, rfl, hj, HR⟩ := hrel
        obtain ⟨la, lc, hcell⟩ := HR.out.cell
        by_cases hjn : j < nb
        · have hji : (j : Int) < (nb : Int) := by omega
          have hj64 : -9223372036854775808 ≤ (j : Int) ∧ (j : Int) ≤ 9223372036854775807 := by omega
          have hM : 4 + k + 26 * j + 26 ≤ 99999999 := by omega
          go_wp2_with fail
          clear hcell
          go_loopw [6, 10] (fun ok i wr => ∃ t : Nat, ok = .bool true ∧ i = .int .i64 (t : Int) ∧ t ≤ 5 ∧ Hid (LW w.heap.size (4 + k + 26 * j + t) w.heap.size nb w wr)) (fun _ i _ => 5 - (intOf i).toNat)
          case atStart => exact ⟨0, rfl, rfl, Nat.zero_le _, HR.out⟩
          case round =>
            clear HR
            obtain ⟨t, rfl, rfl, htt, HR⟩ := hrel
            by_cases ht5 : t < 5
            · have hti : (t : Int) < 5 := by omega
              have HST : Hid (Calls Tryz.prog 30 #[.pointer (some ⟨w.heap.size, 0, none⟩), .agg #[.int .i64 8, .int .i64 (j : Int), .string ⟨#[]⟩, .int .i64 0, .int .i64 0, .slice none 0 0]] wr _) := stepN HR.out (by omega) 8 (j : Int) 0 0 (by omega) hj64 ⟨#[]⟩
              go_wp2_with fail
              refine HST.out.mono ?_
              rintro r w5 ⟨rfl, h5⟩
              have HR5 : Hid (LW w.heap.size (4 + k + 26 * j + (t + 1)) w.heap.size nb w w5) := h5
              clear h5 HST
              go_wp2
              go_roundw
              case rel => exact ⟨t + 1, by simp, by go_num, by omega, HR5.out⟩
              case measure => simp [intOf]; omega
            · obtain rfl : t = 5 := by omega
              have H1 : Hid (Calls Tryz.prog 30 #[.pointer (some ⟨w.heap.size, 0, none⟩), .agg #[.int .i64 6, .int .i64 (j : Int), .string ⟨#[]⟩, .int .i64 0, .int .i64 0, .slice none 0 0]] wr _) := stepN HR.out (by omega) 6 (j : Int) 0 0 (by omega) hj64 ⟨#[]⟩
              go_wp2_with fail
              refine H1.out.mono ?_
              rintro r w5 ⟨rfl, h5⟩
              have H2 : Hid (Calls Tryz.prog 30 #[.pointer (some ⟨w.heap.size, 0, none⟩), .agg #[.int .i64 4, .int .i64 (j : Int), .string ⟨#[104, 105, 116, 115]⟩, .int .i64 3, .int .i64 0, .slice none 0 0]] w5 _) := stepN h5 (by omega) 4 (j : Int) 3 0 (by omega) hj64 ⟨#[104, 105, 116, 115]⟩
              clear h5 H1
              go_wp2_with fail
              refine H2.out.mono ?_
              rintro r w6 ⟨rfl, h6⟩
              have H3 : Hid (Calls Tryz.prog 30 #[.pointer (some ⟨w.heap.size, 0, none⟩), .agg #[.int .i64 6, .int .i64 (j : Int), .string ⟨#[]⟩, .int .i64 0, .int .i64 0, .slice none 0 0]] w6 _) := stepN h6 (by omega) 6 (j : Int) 0 0 (by omega) hj64 ⟨#[]⟩
              clear h6 H2
              go_wp2_with fail
              refine H3.out.mono ?_
              rintro r w7 ⟨rfl, h7⟩
              have HR7 : Hid (LW w.heap.size (4 + k + 26 * j + 8) w.heap.size nb w w7) := h7
              clear h7 H3
              go_wp2_with fail
              go_loopw [6, 15] (fun ok i wr => ∃ t : Nat, ok = .bool true ∧ i = .int .i64 (t : Int) ∧ t ≤ 9 ∧ Hid (LW w.heap.size (4 + k + 26 * j + 8 + 2 * t) w.heap.size nb w wr)) (fun _ i _ => 9 - (intOf i).toNat)
              case atStart => exact ⟨0, rfl, rfl, Nat.zero_le _, HR7.out⟩
              case round =>
                clear HR7 HR
                obtain ⟨t, rfl, rfl, htt, HR⟩ := hrel
                by_cases ht9 : t < 9
                · have hti : (t : Int) < 9 := by omega
                  have H1 : Hid (Calls Tryz.prog 30 #[.pointer (some ⟨w.heap.size, 0, none⟩), .agg #[.int .i64 7, .int .i64 (j : Int), .string ⟨#[]⟩, .int .i64 0, .int .i64 20, .slice none 0 0]] wr _) := stepN HR.out (by omega) 7 (j : Int) 0 20 (by omega) hj64 ⟨#[]⟩
                  go_wp2_with fail
                  refine H1.out.mono ?_
                  rintro r w8 ⟨rfl, h8⟩
                  have H2 : Hid (Calls Tryz.prog 30 #[.pointer (some ⟨w.heap.size, 0, none⟩), .agg #[.int .i64 7, .int .i64 (j : Int), .string ⟨#[]⟩, .int .i64 1, .int .i64 20, .slice none 0 0]] w8 _) := stepN h8 (by omega) 7 (j : Int) 1 20 (by omega) hj64 ⟨#[]⟩
                  clear h8 H1
                  go_wp2_with fail
                  refine H2.out.mono ?_
                  rintro r w9 ⟨rfl, h9⟩
                  have HR9 : Hid (LW w.heap.size (4 + k + 26 * j + 8 + 2 * (t + 1)) w.heap.size nb w w9) := h9
                  clear h9 H2
                  go_wp2
                  go_roundw
                  case rel => exact ⟨t + 1, by simp, by go_num, by omega, HR9.out⟩
                  case measure => simp [intOf]; omega
                · obtain rfl : t = 9 := by omega
                  have HRE : Hid (LW w.heap.size (4 + k + 26 * (j + 1)) w.heap.size nb w wr) := by
                    have := HR.out
                    rw [show 4 + k + 26 * j + 8 + 2 * 9 = 4 + k + 26 * (j + 1) by omega] at this
                    exact this
                  go_wp2
                  go_roundw
                  case rel => exact ⟨j + 1, by simp, by go_num, by omega, HRE.out⟩
                  case measure => simp [intOf]; omega
        · have hji : ¬ (j : Int) < (nb : Int) := by omega
          have HLK : Hid (Calls Tryz.prog 31 #[.pointer (some ⟨w.heap.size, 0, none⟩)] wr _) := looksL HR.out (by omega)
          go_wp2_with fail
          refine HLK.out.mono ?_
          rintro r w5 ⟨rfl, h5⟩
          have HE : Hid (Below w.heap.size w w5) := h5.below
          clear h5
          go_wp2
          go_ret
          exact ⟨rfl, HE.out⟩

set_option maxRecDepth 100000 in
set_option maxHeartbeats 400000 in
theorem all_any (sa : Option Addr) (n cap : Nat) (w : World) (ht : Tab w) (hn : n ≤ 1048576) (hs : n = 0 ∨ ∃ b off, sa = some ⟨b, off, none⟩ ∧ ∀ i, i < n → ∃ kind e s a c v xs, StepIs w b (off + i * 6) kind e s a c v xs) :
    Calls Tryz.prog 4 #[.slice sa n cap] w fun r w' => r = .returned (.bool true) ∧ Below w.heap.size w w' := by
  have HP : Hid (Calls Tryz.prog 11 #[.slice sa n cap, .int .i64 8] w _) := playsAll_any sa n cap w ht hn hs
  clear hs ht
  go_enter Tryz.func4, Tryz.ntmps4
  go_wp2_with fail
  refine HP.out.mono ?_
  rintro r w1 ⟨rfl, b1⟩
  go_wp2
  go_ret
  exact ⟨rfl, b1⟩

end Go.Proofs.YtcfdemhokbddiaaGreatDoor
