/-
  The lines of a series, gone through from one on (the function that linesFrom gives).
-/
import Derived.Test.YtcfdemhokbddiaaGreatDoorQNb
import Derived.Test.YtcfdemhokbddiaaGreatDoorQMb

namespace Go.Proofs.YtcfdemhokbddiaaGreatDoor
open Go.RowKit Go.Shelf

attribute [local go_sem] Oper.semAt_some

/-- The i-th line of a series. -/
def lineAt (kind : Int) (ls : List Int) (x : Cnt) (i : Nat) : List UInt8 := if i < ls.length then uptoP x.plain (ls.getD i 0) (x.us.getD i 0) else lastP kind x

set_option maxRecDepth 100000 in
set_option maxHeartbeats 4000000 in
theorem lines1_any (l bf bF bC f ag c ac fr m : Nat) (nm : List UInt8) (kind : Int) (lv sv : Value) (ls : List Int) (x : Cnt) (L : List Nat) (J Jx : Nat → World → Prop) (W : World)
    (h1 : W.cell? ⟨bf, 0, none⟩ = some (.int .i64 (fr : Int))) (h2 : W.cell? ⟨bF, 0, none⟩ = some (.pointer (some ⟨f, 0, none⟩))) (h3 : W.cell? ⟨bC, 0, none⟩ = some (.pointer (some ⟨c, 0, none⟩)))
    (hf : W.heap[f]? = some (famObj ag nm kind lv sv)) (hc : W.heap[c]? = some (cntObj ac x)) (hlv : W.ownsRow 0 3 1 lv ls.length (ints ls)) (hx : CntOk m x) (hm : m ≤ 4611686018427387904) (hlb : ∀ y ∈ ls, -1000000000 ≤ y ∧ y ≤ 1000000000) (hl4 : ls.length ≤ 4) (ht : Tab W)
    (hfr : fr ≤ ls.length) (hL : ∀ b ∈ L, b ≠ bf ∧ b ≠ bF ∧ b ≠ bC ∧ b ≠ f ∧ b ≠ c ∧ b ∉ lv.ownBlock.toList ∧ b ≠ 0)
    (hJ : ∀ k A B, J k A → Below W.heap.size A B → J k B)
    (hY : ∀ k A, k < ls.length + 1 - fr → J k A → YieldAt Fence.wide 0 Tryz.prog l #[.string (B (lineAt kind ls x (fr + k)))] A fun e B => Kept L A B ∧ ((e = .returned (.bool true) ∧ J (k + 1) B) ∨ (e = .returned (.bool false) ∧ Jx k B)))
    (h0 : J 0 W) (hLW : ∀ b ∈ L, b < W.heap.size) :
    Calls Tryz.prog 159 #[.func (.yield l) #[] #[], .pointer (some ⟨bf, 0, none⟩), .pointer (some ⟨bF, 0, none⟩), .pointer (some ⟨bC, 0, none⟩)] W fun e B => (∃ v, e = .returned v) ∧ Kept L W B ∧ (J (ls.length + 1 - fr) B ∨ ∃ k, k < ls.length + 1 - fr ∧ Jx k B) := by
  obtain ⟨_, _, g2, _, _⟩ := fam_cells hf
  obtain ⟨d0, _, _⟩ := cnt_cells hc
  obtain ⟨la, lc, rfl, _, hla⟩ := own_shape1 hlv
  have HKP : Hid (∀ wr, Kept L W wr → wr.cell? ⟨bf, 0, none⟩ = some (.int .i64 (fr : Int)) ∧ wr.cell? ⟨bF, 0, none⟩ = some (.pointer (some ⟨f, 0, none⟩)) ∧ wr.cell? ⟨bC, 0, none⟩ = some (.pointer (some ⟨c, 0, none⟩)) ∧ wr.heap[f]? = some (famObj ag nm kind (.slice la ls.length lc) sv) ∧ wr.heap[c]? = some (cntObj ac x) ∧ wr.ownsRow 0 3 1 (.slice la ls.length lc) ls.length (ints ls) ∧ Tab wr) := by
    intro wr hk
    have hb : ∀ b, b < W.heap.size → b ∉ L → wr.heap[b]? = W.heap[b]? := fun b hb hn => hk.block b hb hn
    have hce : ∀ b v, W.cell? ⟨b, 0, none⟩ = some v → b ∉ L → wr.cell? ⟨b, 0, none⟩ = some v := fun b v hv hn => by
      rw [World.cell?_of_block (a := ⟨b, 0, none⟩) (hb b (World.block_lt_of_cell? _ _ hv) hn)]; exact hv
    refine ⟨hce bf _ h1 (fun h => (hL _ h).1 rfl), hce bF _ h2 (fun h => (hL _ h).2.1 rfl), hce bC _ h3 (fun h => (hL _ h).2.2.1 rfl), (hb f (lt_of hf) (fun h => (hL _ h).2.2.2.1 rfl)).trans hf, (hb c (lt_of hc) (fun h => (hL _ h).2.2.2.2.1 rfl)).trans hc, own_frame hlv fun b hb' => hb b (own_lt hlv b hb') (fun h => (hL _ h).2.2.2.2.2.1 hb'), ht.same (hb 0 ht.lt (fun h => (hL _ h).2.2.2.2.2.2 rfl))⟩
  have HX : Hid (CntOk m x) := hx
  have HLB : Hid (∀ y ∈ ls, -1000000000 ≤ y ∧ y ≤ 1000000000) := hlb
  have HJ : Hid (∀ k A B, J k A → Below W.heap.size A B → J k B) := hJ
  have HY : Hid (∀ k A, k < ls.length + 1 - fr → J k A → YieldAt Fence.wide 0 Tryz.prog l #[.string (B (lineAt kind ls x (fr + k)))] A fun e B => Kept L A B ∧ ((e = .returned (.bool true) ∧ J (k + 1) B) ∨ (e = .returned (.bool false) ∧ Jx k B))) := hY
  have HLW : Hid (∀ b ∈ L, b < W.heap.size) := hLW
  clear hf hc hlv hx hlb hJ hY hL ht hLW
  refine (callsIn_wide (n := 3)).1 ?_
  refine callsIn_of_wp Tryz.func159 rfl trivial ?_ rfl
  simp only [Tryz.ntmps159, List.size_toArray, List.length_cons, List.length_nil, Nat.reduceAdd, Nat.reduceSub, Array.replicate_succ, Array.replicate_zero, List.push_toArray, List.append_toArray, List.nil_append, List.cons_append]
  gi_wp2
  gi_loopw [5] (fun v wr => ∃ i : Nat, v = .int .i64 (i : Int) ∧ fr ≤ i ∧ i ≤ ls.length ∧ J (i - fr) wr ∧ Hid (Kept L W wr)) (fun v _ => ls.length - (intOf v).toNat)
  case atStart => exact ⟨fr, rfl, Nat.le_refl _, hfr, by rw [Nat.sub_self]; exact h0, Kept.refl _ _⟩
  case round =>
    obtain ⟨i, rfl, hi1, hi2, hj, HK⟩ := hrel
    obtain ⟨k1, k2, k3, kf, kc, kr, kt⟩ := HKP.out wr HK.out
    obtain ⟨_, _, kl, _, _⟩ := fam_cells kf
    obtain ⟨kp, _, _⟩ := cnt_cells kc
    clear h1 h2 h3 g2 d0
    by_cases hlt : i < ls.length
    · have hli : (i : Int) < (ls.length : Int) := by omega
      obtain ⟨lb, rfl⟩ : ∃ lb, la = some ⟨lb, 0, none⟩ := by
        rcases hla with ⟨_, h, _⟩ | ⟨g, h, _⟩
        · omega
        · exact ⟨g, h⟩
      have hi4 : i < x.us.length := by rw [HX.out.len]; omega
      have hi4' : (i : Int) < 4 := by omega
      have HCL : Hid (∀ w', Kept L wr w' → w'.cell? ⟨bf, 0, none⟩ = some (.int .i64 (fr : Int)) ∧ w'.cell? ⟨bF, 0, none⟩ = some (.pointer (some ⟨f, 0, none⟩)) ∧ w'.cell? ⟨bC, 0, none⟩ = some (.pointer (some ⟨c, 0, none⟩)) ∧ w'.cell? ⟨c, 1, none⟩ = some (.string (B x.plain)) ∧ w'.cell? ⟨f, 3, none⟩ = some (.slice (some ⟨lb, 0, none⟩) ls.length lc) ∧ w'.cell? ⟨lb, i, none⟩ = some (.int .i64 (ls.getD i 0)) ∧ w'.cell? ⟨c, 4 + i, none⟩ = some (.int .i64 (x.us.getD i 0))) := by
        intro w' hk'
        obtain ⟨j1, j2, j3, jf, jc, jr, jt⟩ := HKP.out w' (HK.out.trans hk')
        have jv := own_cells1 jr rfl i (.int .i64 (ls.getD i 0)) (by simp [ints, hlt])
        rw [Addr.add_lit] at jv
        refine ⟨j1, j2, j3, (cnt_cells jc).1, (fam_cells jf).2.2.1, by simpa using jv, ?_⟩
        rw [cnt_us jc i hi4]; simp [hi4]
      have hb1 : -9223372036854775808 ≤ ls.getD i 0 ∧ ls.getD i 0 ≤ 9223372036854775807 := by
        have := HLB.out (ls[i]) (List.getElem_mem hlt)
        simp [hlt]; omega
      have hb2 : -9223372036854775808 ≤ x.us.getD i 0 ∧ x.us.getD i 0 ≤ 9223372036854775807 := by
        have := HX.out.us (x.us[i]) (List.getElem_mem hi4)
        simp [hi4]; omega
      have hpl := HX.out.pl
      have hn1 := itoa_len hb1
      have hn2 := itoa_len hb2
      have hline : lineAt kind ls x i = uptoP x.plain (ls.getD i 0) (x.us.getD i 0) := by unfold lineAt; rw [if_pos hlt]
      have hy0 := HY.out (i - fr)
      rw [show fr + (i - fr) = i from by omega, hline] at hy0
      have a1 : ∀ w, (Op.stringOp .add (B x.plain) ⟨#[32, 117, 112, 116, 111, 32]⟩).run Tryz.prog w = .ok (.string (B (x.plain ++ [32, 117, 112, 116, 111, 32]))) w := add_lists x.plain [32, 117, 112, 116, 111, 32] (by omega) (by simp)
      have a2 : ∀ w, (Op.stringOp .add (B (x.plain ++ [32, 117, 112, 116, 111, 32])) (B (Lib.itoa (ls.getD i 0)))).run Tryz.prog w = .ok (.string (B (x.plain ++ [32, 117, 112, 116, 111, 32] ++ Lib.itoa (ls.getD i 0)))) w := add_lists _ _ (by simp only [List.length_append, List.length_cons, List.length_nil]; omega) (by omega)
      have a3 : ∀ w, (Op.stringOp .add (B (x.plain ++ [32, 117, 112, 116, 111, 32] ++ Lib.itoa (ls.getD i 0))) ⟨#[32]⟩).run Tryz.prog w = .ok (.string (B (x.plain ++ [32, 117, 112, 116, 111, 32] ++ Lib.itoa (ls.getD i 0) ++ [32]))) w := add_lists (x.plain ++ [32, 117, 112, 116, 111, 32] ++ Lib.itoa (ls.getD i 0)) [32] (by simp only [List.length_append, List.length_cons, List.length_nil]; omega) (by simp)
      have a4 : ∀ w, (Op.stringOp .add (B (x.plain ++ [32, 117, 112, 116, 111, 32] ++ Lib.itoa (ls.getD i 0) ++ [32])) (B (Lib.itoa (x.us.getD i 0)))).run Tryz.prog w = .ok (.string (B (uptoP x.plain (ls.getD i 0) (x.us.getD i 0)))) w := add_lists (x.plain ++ [32, 117, 112, 116, 111, 32] ++ Lib.itoa (ls.getD i 0) ++ [32]) (Lib.itoa (x.us.getD i 0)) (by simp only [List.length_append, List.length_cons, List.length_nil]; omega) (by omega)
      have HI1 : Hid (∀ W, wr.grownBy W none → Calls Tryz.prog 24 #[.int .i64 (ls.getD i 0)] W fun e w' => e = .returned (.string (B (Lib.itoa (ls.getD i 0)))) ∧ wr.grownBy w' none) := fun W gW => (itoa_any _ hb1 W (kt.gb gW)).mono fun e w' ⟨q1, q2⟩ => ⟨q1, gb_trans gW q2⟩
      have HI2 : Hid (∀ W, wr.grownBy W none → Calls Tryz.prog 24 #[.int .i64 (x.us.getD i 0)] W fun e w' => e = .returned (.string (B (Lib.itoa (x.us.getD i 0)))) ∧ wr.grownBy w' none) := fun W gW => (itoa_any _ hb2 W (kt.gb gW)).mono fun e w' ⟨q1, q2⟩ => ⟨q1, gb_trans gW q2⟩
      have HY0 : Hid (∀ A, J (i - fr) A → YieldAt Fence.wide 0 Tryz.prog l #[.string (B (uptoP x.plain (ls.getD i 0) (x.us.getD i 0)))] A fun e B => Kept L A B ∧ ((e = .returned (.bool true) ∧ J (i - fr + 1) B) ∨ (e = .returned (.bool false) ∧ Jx (i - fr) B))) := fun A => hy0 A (by omega)
      generalize uptoP x.plain (ls.getD i 0) (x.us.getD i 0) = O4 at a4 HY0
      generalize x.plain ++ [32, 117, 112, 116, 111, 32] ++ Lib.itoa (ls.getD i 0) ++ [32] = O3 at a3 a4
      generalize x.plain ++ [32, 117, 112, 116, 111, 32] ++ Lib.itoa (ls.getD i 0) = O2 at a2 a3
      generalize x.plain ++ [32, 117, 112, 116, 111, 32] = O1 at a1 a2
      generalize ls.getD i 0 = y1 at HCL HI1 a2
      generalize x.us.getD i 0 = y2 at HCL HI2 a4
      generalize Lib.itoa y1 = N1 at HI1 a2
      generalize Lib.itoa y2 = N2 at HI2 a4
      clear hy0 hline hb1 hb2 hpl hn1 hn2 kf kc kr kt
      gi_wp2
      refine region_held (fun w' => Kept L wr w') (by kernel_rfl) ?_
      have g0 : wr.grownBy wr.drew none := gb_drew (gb_refl wr none)
      have hS : Kept L wr wr.drew := Kept.of_none g0 _
      refine wpAnyS_put (i := 0) (v := ?_) rfl rfl rfl (by kernel_rfl) (by kernel_rfl) (by kernel_rfl) (fun _ _ _ h => h) ⟨Or.inl ⟨by rfl, ?_⟩, fun _ => rfl⟩ hS ?_
      rotate_left
      · intro w' hSw
        go_simp
        try with_reducible rfl
      simp only [Act.put, List.setIfInBounds_toArray, List.set_cons_zero, List.set_cons_succ]
      refine wpAnyS_put (i := 1) (v := ?_) rfl rfl rfl (by kernel_rfl) (by kernel_rfl) (by kernel_rfl) (fun _ _ _ h => h) ⟨Or.inl ⟨by rfl, ?_⟩, fun _ => rfl⟩ hS ?_
      rotate_left
      · intro w' hSw
        obtain ⟨_, q2, q3, qp, ql, qv, qu⟩ := HCL.out w' hSw
        go_simp
        try with_reducible rfl
      simp only [Act.put, List.setIfInBounds_toArray, List.set_cons_zero, List.set_cons_succ]
      refine wpAnyS_put (i := 2) (v := ?_) rfl rfl rfl (by kernel_rfl) (by kernel_rfl) (by kernel_rfl) (fun _ _ _ h => h) ⟨Or.inl ⟨by rfl, ?_⟩, fun _ => rfl⟩ hS ?_
      rotate_left
      · intro w' hSw
        go_simp
        try with_reducible rfl
      simp only [Act.put, List.setIfInBounds_toArray, List.set_cons_zero, List.set_cons_succ]
      refine wpAnyS_put (i := 3) (v := ?_) rfl rfl rfl (by kernel_rfl) (by kernel_rfl) (by kernel_rfl) (fun _ _ _ h => h) ⟨Or.inl ⟨by rfl, ?_⟩, fun _ => rfl⟩ hS ?_
      rotate_left
      · intro w' hSw
        go_simp
        try with_reducible rfl
      simp only [Act.put, List.setIfInBounds_toArray, List.set_cons_zero, List.set_cons_succ]
      refine wpAnyS_put (i := 4) (v := ?_) rfl rfl rfl (by kernel_rfl) (by kernel_rfl) (by kernel_rfl) (fun _ _ _ h => h) ⟨Or.inl ⟨by rfl, ?_⟩, fun _ => rfl⟩ hS ?_
      rotate_left
      · intro w' hSw
        obtain ⟨_, q2, q3, qp, ql, qv, qu⟩ := HCL.out w' hSw
        go_simp
        try with_reducible rfl
      simp only [Act.put, List.setIfInBounds_toArray, List.set_cons_zero, List.set_cons_succ]
      refine wpAnyS_put (i := 5) (v := ?_) rfl rfl rfl (by kernel_rfl) (by kernel_rfl) (by kernel_rfl) (fun _ _ _ h => h) ⟨Or.inl ⟨by rfl, ?_⟩, fun _ => rfl⟩ hS ?_
      rotate_left
      · intro w' hSw
        go_simp
        try with_reducible rfl
      simp only [Act.put, List.setIfInBounds_toArray, List.set_cons_zero, List.set_cons_succ]
      refine wpAnyS_put (i := 6) (v := ?_) rfl rfl rfl (by kernel_rfl) (by kernel_rfl) (by kernel_rfl) (fun _ _ _ h => h) ⟨Or.inl ⟨by rfl, ?_⟩, fun _ => rfl⟩ hS ?_
      rotate_left
      · intro w' hSw
        obtain ⟨_, q2, q3, qp, ql, qv, qu⟩ := HCL.out w' hSw
        go_simp
        try with_reducible rfl
      simp only [Act.put, List.setIfInBounds_toArray, List.set_cons_zero, List.set_cons_succ]
      refine wpAnyS_put (i := 7) (v := ?_) rfl rfl rfl (by kernel_rfl) (by kernel_rfl) (by kernel_rfl) (fun _ _ _ h => h) ⟨Or.inl ⟨by rfl, ?_⟩, fun _ => rfl⟩ hS ?_
      rotate_left
      · intro w' hSw
        go_simp
        try with_reducible rfl
      simp only [Act.put, List.setIfInBounds_toArray, List.set_cons_zero, List.set_cons_succ]
      refine wpAnyS_put (i := 8) (v := ?_) rfl rfl rfl (by kernel_rfl) (by kernel_rfl) (by kernel_rfl) (fun _ _ _ h => h) ⟨Or.inl ⟨by rfl, ?_⟩, fun _ => rfl⟩ hS ?_
      rotate_left
      · intro w' hSw
        go_simp
        try with_reducible rfl
      simp only [Act.put, List.setIfInBounds_toArray, List.set_cons_zero, List.set_cons_succ]
      refine wpAnyS_put (i := 9) (v := ?_) rfl rfl rfl (by kernel_rfl) (by kernel_rfl) (by kernel_rfl) (fun _ _ _ h => h) ⟨Or.inl ⟨by rfl, ?_⟩, fun _ => rfl⟩ hS ?_
      rotate_left
      · intro w' hSw
        obtain ⟨_, q2, q3, qp, ql, qv, qu⟩ := HCL.out w' hSw
        go_simp
        try with_reducible rfl
      simp only [Act.put, List.setIfInBounds_toArray, List.set_cons_zero, List.set_cons_succ]
      refine wpAnyS_put (i := 10) (v := ?_) rfl rfl rfl (by kernel_rfl) (by kernel_rfl) (by kernel_rfl) (fun _ _ _ h => h) ⟨Or.inl ⟨by rfl, ?_⟩, fun _ => rfl⟩ hS ?_
      rotate_left
      · intro w' hSw
        go_simp
        try with_reducible rfl
      simp only [Act.put, List.setIfInBounds_toArray, List.set_cons_zero, List.set_cons_succ]
      refine wpAnyS_put (i := 11) (v := ?_) rfl rfl rfl (by kernel_rfl) (by kernel_rfl) (by kernel_rfl) (fun _ _ _ h => h) ⟨Or.inl ⟨by rfl, ?_⟩, fun _ => rfl⟩ hS ?_
      rotate_left
      · intro w' hSw
        go_simp
        try with_reducible rfl
      simp only [Act.put, List.setIfInBounds_toArray, List.set_cons_zero, List.set_cons_succ]
      refine wpAnyS_put (i := 12) (v := ?_) rfl rfl rfl (by kernel_rfl) (by kernel_rfl) (by kernel_rfl) (fun _ _ _ h => h) ⟨Or.inl ⟨by rfl, ?_⟩, fun _ => rfl⟩ hS ?_
      rotate_left
      · intro w' hSw
        obtain ⟨_, q2, q3, qp, ql, qv, qu⟩ := HCL.out w' hSw
        go_simp
        try with_reducible rfl
      simp only [Act.put, List.setIfInBounds_toArray, List.set_cons_zero, List.set_cons_succ]
      refine wpAnyS_put (i := 16) (v := ?_) rfl rfl rfl (by kernel_rfl) (by kernel_rfl) (by kernel_rfl) (fun _ _ _ h => h) ⟨Or.inl ⟨by rfl, ?_⟩, fun _ => rfl⟩ hS ?_
      rotate_left
      · intro w' hSw
        obtain ⟨_, q2, q3, qp, ql, qv, qu⟩ := HCL.out w' hSw
        go_simp
        try with_reducible rfl
      simp only [Act.put, List.setIfInBounds_toArray, List.set_cons_zero, List.set_cons_succ]
      refine wpAnyS_put (i := 17) (v := ?_) rfl rfl rfl (by kernel_rfl) (by kernel_rfl) (by kernel_rfl) (fun _ _ _ h => h) ⟨Or.inl ⟨by rfl, ?_⟩, fun _ => rfl⟩ hS ?_
      rotate_left
      · intro w' hSw
        go_simp
        try with_reducible rfl
      simp only [Act.put, List.setIfInBounds_toArray, List.set_cons_zero, List.set_cons_succ]
      refine wpAnyS_put (i := 18) (v := ?_) rfl rfl rfl (by kernel_rfl) (by kernel_rfl) (by kernel_rfl) (fun _ _ _ h => h) ⟨Or.inl ⟨by rfl, ?_⟩, fun _ => rfl⟩ hS ?_
      rotate_left
      · intro w' hSw
        go_simp
        try with_reducible rfl
      simp only [Act.put, List.setIfInBounds_toArray, List.set_cons_zero, List.set_cons_succ]
      refine wpAnyS_put (i := 19) (v := ?_) rfl rfl rfl (by kernel_rfl) (by kernel_rfl) (by kernel_rfl) (fun _ _ _ h => h) ⟨Or.inl ⟨by rfl, ?_⟩, fun _ => rfl⟩ hS ?_
      rotate_left
      · intro w' hSw
        go_simp
        try with_reducible rfl
      simp only [Act.put, List.setIfInBounds_toArray, List.set_cons_zero, List.set_cons_succ]
      refine wpAnyS_put (i := 20) (v := ?_) rfl rfl rfl (by kernel_rfl) (by kernel_rfl) (by kernel_rfl) (fun _ _ _ h => h) ⟨Or.inl ⟨by rfl, ?_⟩, fun _ => rfl⟩ hS ?_
      rotate_left
      · intro w' hSw
        go_simp
        try with_reducible rfl
      simp only [Act.put, List.setIfInBounds_toArray, List.set_cons_zero, List.set_cons_succ]
      refine wpAnyS_put (i := 21) (v := ?_) rfl rfl rfl (by kernel_rfl) (by kernel_rfl) (by kernel_rfl) (fun _ _ _ h => h) ⟨Or.inl ⟨by rfl, ?_⟩, fun _ => rfl⟩ hS ?_
      rotate_left
      · intro w' hSw
        obtain ⟨_, q2, q3, qp, ql, qv, qu⟩ := HCL.out w' hSw
        go_simp
        try with_reducible rfl
      simp only [Act.put, List.setIfInBounds_toArray, List.set_cons_zero, List.set_cons_succ]
      refine wpAnyS_one (i := 13) rfl (by kernel_rfl) (fun K hK => ?_)
      rw [if_pos (by rfl)]
      gi_wp2
      refine ⟨trivial, (callsIn_wide.2 (HI1.out _ g0)).mono ?_⟩
      rintro e w1 ⟨rfl, g1⟩
      have hS1 : Kept L wr w1 := Kept.of_none g1 _
      refine hK _ _ hS1 ?_
      clear hK
      refine wpAnyS_put (i := 14) (v := ?_) rfl rfl rfl (by kernel_rfl) (by kernel_rfl) (by kernel_rfl) (fun _ _ _ h => h) ⟨Or.inl ⟨by rfl, ?_⟩, fun _ => rfl⟩ hS1 ?_
      rotate_left
      · intro w' hSw
        go_simp
        try with_reducible rfl
      simp only [Act.put, List.setIfInBounds_toArray, List.set_cons_zero, List.set_cons_succ]
      refine wpAnyS_put (i := 15) (v := ?_) rfl rfl rfl (by kernel_rfl) (by kernel_rfl) (by kernel_rfl) (fun _ _ _ h => h) ⟨Or.inl ⟨by rfl, ?_⟩, fun _ => rfl⟩ hS1 ?_
      rotate_left
      · intro w' hSw
        go_simp
        try with_reducible rfl
      simp only [Act.put, List.setIfInBounds_toArray, List.set_cons_zero, List.set_cons_succ]
      refine wpAnyS_one (i := 22) rfl (by kernel_rfl) (fun K hK => ?_)
      rw [if_pos (by rfl)]
      gi_wp2
      refine ⟨trivial, (callsIn_wide.2 (HI2.out _ g1)).mono ?_⟩
      rintro e w2 ⟨rfl, g2⟩
      have hS2 : Kept L wr w2 := Kept.of_none g2 _
      refine hK _ _ hS2 ?_
      clear hK
      refine wpAnyS_put (i := 23) (v := ?_) rfl rfl rfl (by kernel_rfl) (by kernel_rfl) (by kernel_rfl) (fun _ _ _ h => h) ⟨Or.inl ⟨by rfl, ?_⟩, fun _ => rfl⟩ hS2 ?_
      rotate_left
      · intro w' hSw
        go_simp
        try with_reducible rfl
      simp only [Act.put, List.setIfInBounds_toArray, List.set_cons_zero, List.set_cons_succ]
      have hj2 : J (i - fr) w2 := HJ.out _ _ _ hj ⟨g2.os, g2.tape, g2.output, g2.size, fun b hb => g2.block b (Nat.lt_of_lt_of_le hb HK.out.size) (by simp)⟩
      obtain ⟨fn, tmps, assign, body, hy, hR⟩ := yield_n (m := 2) (HY0.out w2 hj2)
      refine wpAnyS_one (i := 24) rfl (by kernel_rfl) (fun K hK => ?_)
      rw [if_pos (by rfl)]
      gi_wp2
      refine hR.mono ?_
      rintro e w3 ⟨hk3, (⟨rfl, hj3⟩ | ⟨rfl, hx3⟩)⟩
      · have hS3 : Kept L wr w3 := hS2.trans hk3
        refine hK _ _ hS3 ?_
        clear hK
        refine wpAnyS_put (i := 25) (v := ?_) rfl rfl rfl (by kernel_rfl) (by kernel_rfl) (by kernel_rfl) (fun _ _ _ h => h) ⟨Or.inl ⟨by rfl, ?_⟩, fun _ => rfl⟩ hS3 ?_
        rotate_left
        · intro w' hSw
          go_simp
          try with_reducible rfl
        simp only [Act.put, List.setIfInBounds_toArray, List.set_cons_zero, List.set_cons_succ]
        refine wpAnyS_done (by kernel_rfl) ?_ _
        obtain ⟨k1', k2', k3', kf', kc', kr', kt'⟩ := HKP.out w3 (HK.out.trans hS3)
        have HK3 : Hid (Kept L W w3) := HK.out.trans hS3
        clear kf' kc' kr' kt' hS3
        gi_wp2
        exact ⟨⟨i + 1, by go_num, by omega, by omega, by rw [show i + 1 - fr = i - fr + 1 from by omega]; exact hj3, HK3⟩, by simp [intOf]; omega⟩
      · have hS3 : Kept L wr w3 := hS2.trans hk3
        refine hK _ _ hS3 ?_
        clear hK
        refine wpAnyS_put (i := 25) (v := ?_) rfl rfl rfl (by kernel_rfl) (by kernel_rfl) (by kernel_rfl) (fun _ _ _ h => h) ⟨Or.inl ⟨by rfl, ?_⟩, fun _ => rfl⟩ hS3 ?_
        rotate_left
        · intro w' hSw
          go_simp
          try with_reducible rfl
        simp only [Act.put, List.setIfInBounds_toArray, List.set_cons_zero, List.set_cons_succ]
        refine wpAnyS_done (by kernel_rfl) ?_ _
        have HK3 : Hid (Kept L W w3) := HK.out.trans hS3
        gi_wp2
        refine bodyPost_ret (results_none rfl _ _ _) rfl ?_
        exact ⟨⟨_, rfl⟩, HK3.out, .inr ⟨i - fr, by omega, hx3⟩⟩
    · obtain rfl : i = ls.length := by omega
      have hli : ¬ (ls.length : Int) < (ls.length : Int) := by omega
      have HLL : Hid (Calls Tryz.prog 160 #[.pointer (some ⟨f, 0, none⟩), .pointer (some ⟨c, 0, none⟩)] wr _) := lastLine_any f ag c ac nm kind _ sv x m wr kf kc HX.out hm kt
      have hy0 := HY.out (ls.length - fr)
      have hline : lineAt kind ls x ls.length = lastP kind x := by unfold lineAt; rw [if_neg (by omega)]
      rw [show fr + (ls.length - fr) = ls.length from by omega, hline] at hy0
      have HY0 : Hid (∀ A, J (ls.length - fr) A → YieldAt Fence.wide 0 Tryz.prog l #[.string (B (lastP kind x))] A fun e B => Kept L A B ∧ ((e = .returned (.bool true) ∧ J (ls.length - fr + 1) B) ∨ (e = .returned (.bool false) ∧ Jx (ls.length - fr) B))) := fun A => hy0 A (by omega)
      clear hy0 hline kf kc kr kt
      gi_wp2
      refine ⟨trivial, (callsIn_wide.2 HLL.out).mono ?_⟩
      rintro e w1 ⟨rfl, g1⟩
      have hj1 : J (ls.length - fr) w1 := HJ.out _ _ _ hj ⟨g1.os, g1.tape, g1.output, g1.size, fun b hb => g1.block b (Nat.lt_of_lt_of_le hb HK.out.size) (by simp)⟩
      obtain ⟨fn, tmps, assign, body, hy, hR⟩ := yield_n (m := 2) (HY0.out w1 hj1)
      gi_wp2
      refine hR.mono ?_
      rintro e w3 ⟨hk3, hend⟩
      have HK3 : Hid (Kept L W w3) := (HK.out.trans (Kept.of_none g1 _)).trans hk3
      rcases hend with ⟨rfl, hj3⟩ | ⟨rfl, hx3⟩
      · gi_wp2
        go_end0
        exact ⟨⟨_, rfl⟩, HK3.out, .inl (by rw [show ls.length + 1 - fr = ls.length - fr + 1 from by omega]; exact hj3)⟩
      · gi_wp2
        go_end0
        exact ⟨⟨_, rfl⟩, HK3.out, .inr ⟨ls.length - fr, by omega, hx3⟩⟩

end Go.Proofs.YtcfdemhokbddiaaGreatDoor

/-
  The series of a family, gone through from one on; what linesFrom and seriesFrom give.
-/
namespace Go.Proofs.YtcfdemhokbddiaaGreatDoor
open Go.RowKit Go.Shelf

attribute [local go_sem] Oper.semAt_some

set_option maxRecDepth 100000 in
set_option maxHeartbeats 1000000 in
theorem values1_any (l bV : Nat) (v : Value) (ps : List Nat) (L : List Nat) (J Jx : Nat → World → Prop) (W : World)
    (h1 : W.cell? ⟨bV, 0, none⟩ = some v) (hv : PtrSl W v ps) (hl : ps.length ≤ 100) (hL : ∀ b ∈ L, b ∉ slBlk v)
    (hY : ∀ k A, k < ps.length → J k A → YieldAt Fence.wide 0 Tryz.prog l #[.pointer (some ⟨ps.getD k 0, 0, none⟩)] A fun e B => Kept L A B ∧ ((e = .returned (.bool true) ∧ J (k + 1) B) ∨ (e = .returned (.bool false) ∧ Jx k B)))
    (h0 : J 0 W) :
    Calls Tryz.prog 166 #[.func (.yield l) #[] #[], .pointer (some ⟨bV, 0, none⟩)] W fun e B => (∃ v, e = .returned v) ∧ Kept L W B ∧ (J ps.length B ∨ ∃ k, k < ps.length ∧ Jx k B) := by
  have HP : Hid (∀ wr, Kept L W wr → PtrSl wr v ps) := fun wr hk => hv.frame hk.size fun b hb => hk.block b (hv.lt b hb) (fun h => hL b h hb)
  have HY : Hid (∀ k A, k < ps.length → J k A → YieldAt Fence.wide 0 Tryz.prog l #[.pointer (some ⟨ps.getD k 0, 0, none⟩)] A fun e B => Kept L A B ∧ ((e = .returned (.bool true) ∧ J (k + 1) B) ∨ (e = .returned (.bool false) ∧ Jx k B))) := hY
  obtain ⟨sa, cap, rfl, _, _⟩ := hv
  clear hY hL
  refine (callsIn_wide (n := 3)).1 ?_
  refine callsIn_of_wp Tryz.func166 rfl trivial ?_ rfl
  simp only [Tryz.ntmps166, List.size_toArray, List.length_cons, List.length_nil, Nat.reduceAdd, Nat.reduceSub, Array.replicate_succ, Array.replicate_zero, List.push_toArray, List.append_toArray, List.nil_append, List.cons_append]
  gi_wp2
  gi_loopw [7] (fun v wr => ∃ i : Nat, v = .int .i64 (i : Int) ∧ i ≤ ps.length ∧ J i wr ∧ Hid (Kept L W wr)) (fun v _ => ps.length - (intOf v).toNat)
  case atStart => exact ⟨0, rfl, Nat.zero_le _, h0, Kept.refl _ _⟩
  case round =>
    obtain ⟨i, rfl, hi, hj, HK⟩ := hrel
    clear h1
    by_cases hlt : i < ps.length
    · have hli : (i : Int) < (ps.length : Int) := by omega
      obtain ⟨sa', cap', e, _, hp⟩ := HP.out wr HK.out
      simp only [Value.slice.injEq, true_and] at e
      obtain ⟨rfl, rfl⟩ := e
      obtain ⟨b, off, rfl, _, hcell⟩ : ∃ b off, sa = some ⟨b, off, none⟩ ∧ b < wr.heap.size ∧ ∀ k (h : k < ps.length), wr.cell? ⟨b, off + k, none⟩ = some (.pointer (some ⟨ps[k], 0, none⟩)) := by
        rcases hp with h | h
        · rw [h] at hlt; simp at hlt
        · exact h
      have kv : wr.cell? ⟨b, off + i, none⟩ = some (.pointer (some ⟨ps.getD i 0, 0, none⟩)) := by
        rw [hcell i hlt]; simp [hlt]
      obtain ⟨fn, tmps, assign, body, hy, hR⟩ := yield_n (m := 2) (HY.out i wr hlt hj)
      generalize ps.getD i 0 = pi at kv hy
      clear hcell hp
      gi_wp2
      refine hR.mono ?_
      rintro e w3 ⟨hk3, hend⟩
      have HK3 : Hid (Kept L W w3) := HK.out.trans hk3
      rcases hend with ⟨rfl, hj3⟩ | ⟨rfl, hx3⟩
      · gi_wp2
        exact ⟨⟨i + 1, by go_num, by omega, hj3, HK3⟩, by simp [intOf]; omega⟩
      · gi_wp2
        refine bodyPost_ret (results_none rfl _ _ _) rfl ?_
        exact ⟨⟨_, rfl⟩, HK3.out, .inr ⟨i, by omega, hx3⟩⟩
    · obtain rfl : i = ps.length := by omega
      have hli : ¬ (ps.length : Int) < (ps.length : Int) := by omega
      gi_wp2
      go_end0
      exact ⟨⟨_, rfl⟩, HK.out, .inl hj⟩

theorem alloc_cell (w : World) (v : Value) (t : TypeId) : (w.alloc (.cells #[v] t)).cell? ⟨w.heap.size, 0, none⟩ = some v := by
  unfold World.cell?
  simp only [alloc_new w (.cells #[v] t) _ rfl]
  rfl

set_option maxHeartbeats 400000 in
theorem linesFrom_any (f c : Nat) (fr : Int) (w : World) : Calls Tryz.prog 132 #[.pointer (some ⟨f, 0, none⟩), .pointer (some ⟨c, 0, none⟩), .int .i64 fr] w fun e w' =>
    e = .returned (.func (.func 159) #[] #[.pointer (some ⟨w.heap.size + 2, 0, none⟩), .pointer (some ⟨w.heap.size, 0, none⟩), .pointer (some ⟨w.heap.size + 1, 0, none⟩)]) ∧
    w' = ((w.alloc (.cells #[.pointer (some ⟨f, 0, none⟩)] 112)).alloc (.cells #[.pointer (some ⟨c, 0, none⟩)] 120)).alloc (.cells #[.int .i64 fr] 3) := by
  go_enter Tryz.func132, Tryz.ntmps132
  go_wp2
  go_ret
  exact ⟨rfl, rfl⟩

set_option maxHeartbeats 400000 in
theorem values_any (sa : Option Addr) (n cap : Nat) (w : World) : Calls Tryz.prog 158 #[.slice sa n cap] w fun e w' => e = .returned (.func (.func 166) #[] #[.pointer (some ⟨w.heap.size, 0, none⟩)]) ∧ w' = w.alloc (.cells #[.slice sa n cap] 169) := by
  go_enter Tryz.func158, Tryz.ntmps158
  go_wp2
  go_ret
  exact ⟨rfl, rfl⟩

set_option maxHeartbeats 400000 in
theorem seriesFrom_any (f ag k : Nat) (nm : List UInt8) (kind : Int) (lv sv : Value) (ps : List Nat) (w : World) (hf : w.heap[f]? = some (famObj ag nm kind lv sv)) (hsv : w.ownsRow 0 120 1 sv ps.length (ptrs ps)) (hk : k ≤ ps.length) (hl : ps.length ≤ 100) :
    Calls Tryz.prog 131 #[.pointer (some ⟨f, 0, none⟩), .int .i64 (k : Int)] w fun e w' => ∃ v, e = .returned (.func (.func 166) #[] #[.pointer (some ⟨w.heap.size, 0, none⟩)]) ∧ w'.cell? ⟨w.heap.size, 0, none⟩ = some v ∧ PtrSl w' v (ps.drop k) ∧ (∀ b ∈ slBlk v, b ∈ sv.ownBlock.toList) ∧ w.heap.size < w'.heap.size ∧ w.grownBy w' none := by
  obtain ⟨_, _, _, c3, _⟩ := fam_cells hf
  have HSV : Hid (w.ownsRow 0 120 1 sv ps.length (ptrs ps)) := hsv
  obtain ⟨sa, sc, rfl, hsc, hsn⟩ := own_shape1 hsv
  have hk' : (k : Int) ≤ (ps.length : Int) := by omega
  have hk2 : (k : Int) ≤ (sc : Int) := by omega
  have HD : Hid ((ps.drop k).length = ps.length - k) := by show _ = _; simp
  clear hf hsv
  rcases hsn with ⟨rfl, hn0, rfl⟩ | ⟨g, rfl, hg⟩
  · obtain rfl : ps = [] := List.eq_nil_of_length_eq_zero hn0
    obtain rfl : k = 0 := by simpa using hk
    go_enter Tryz.func131, Tryz.ntmps131
    go_wp2_with fail
    refine (values_any _ _ _ _).mono ?_
    rintro e w1 ⟨rfl, rfl⟩
    go_wp2
    go_ret
    exact ⟨_, rfl, alloc_cell _ _ _, ⟨none, 0, rfl, by simp, Or.inl rfl⟩, by simp [slBlk], by simp, gb_alloc (gb_refl _ _) _⟩
  · have HC : Hid (∀ j (h : j < ps.length), w.cell? ⟨g, j, none⟩ = some (.pointer (some ⟨ps[j], 0, none⟩))) := fun j h => ptrsAt_of HSV.out j h
    by_cases hcap : sc = k
    · subst hcap
      have HE : Hid (ps.drop sc = []) := List.drop_of_length_le hsc
      go_enter Tryz.func131, Tryz.ntmps131
      go_wp2_with fail
      refine (values_any _ _ _ _).mono ?_
      rintro e w1 ⟨rfl, rfl⟩
      go_wp2
      go_ret
      refine ⟨_, rfl, alloc_cell _ _ _, ⟨some ⟨g, 0, none⟩, 0, by rw [HE.out]; rfl, by rw [HE.out]; simp, Or.inl HE.out⟩, ?_, by simp, gb_alloc (gb_refl _ _) _⟩
      intro b hb
      simp [slBlk] at hb
    · go_enter Tryz.func131, Tryz.ntmps131
      go_wp2_with fail
      refine (values_any _ _ _ _).mono ?_
      rintro e w1 ⟨rfl, rfl⟩
      go_wp2
      go_ret
      refine ⟨_, rfl, alloc_cell _ _ _, ⟨some ⟨g, k, none⟩, sc - k, by rw [HD.out], by rw [HD.out]; omega, Or.inr ⟨g, k, rfl, by simp; omega, fun j hj => ?_⟩⟩, ?_, by simp, gb_alloc (gb_refl _ _) _⟩
      · have hj' : k + j < ps.length := by rw [HD.out] at hj; omega
        have := gb_cell (gb_alloc (gb_refl w none) (.cells #[.slice (some ⟨g, k, none⟩) (ps.length - k) (sc - k)] 169)) (HC.out (k + j) hj') (by simp)
        rw [this]; simp
      · intro b hb
        simp only [slBlk] at hb
        split at hb
        · simp at hb
        · simpa [Value.ownBlock] using hb

end Go.Proofs.YtcfdemhokbddiaaGreatDoor
