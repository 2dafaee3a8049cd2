/-
  A family: its own line handed on, if it comes next; then its series.
-/
import Derived.Test.YtcfdemhokbddiaaGreatDoorQNi

namespace Go.Proofs.YtcfdemhokbddiaaGreatDoor
open Go.RowKit Go.Shelf

attribute [local go_sem] Oper.semAt_some

def yPost (A1 A2 : Act → World → Prop) : Exit → Act → World → Prop
  | .normal, a, w => A1 a w
  | .ret, a, w => A2 a w
  | _, _, _ => False

section
variable {l b3 b4 m : Nat} {L : List Nat} {J Jx : Nat → World → Prop} {W2 : World} {fams : List GF} {its : List (Pl × List UInt8)}

set_option maxRecDepth 100000 in
set_option maxHeartbeats 2000000 in
theorem lnY (hc : LCtx l b3 b4 L J Jx W2 fams its m) (n : Nat) (A : World) (pf ps pl : Nat) (hfi : pf < fams.length) (g : GF) (hg : fams[pf] = g) (hp : (ps = 0 ∧ pl = 0) ∨ (1 ≤ ps ∧ ps ≤ g.ser.length ∧ pl ≤ g.ls.length)) (hfb : pf ≤ 100)
    (h : PI b4 L J W2 fams its ⟨pf, ps, pl⟩ A) (sb so sn sc i : Nat) (hi : i < sn) (hcell : A.cell? ⟨sb, so + i, none⟩ = some (.pointer (some ⟨g.b, 0, none⟩))) (Ds : List Nat) (hDs : DefOk W2.heap.size A Ds) (t0 t1 t2 t5 t6 t7 t8 t9 t10 t11 t12 t13 t17 t18 t19 t20 t21 t22 t23 t24 t25 t26 t27 t28 t29 t30 t31 t32 t33 t34 t35 t36 t37 t38 t39 t40 t41 t42 t43 t44 t45 t46 t47 t48 t49 t50 t51 t52 t53 t54 t55 t56 t57 t58 t59 t60 t61 t62 t63 : Value) (A1 A2 : Act → World → Prop)
    (hQ1 : ∀ a B Ds', AxY b3 b4 (.slice (some ⟨sb, so, none⟩) sn sc) (.int .i64 (sn : Int)) (.int .i64 (i : Int)) Ds' a → Kept (b4 :: L) A B → DefOk W2.heap.size B Ds' → PI b4 L J W2 fams its ⟨pf + 1, 0, 0⟩ B → A1 a B) (hQ2 : ∀ a B Ds', a.defers = dsOf Ds' → DefOk W2.heap.size B Ds' → PX b4 L Jx W2 its B → A2 a B) :
    (cInn (cY (Tryz.f129.body.getD .skip))).wpIn Fence.wide n Tryz.prog (yPost A1 A2) { tmps := #[t0, t1, t2, .pointer (some ⟨b3, 0, none⟩), .pointer (some ⟨b4, 0, none⟩), t5, t6, t7, t8, t9, t10, t11, t12, t13, .slice (some ⟨sb, so, none⟩) sn sc, .int .i64 (sn : Int), .int .i64 (i : Int), t17, t18, t19, t20, t21, t22, t23, t24, t25, t26, t27, t28, t29, t30, t31, t32, t33, t34, t35, t36, t37, t38, t39, t40, t41, t42, t43, t44, t45, t46, t47, t48, t49, t50, t51, t52, t53, t54, t55, t56, t57, t58, t59, t60, t61, t62, t63], defers := dsOf Ds } A := by
  have hgm : g ∈ fams := by rw [← hg]; exact List.getElem_mem hfi
  have HPI : Hid (PI b4 L J W2 fams its ⟨pf, ps, pl⟩ A) := h
  obtain ⟨done, e1, hj, hat, hk⟩ := h
  have hgat := hc.fam hk hgm
  obtain ⟨a0, a1, a2⟩ := at_cells hat
  have hAl : b4 < A.heap.size := lt_of hat
  have hii : (i : Int) < (sn : Int) := by omega
  have gA : A.grownBy (A.alloc (.cells #[.pointer (some ⟨g.b, 0, none⟩)] 112)) none := gb_alloc (gb_refl _ _) _
  obtain ⟨A', hA'⟩ : ∃ A', A.alloc (.cells #[.pointer (some ⟨g.b, 0, none⟩)] 112) = A' := ⟨_, rfl⟩
  have x6 : A'.cell? ⟨A.heap.size, 0, none⟩ = some (.pointer (some ⟨g.b, 0, none⟩)) := by rw [← hA']; exact alloc_cell _ _ _
  rw [hA'] at gA
  have HPI1 : Hid (PI b4 L J W2 fams its ⟨pf, ps, pl⟩ A') := PI.below hc HPI.out hk.size ⟨gA.os, gA.tape, gA.output, gA.size, fun b hb => gA.block b hb (by simp)⟩
  have HD1 : Hid (DefOk W2.heap.size A' Ds) := hDs.kept (Kept.of_none gA []) (by simp)
  have HC : Hid (LCtx l b3 b4 L J Jx W2 fams its m) := hc
  have HKA : Hid (Kept (b4 :: L) W2 A) := hk
  have HGA : Hid (A.grownBy A' none) := gA
  have HNM : Hid (fams[pf] = g) := hg
  have HX6 : Hid (A'.cell? ⟨A.heap.size, 0, none⟩ = some (.pointer (some ⟨g.b, 0, none⟩))) := x6
  have HLLT := hc.llt
  have HQ1 : Hid (∀ a B Ds', AxY b3 b4 (.slice (some ⟨sb, so, none⟩) sn sc) (.int .i64 (sn : Int)) (.int .i64 (i : Int)) Ds' a → Kept (b4 :: L) A B → DefOk W2.heap.size B Ds' → PI b4 L J W2 fams its ⟨pf + 1, 0, 0⟩ B → A1 a B) := hQ1
  have HQ2 : Hid (∀ a B Ds', a.defers = dsOf Ds' → DefOk W2.heap.size B Ds' → PX b4 L Jx W2 its B → A2 a B) := hQ2
  have HA' : Hid (A.alloc (.cells #[.pointer (some ⟨g.b, 0, none⟩)] 112) = A') := hA'
  change (Code.seq (cFst (cInn (cY (Tryz.f129.body.getD .skip)))) (Code.seq (cFst (cSnd (cInn (cY (Tryz.f129.body.getD .skip))))) (cZ (Tryz.f129.body.getD .skip)))).wpIn _ _ _ _ _ _
  refine wpIn_seq_k fun K1 hK1 => ?_
  have HK1 : Hid (∀ a w, (Code.seq (cFst (cSnd (cInn (cY (Tryz.f129.body.getD .skip))))) (cZ (Tryz.f129.body.getD .skip))).wpIn Fence.wide n Tryz.prog (yPost A1 A2) a w → K1 a w) := hK1
  clear hK1 hc e1 hj hat hk hgat hQ1 hQ2 hDs gA x6 hA' a0 a1 a2
  dsimp only [cY, cX, cInn, cFst, cSnd, Tryz.f129, Option.getD]
  gi_wp2
  refine HK1.out _ _ ?_
  rw [HA'.out]
  clear hcell HK1
  refine wpIn_seq_k fun K2 hK2 => ?_
  have HK2 : Hid (∀ a w, (cZ (Tryz.f129.body.getD .skip)).wpIn Fence.wide n Tryz.prog (yPost A1 A2) a w → K2 a w) := hK2
  clear hK2
  obtain ⟨done, e1, hj, hat, hk⟩ := HPI1.out
  have HK' : Hid (Kept (b4 :: L) W2 A') := hk
  obtain ⟨a0, a1, a2⟩ := at_cells hat
  have HAT' : Hid (A'.heap[b4]? = some (atObj ⟨pf, ps, pl⟩)) := hat
  rcases hp with ⟨hs0, hl0⟩ | ⟨hs1, hs2, hl2⟩
  · subst hs0 hl0
    have hgat' := HC.out.fam hk hgm
    have htn := HC.out.names g hgm
    have HTI : Hid (∀ W, A'.grownBy W none → Calls Tryz.prog 130 #[.pointer (some ⟨g.b, 0, none⟩)] W fun e w' => e = .returned (.string (B (titleP g.nm g.kind))) ∧ A'.grownBy w' none) := fun W gW =>
      (title_any g.b g.age g.nm g.kind g.lv g.sv W ((gW.block _ (lt_of hgat'.blk) (by simp)).trans hgat'.blk) htn).mono fun e w' ⟨q1, q2⟩ => ⟨q1, gb_trans gW q2⟩
    have HTL : Hid (itFrom (famT fams) ⟨pf, 0, 0⟩ = (⟨pf, 0, 0⟩, titleP g.nm g.kind) :: itFrom (famT fams) ⟨pf, 1, 0⟩) := by
      show _ = _
      subst hg
      exact fam_title hfi
    have hnL : b3 ∉ L ∧ b4 ∉ L ∧ A.heap.size ∉ L := ⟨fun hm => by have := HC.out.lL _ hm; omega, fun hm => by have := HC.out.lL _ hm; have := HC.out.b34; omega, fun hm => by have := HC.out.lL _ hm; have := HC.out.b34; omega⟩
    have HCL : Hid (∀ w', Kept L A' w' → w'.cell? ⟨b3, 0, none⟩ = some (.func (.yield l) #[] #[]) ∧ w'.cell? ⟨b4, 0, none⟩ = some (.int .i64 (pf : Int)) ∧ w'.cell? ⟨b4, 1, none⟩ = some (.int .i64 0) ∧ w'.cell? ⟨b4, 2, none⟩ = some (.int .i64 0) ∧ w'.cell? ⟨A.heap.size, 0, none⟩ = some (.pointer (some ⟨g.b, 0, none⟩))) := fun w' hw => by
      have hce : ∀ b o v, A'.cell? ⟨b, o, none⟩ = some v → b ∉ L → w'.cell? ⟨b, o, none⟩ = some v := fun b o v hv hn => by
        rw [World.cell?_of_block (a := ⟨b, o, none⟩) (hw.block b (World.block_lt_of_cell? _ _ hv) hn)]; exact hv
      exact ⟨hce _ _ _ (HC.out.cell3 hk) hnL.1, hce _ _ _ a0 hnL.2.1, hce _ _ _ a1 hnL.2.1, hce _ _ _ a2 hnL.2.1, hce _ _ _ HX6.out hnL.2.2⟩
    generalize titleP g.nm g.kind = ttl at HTI HTL
    simp only [Int.natCast_zero] at a1 a2
    clear e1 hj hat hk hgat'
    dsimp only [cY, cX, cInn, cFst, cSnd, Tryz.f129, Option.getD]
    gi_wp2
    refine region_held (fun w' => Kept L A' w') (by kernel_rfl) ?_
    have g0 : A'.grownBy A'.drew none := gb_drew (gb_refl A' none)
    have hS : Kept L A' A'.drew := Kept.of_none g0 _
    refine wpAnyS_put (i := 0) (v := ?_) rfl rfl rfl (by kernel_rfl) (by kernel_rfl) (by kernel_rfl) (fun _ _ _ h => h) ⟨Or.inl ⟨by rfl, ?_⟩, fun _ => rfl⟩ hS ?_
    rotate_left
    · intro w' hSw
      obtain ⟨r1, r2, r3, r4, r5⟩ := HCL.out w' hSw
      go_simp
      try with_reducible rfl
    simp only [Act.put, List.setIfInBounds_toArray, List.set_cons_zero, List.set_cons_succ]
    refine wpAnyS_put (i := 1) (v := ?_) rfl rfl rfl (by kernel_rfl) (by kernel_rfl) (by kernel_rfl) (fun _ _ _ h => h) ⟨Or.inl ⟨by rfl, ?_⟩, fun _ => rfl⟩ hS ?_
    rotate_left
    · intro w' hSw
      obtain ⟨r1, r2, r3, r4, r5⟩ := HCL.out w' hSw
      go_simp
      try with_reducible rfl
    simp only [Act.put, List.setIfInBounds_toArray, List.set_cons_zero, List.set_cons_succ]
    refine wpAnyS_put (i := 2) (v := ?_) rfl rfl rfl (by kernel_rfl) (by kernel_rfl) (by kernel_rfl) (fun _ _ _ h => h) ⟨Or.inl ⟨by rfl, ?_⟩, fun _ => rfl⟩ hS ?_
    rotate_left
    · intro w' hSw
      obtain ⟨r1, r2, r3, r4, r5⟩ := HCL.out w' hSw
      go_simp
      try with_reducible rfl
    simp only [Act.put, List.setIfInBounds_toArray, List.set_cons_zero, List.set_cons_succ]
    refine wpAnyS_one (i := 3) rfl (by kernel_rfl) (fun K hK => ?_)
    rw [if_pos (by rfl)]
    gi_wp2
    refine ⟨trivial, fun h => (by cases h), (callsIn_wide.2 (HTI.out _ g0)).mono ?_⟩
    rintro e w1 ⟨rfl, g1⟩
    have hS1 : Kept L A' w1 := Kept.of_none g1 _
    refine hK _ _ hS1 ?_
    clear hK
    obtain ⟨done, e1, hat1, hk1, hy⟩ := HPI1.out.yield HC.out HTL.out g1 (n - 1)
    obtain ⟨fn, tmps, assign, body, hyr, hR⟩ := hy
    unfold plV at hyr
    simp only [Int.natCast_zero] at hyr
    have HE1 : Hid (its = done ++ itFrom (famT fams) ⟨pf, 0, 0⟩) := e1
    have HAT1 : Hid (w1.heap[b4]? = some (atObj ⟨pf, 0, 0⟩)) := hat1
    have HKW1 : Hid (Kept (b4 :: L) W2 w1) := hk1
    clear e1 hat1 hk1
    refine wpAnyS_one (i := 4) rfl (by kernel_rfl) (fun K hK => ?_)
    rw [if_pos (by rfl)]
    gi_wp2
    refine ⟨fun h => (by cases h), hR.mono ?_⟩
    rintro e w3 ⟨hk3, (⟨rfl, hj3⟩ | ⟨rfl, hx3⟩)⟩
    · have hS3 : Kept L A' w3 := hS1.trans hk3
      refine hK _ _ hS3 ?_
      clear hK
      refine wpAnyS_put (i := 5) (v := ?_) rfl rfl rfl (by kernel_rfl) (by kernel_rfl) (by kernel_rfl) (fun _ _ _ h => h) ⟨Or.inl ⟨by rfl, ?_⟩, fun _ => rfl⟩ hS3 ?_
      rotate_left
      · intro w' hSw
        go_simp
        try with_reducible rfl
      simp only [Act.put, List.setIfInBounds_toArray, List.set_cons_zero, List.set_cons_succ]
      refine wpAnyS_done (by kernel_rfl) ?_ _
      have hat3 := (hk3.block b4 (lt_of HAT1.out) hnL.2.1).trans HAT1.out
      obtain ⟨d0, d1, d2⟩ := at_cells hat3
      have f1 := at_froz hat3 1
      simp only [Int.natCast_zero] at d1
      have HAT3 : Hid (w3.heap[b4]? = some (atObj ⟨pf, 0, 0⟩)) := hat3
      have HK3 : Hid (Kept L w1 w3) := hk3
      have HG1 : Hid (A'.grownBy w1 none) := g1
      clear hat3 hk3 g1 g0 hS hS1 hS3 hyr hR a0 a1 a2
      gi_wp2
      refine HK2.out _ _ ?_
      have hg4 := gb_setCell w3 b4 1 (.int .i64 1)
      have hk4 : Kept (b4 :: L) w3 (w3.setCell ⟨b4, 1, none⟩ (.int .i64 1)) := Kept.of_some hg4 _ (Or.inl (by simp))
      have hk34 : Kept (b4 :: L) A' (w3.setCell ⟨b4, 1, none⟩ (.int .i64 1)) := (((Kept.of_none HG1.out _).trans HK3.out).mono fun b hb => Or.inl (by simp [hb])).trans hk4
      have hpi4 : PI b4 L J W2 fams its ⟨pf, 1, 0⟩ (w3.setCell ⟨b4, 1, none⟩ (.int .i64 1)) := by
        refine ⟨done ++ [(⟨pf, 0, 0⟩, ttl)], by rw [HE1.out, HTL.out]; simp, ?_, ?_, HK'.out.trans hk34⟩
        · rw [List.length_append]
          refine HC.out.hJ _ _ _ hj3 ((Kept.of_some hg4 [b4] (Or.inl (by simp))).below ?_ fun b hb => ?_)
          · have := HC.out.b34; have := lt_of HAT3.out; omega
          · have e : b = b4 := by simpa using hb
            have := HC.out.b34; omega
        · rw [text_set HAT3.out]; rfl
      have hx6 : (w3.setCell ⟨b4, 1, none⟩ (.int .i64 1)).cell? ⟨A.heap.size, 0, none⟩ = some (.pointer (some ⟨g.b, 0, none⟩)) := by
        rw [World.cell?_of_block (a := ⟨A.heap.size, 0, none⟩) (hk34.block A.heap.size (World.block_lt_of_cell? _ _ HX6.out) (fun hm => by have := HLLT _ hm; have := HKA.out.size; omega))]
        exact HX6.out
      refine lnZ HC.out n _ pf 0 0 A.heap.size hfi g HNM.out (Nat.zero_le _) (Nat.zero_le _) (fun _ => rfl) hfb hpi4 hx6 HKA.out.size _ _ _ Ds (HD1.out.kept hk34 HLLT) _ _ _ _ _ _ _ _ _ _ _ _ _ _ _ _ _ _ _ _ _ _ _ _ _ _ _ _ _ _ _ _ _ _ _ _ _ _ _ _ _ _ _ _ _ _ _ _ _ _ _ _ _ _ _ _ _ _ _ ?_ ?_
      · intro a C Ds' hax hkC hdC hpiC
        exact HQ1.out a C Ds' hax (((Kept.of_none HGA.out _).trans hk34).trans hkC) hdC hpiC
      · exact fun a C Ds' h1 h2 h3 => HQ2.out a C Ds' h1 h2 h3
    · have hS3 : Kept L A' w3 := hS1.trans hk3
      refine hK _ _ hS3 ?_
      clear hK
      refine wpAnyS_put (i := 5) (v := ?_) rfl rfl rfl (by kernel_rfl) (by kernel_rfl) (by kernel_rfl) (fun _ _ _ h => h) ⟨Or.inl ⟨by rfl, ?_⟩, fun _ => rfl⟩ hS3 ?_
      rotate_left
      · intro w' hSw
        go_simp
        try with_reducible rfl
      simp only [Act.put, List.setIfInBounds_toArray, List.set_cons_zero, List.set_cons_succ]
      refine wpAnyS_done (by kernel_rfl) ?_ _
      have HK3 : Hid (Kept (b4 :: L) w1 w3) := hk3.mono fun b hb => Or.inl (by simp [hb])
      have HG1 : Hid (A'.grownBy w1 none) := g1
      clear hk3 g1 g0 hS hS1 hS3 hyr hR a0 a1 a2
      gi_wp2
      have hk03 : Kept (b4 :: L) A' w3 := (Kept.of_none HG1.out _).trans HK3.out
      exact HQ2.out _ _ Ds rfl (HD1.out.kept hk03 HLLT) ⟨⟨done.length, by rw [HE1.out, HTL.out]; simp, hx3⟩, HK'.out.trans hk03⟩
  · obtain ⟨s, rfl⟩ : ∃ s, ps = s + 1 := ⟨ps - 1, by omega⟩
    have hd1 : ((s + 1 : Nat) : Int) = (s : Int) + 1 := by omega
    have hs1' : ¬ (s : Int) + 1 = 0 := by omega
    simp only [hd1] at a1
    clear e1 hj hat hk
    dsimp only [cY, cX, cInn, cFst, cSnd, Tryz.f129, Option.getD]
    gi_wp2
    refine HK2.out _ _ ?_
    refine lnZ HC.out n A' pf s pl A.heap.size hfi g HNM.out (by omega) hl2 (fun e => by omega) hfb HPI1.out HX6.out HKA.out.size _ _ _ Ds HD1.out _ _ _ _ _ _ _ _ _ _ _ _ _ _ _ _ _ _ _ _ _ _ _ _ _ _ _ _ _ _ _ _ _ _ _ _ _ _ _ _ _ _ _ _ _ _ _ _ _ _ _ _ _ _ _ _ _ _ _ ?_ ?_
    · intro a C Ds' hax hkC hdC hpiC
      exact HQ1.out a C Ds' hax ((Kept.of_none HGA.out _).trans hkC) hdC hpiC
    · exact fun a C Ds' h1 h2 h3 => HQ2.out a C Ds' h1 h2 h3
end

end Go.Proofs.YtcfdemhokbddiaaGreatDoor
