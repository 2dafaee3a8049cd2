/-
  A moment's lines from a place on: the whole function, as an iterator.
-/
import Derived.Test.YtcfdemhokbddiaaGreatDoorQNk

namespace Go.Proofs.YtcfdemhokbddiaaGreatDoor
open Go.RowKit Go.Shelf

attribute [local go_sem] Oper.semAt_some

/-- A frame that has marks alone among its deferred calls leaves. -/
theorem leaves_marks {n k : Nat} {fn : Func} {tmps : Array Value} {v : Value} {R : Ending → World → Prop} (hres : ∀ w, (results fn tmps).run Tryz.prog w = .ok v w) :
    ∀ (Ds : List Nat) (B : World), DefOk n B Ds → (∀ B', Below n B B' → R (.returned v) B') → LeavesInM Fence.wide k Tryz.prog fn tmps R (dsOf Ds) .returning B
  | [], B, _, h => ⟨v, hres B, h B (Below.refl _ _)⟩
  | D :: Ds, B, hd, h => by
    have hD := hd.2 D (by simp)
    refine ⟨by simp, Or.inl ⟨D, _, rfl, run_takeDeferred hD.2, ?_⟩⟩
    have hlt := lt_of hD.2
    have hn := List.nodup_cons.1 hd.1
    refine leaves_marks hres Ds _ ⟨hn.2, fun D' hD' => ⟨(hd.2 D' (by simp [hD'])).1, ?_⟩⟩ fun B' hB' => h B' ((below_put _ hD.1 (by omega)).trans hB')
    rw [World.putObj_heap_other (fun e => hn.1 (by rw [e] at hD'; exact hD'))]
    exact (hd.2 D' (by simp [hD'])).2

set_option maxRecDepth 100000 in
set_option maxHeartbeats 2000000 in
theorem lines129 (l bP bM m : Nat) (p : Pl) (fv : Value) (fams : List GF) (L : List Nat) (J Jx : Nat → World → Prop) (W : World) (h1 : W.heap[bP]? = some (atObj p)) (h2 : W.cell? ⟨bM, 0, none⟩ = some fv) (hsl : PtrSl W fv (fams.map GF.b)) (hat : ∀ g ∈ fams, GF.At W g) (hok : MomOk m fams) (hm : m ≤ 4611686018427387904) (ht : Tab W) (hpl : PlOk fams p)
    (hL : ∀ b ∈ L, b < W.heap.size ∧ b ≠ 0 ∧ b ∉ slBlk fv ∧ ∀ g ∈ fams, b ∉ g.foot)
    (hJ : ∀ k A B, J k A → Below W.heap.size A B → J k B) (hJx : ∀ k A B, Jx k A → Below W.heap.size A B → Jx k B)
    (hY : ∀ k A (hk : k < (itFrom (famT fams) p).length), J k A → YieldAt Fence.wide 0 Tryz.prog l (encL (itFrom (famT fams) p)[k]) A fun e B => Kept L A B ∧ ((e = .returned (.bool true) ∧ J (k + 1) B) ∨ (e = .returned (.bool false) ∧ Jx k B)))
    (h0 : J 0 W) :
    Calls Tryz.prog 129 #[.func (.yield l) #[] #[], .pointer (some ⟨bP, 0, none⟩), .pointer (some ⟨bM, 0, none⟩)] W fun e B => (∃ v, e = .returned v) ∧ Kept L W B ∧ (J (itFrom (famT fams) p).length B ∨ ∃ k, k < (itFrom (famT fams) p).length ∧ Jx k B) := by
  obtain ⟨a0, a1, a2⟩ := at_cells h1
  have HSL : Hid (PtrSl W fv (fams.map GF.b)) := hsl
  obtain ⟨sa, cap, rfl, hcap, _⟩ := hsl
  have hfl : p.f ≤ fams.length := by rcases hpl with h | ⟨h, _⟩ <;> omega
  have hfl' : (p.f : Int) ≤ (fams.length : Int) := by omega
  have hcap' : (p.f : Int) ≤ (cap : Int) := by rw [List.length_map] at hcap; omega
  have hlen := hok.len
  rw [List.length_map] at h2 hL hcap
  have u0 := gb_cell (gb_alloc (gb_refl W none) (.cells #[.func (.yield l) #[] #[]] 211)) a0 (by simp)
  have u1 := gb_cell (gb_alloc (gb_refl W none) (.cells #[.func (.yield l) #[] #[]] 211)) a1 (by simp)
  have u2 := gb_cell (gb_alloc (gb_refl W none) (.cells #[.func (.yield l) #[] #[]] 211)) a2 (by simp)
  have u3 := gb_cell (gb_alloc (gb_alloc (gb_refl W none) (.cells #[.func (.yield l) #[] #[]] 211)) (atObj p)) h2 (by simp)
  have hb4 := alloc_new (W.alloc (.cells #[.func (.yield l) #[] #[]] 211)) (atObj p) (W.heap.size + 1) (by simp)
  obtain ⟨W2, hW2⟩ : ∃ W2, (W.alloc (.cells #[.func (.yield l) #[] #[]] 211)).alloc (atObj p) = W2 := ⟨_, rfl⟩
  have g2 : W.grownBy W2 none := by rw [← hW2]; exact gb_alloc (gb_alloc (gb_refl _ _) _) _
  have z2 : W2.heap.size = W.heap.size + 2 := by rw [← hW2]; simp
  have y3 : W2.heap[W.heap.size]? = some (.cells #[.func (.yield l) #[] #[]] 211) := by
    rw [← hW2]
    exact (Below.heap_alloc _ _ _ (by simp)).trans (alloc_new _ _ _ rfl)
  have HB4 : Hid (W2.heap[W.heap.size + 1]? = some (atObj p)) := by rw [← hW2]; exact hb4
  have hfoot : ∀ g ∈ fams, ∀ b ∈ g.foot, b < W.heap.size := fun g hg b hb => (hat g hg).lt b hb
  have HCX : Hid (LCtx l W.heap.size (W.heap.size + 1) L J Jx W2 fams (itFrom (famT fams) p) m) := by
    refine ⟨y3, by omega, by omega, fun b hb => (hL b hb).1, hJ, hJx, hY, fun g hg => (hat g hg).frame fun b hb => g2.block b (hfoot g hg b hb) (by simp), hok.each, hm, hok.names, ht.gb g2, fun b hb => ?_⟩
    rcases List.mem_cons.1 hb with rfl | hb
    · exact ⟨by omega, fun g hg hm => by have := hfoot g hg _ hm; omega⟩
    · exact ⟨(hL b hb).2.1, (hL b hb).2.2.2⟩
  have HPI : Hid (PI (W.heap.size + 1) L J W2 fams (itFrom (famT fams) p) p W2) := ⟨[], by simp, hJ _ _ _ h0 ⟨g2.os, g2.tape, g2.output, g2.size, fun b hb => g2.block b hb (by simp)⟩, HB4.out, Kept.refl _ _⟩
  have HSL2 : Hid (PtrSl W2 (.slice sa fams.length cap) (fams.map GF.b)) := by
    have := HSL.out.frame g2.size fun b hb => g2.block b (HSL.out.lt b hb) (by simp)
    rw [List.length_map] at this; exact this
  have HLS : Hid (∀ b ∈ (W.heap.size + 1) :: L, b ∉ slBlk (.slice sa fams.length cap)) := by
    intro b hb hm
    rcases List.mem_cons.1 hb with rfl | hb
    · have := HSL.out.lt _ (by rw [List.length_map]; exact hm); omega
    · exact (hL b hb).2.2.1 hm
  have HG2 : Hid (W.grownBy W2 none) := g2
  have HZ2 : Hid (W2.heap.size = W.heap.size + 2) := z2
  have HLL : Hid (∀ b ∈ L, b < W.heap.size) := fun b hb => (hL b hb).1
  have HPL : Hid (PlOk fams p) := hpl
  have HW2 : Hid ((W.alloc (.cells #[.func (.yield l) #[] #[]] 211)).alloc (atObj p) = W2) := hW2
  unfold atObj at u3 hb4
  have v0 : ((W.alloc (.cells #[.func (.yield l) #[] #[]] 211)).alloc (.cells #[.int .i64 (p.f : Int), .int .i64 (p.s : Int), .int .i64 (p.l : Int)] 108)).cell? ⟨W.heap.size + 1, 0, none⟩ = some (.int .i64 (p.f : Int)) := by
    unfold World.cell?; simp only [hb4]; rfl
  clear h1 h2 hat hok ht hpl hL hJ hJx hY h0 hb4 hW2 g2 z2 y3 hfoot a0 a1 a2
  have HFIN : Hid (∀ (tmps : Array Value) (Ds : List Nat) (B : World), Kept ((W.heap.size + 1) :: L) W2 B → DefOk W2.heap.size B Ds → (J (itFrom (famT fams) p).length B ∨ ∃ k, k < (itFrom (famT fams) p).length ∧ Jx k B) → LeavesInM Fence.wide 3 Tryz.prog Tryz.f129 tmps (fun e B => (∃ v, e = .returned v) ∧ Kept L W B ∧ (J (itFrom (famT fams) p).length B ∨ ∃ k, k < (itFrom (famT fams) p).length ∧ Jx k B)) (dsOf Ds) .returning B) := by
    intro tmps Ds B hk hd hj
    refine leaves_marks (v := .tuple #[]) (fun w => results_none rfl _ _ _) Ds B hd fun B' hB => ?_
    have hkB : Kept ((W.heap.size + 1) :: L) W2 B' := kept_below hk hB (Nat.le_refl _)
    refine ⟨⟨_, rfl⟩, ((Kept.of_none HG2.out ((W.heap.size + 1) :: L)).trans hkB).mono fun b hb => ?_, ?_⟩
    · rcases List.mem_cons.1 hb with rfl | hb
      · exact Or.inr (by omega)
      · exact Or.inl hb
    · have hB0 : Below W.heap.size B B' := hB.mono (by have := HZ2.out; omega)
      rcases hj with hj | ⟨k, hk, hx⟩
      · exact Or.inl (HCX.out.hJ _ _ _ hj hB0)
      · exact Or.inr ⟨k, hk, HCX.out.hJx _ _ _ hx hB0⟩
  have MAIN : ∀ (sl : Value), (fams.length - p.f = 0 ∨ sl = .slice (Option.map (fun x => x.add p.f) sa) (fams.length - p.f) (cap - p.f)) → ∀ (t0 t1 t2 t5 t6 t7 t8 t9 t10 t11 t12 t13 t17 t18 t19 t20 t21 t22 t23 t24 t25 t26 t27 t28 t29 t30 t31 t32 t33 t34 t35 t36 t37 t38 t39 t40 t41 t42 t43 t44 t45 t46 t47 t48 t49 t50 t51 t52 t53 t54 t55 t56 t57 t58 t59 t60 t61 t62 t63 : Value), (Code.loop (cX (Tryz.f129.body.getD .skip))).wpIn Fence.wide 3 Tryz.prog (Exit.inBlock 0 (bodyPostM Fence.wide 3 Tryz.prog Tryz.f129 (fun e B => (∃ v, e = .returned v) ∧ Kept L W B ∧ (J (itFrom (famT fams) p).length B ∨ ∃ k, k < (itFrom (famT fams) p).length ∧ Jx k B)))) { tmps := #[t0, t1, t2, .pointer (some ⟨W.heap.size, 0, none⟩), .pointer (some ⟨W.heap.size + 1, 0, none⟩), t5, t6, t7, t8, t9, t10, t11, t12, t13, sl, .int .i64 ((fams.length - p.f : Nat) : Int), .int .i64 0, t17, t18, t19, t20, t21, t22, t23, t24, t25, t26, t27, t28, t29, t30, t31, t32, t33, t34, t35, t36, t37, t38, t39, t40, t41, t42, t43, t44, t45, t46, t47, t48, t49, t50, t51, t52, t53, t54, t55, t56, t57, t58, t59, t60, t61, t62, t63], defers := [] } W2 := by
   intro sl hslc t0 t1 t2 t5 t6 t7 t8 t9 t10 t11 t12 t13 t17 t18 t19 t20 t21 t22 t23 t24 t25 t26 t27 t28 t29 t30 t31 t32 t33 t34 t35 t36 t37 t38 t39 t40 t41 t42 t43 t44 t45 t46 t47 t48 t49 t50 t51 t52 t53 t54 t55 t56 t57 t58 t59 t60 t61 t62 t63
   refine wpIn_loop (fun a w => ∃ (i : Nat) (Ds : List Nat) (q : Pl), AxY W.heap.size (W.heap.size + 1) sl (.int .i64 ((fams.length - p.f : Nat) : Int)) (.int .i64 (i : Int)) Ds a ∧ i ≤ fams.length - p.f ∧ PI (W.heap.size + 1) L J W2 fams (itFrom (famT fams) p) q w ∧ DefOk W2.heap.size w Ds ∧ q.f = p.f + i ∧ PlOk fams q)
     (fun a _ => fams.length - p.f - (intOf (a.tmps.getD 16 undef)).toNat) ⟨0, [], p, ⟨_, _, _, _, _, _, _, _, _, _, _, _, _, _, _, _, _, _, _, _, _, _, _, _, _, _, _, _, _, _, _, _, _, _, _, _, _, _, _, _, _, _, _, _, _, _, _, _, _, _, _, _, _, _, _, _, _, _, _, rfl⟩, Nat.zero_le _, HPI.out, ⟨List.nodup_nil, by simp⟩, rfl, HPL.out⟩ ?_
   rintro a A ⟨i, Ds, q, ⟨t0, t1, t2, t5, t6, t7, t8, t9, t10, t11, t12, t13, t17, t18, t19, t20, t21, t22, t23, t24, t25, t26, t27, t28, t29, t30, t31, t32, t33, t34, t35, t36, t37, t38, t39, t40, t41, t42, t43, t44, t45, t46, t47, t48, t49, t50, t51, t52, t53, t54, t55, t56, t57, t58, t59, t60, t61, t62, t63, rfl⟩, hi, hpi, hds, hqf, hqok⟩
   have HDS : Hid (DefOk W2.heap.size A Ds) := hds
   have HPA : Hid (PI (W.heap.size + 1) L J W2 fams (itFrom (famT fams) p) q A) := hpi
   by_cases hlt : i < fams.length - p.f
   · have hli : (i : Int) < ((fams.length - p.f : Nat) : Int) := by omega
     have hqlt : q.f < fams.length := by omega
     obtain ⟨_, hqs⟩ : ∃ h : q.f < fams.length, (q.s = 0 ∧ q.l = 0) ∨ (1 ≤ q.s ∧ q.s ≤ fams[q.f].ser.length ∧ q.l ≤ fams[q.f].ls.length) := by
       rcases hqok with h | h
       · omega
       · exact h
     obtain ⟨_, _, _, _, hkA⟩ := hpi
     obtain ⟨sb, so, rfl, hcell⟩ : ∃ sb so, sa = some ⟨sb, so, none⟩ ∧ A.cell? ⟨sb, so + p.f + i, none⟩ = some (.pointer (some ⟨fams[q.f].b, 0, none⟩)) := by
       have hs2 := HSL2.out
       obtain ⟨sa', cap', e, _, hp⟩ := hs2
       simp only [Value.slice.injEq] at e
       obtain ⟨rfl, _, rfl⟩ := e
       rcases hp with h | ⟨sb, so, rfl, hb, hc⟩
       · have : fams.length = 0 := by have := congrArg List.length h; simpa using this
         omega
       · refine ⟨sb, so, rfl, ?_⟩
         have hnot : sb ∉ (W.heap.size + 1) :: L := fun hm => HLS.out sb hm (by simp only [slBlk]; rw [if_neg (by omega)]; simp)
         rw [World.cell?_of_block (a := ⟨sb, so + p.f + i, none⟩) (hkA.block sb hb hnot)]
         have hc' := hc (p.f + i) (by simp; omega)
         rw [show so + p.f + i = so + (p.f + i) from by omega, hc']
         simp [hqf]
     have hadd : (⟨sb, so, none⟩ : Addr).add p.f = ⟨sb, so + p.f, none⟩ := by simp [Addr.add]
     obtain rfl : sl = .slice (some ⟨sb, so + p.f, none⟩) (fams.length - p.f) (cap - p.f) := by
      rcases hslc with h | h
      · omega
      · rw [h]; simp [hadd]
     change (Code.seq (cFst (cX (Tryz.f129.body.getD .skip))) (Code.seq (cFst (cSnd (cX (Tryz.f129.body.getD .skip)))) (Code.seq (cY (Tryz.f129.body.getD .skip)) (cSnd (cSnd (cSnd (cX (Tryz.f129.body.getD .skip)))))))).wpIn _ _ _ _ _ _
     refine wpIn_seq_k fun K1 hK1 => ?_
     have HK1 : Hid (∀ a w, _ → K1 a w) := hK1
     clear hK1 hds
     dsimp only [cX, cInn, cFst, cSnd, Tryz.f129, Option.getD]
     gi_wp2
     refine HK1.out _ _ ?_
     clear HK1
     refine wpIn_seq_k fun K2 hK2 => ?_
     have HK2 : Hid (∀ a w, _ → K2 a w) := hK2
     clear hK2
     dsimp only [cX, cInn, cFst, cSnd, Tryz.f129, Option.getD]
     gi_wp2
     refine HK2.out _ _ ?_
     clear HK2
     refine wpIn_seq_k fun K3 hK3 => ?_
     have HK3 : Hid (∀ a w, _ → K3 a w) := hK3
     clear hK3
     change (Code.block 1 (cInn (cY (Tryz.f129.body.getD .skip)))).wpIn _ _ _ _ _ _
     refine wpIn_block ?_
     obtain ⟨qf, qs, ql⟩ := q
     simp only at hqf hqlt hqs hcell
     refine Code.wpIn_mono ?_ (lnY HCX.out 3 A qf qs ql hqlt fams[qf] rfl hqs (by omega) HPA.out sb (so + p.f) (fams.length - p.f) (cap - p.f) i hlt (by rw [hcell]) Ds HDS.out _ _ _ _ _ _ _ _ _ _ _ _ _ _ _ _ _ _ _ _ _ _ _ _ _ _ _ _ _ _ _ _ _ _ _ _ _ _ _ _ _ _ _ _ _ _ _ _ _ _ _ _ _ _ _ _ _ _ _
       (fun a B => ∃ Ds', AxY W.heap.size (W.heap.size + 1) (.slice (some ⟨sb, so + p.f, none⟩) (fams.length - p.f) (cap - p.f)) (.int .i64 ((fams.length - p.f : Nat) : Int)) (.int .i64 (i : Int)) Ds' a ∧ DefOk W2.heap.size B Ds' ∧ PI (W.heap.size + 1) L J W2 fams (itFrom (famT fams) p) ⟨qf + 1, 0, 0⟩ B)
       (fun a B => ∃ Ds', a.defers = dsOf Ds' ∧ DefOk W2.heap.size B Ds' ∧ PX (W.heap.size + 1) L Jx W2 (itFrom (famT fams) p) B)
       (fun a B Ds' h1 _ h3 h4 => ⟨Ds', h1, h3, h4⟩) (fun a B Ds' h1 h2 h3 => ⟨Ds', h1, h2, h3⟩))
     rintro e a B hq
     cases e with
     | normal =>
       obtain ⟨Ds', ⟨t0, t1, t2, t5, t6, t7, t8, t9, t10, t11, t12, t13, t17, t18, t19, t20, t21, t22, t23, t24, t25, t26, t27, t28, t29, t30, t31, t32, t33, t34, t35, t36, t37, t38, t39, t40, t41, t42, t43, t44, t45, t46, t47, t48, t49, t50, t51, t52, t53, t54, t55, t56, t57, t58, t59, t60, t61, t62, t63, rfl⟩, hd', hpi'⟩ := hq
       refine HK3.out _ _ ?_
       have HD' : Hid (DefOk W2.heap.size B Ds') := hd'
       have HP' : Hid (PI (W.heap.size + 1) L J W2 fams (itFrom (famT fams) p) ⟨qf + 1, 0, 0⟩ B) := hpi'
       have hii : (i : Int) ≤ 100 := by omega
       clear hd' hpi' HK3
       dsimp only [cX, cInn, cFst, cSnd, Tryz.f129, Option.getD]
       gi_wp2
       refine ⟨⟨i + 1, Ds', ⟨qf + 1, 0, 0⟩, ?_, by omega, HP'.out, HD'.out, by show qf + 1 = p.f + (i + 1); omega, ?_⟩, ?_⟩
       · rw [show ((i + 1 : Nat) : Int) = (i : Int) + 1 from by omega]
         exact ⟨_, _, _, _, _, _, _, _, _, _, _, _, _, _, _, _, _, _, _, _, _, _, _, _, _, _, _, _, _, _, _, _, _, _, _, _, _, _, _, _, _, _, _, _, _, _, _, _, _, _, _, _, _, _, _, _, _, _, _, rfl⟩
       · by_cases e : qf + 1 = fams.length
         · exact Or.inl ⟨e, rfl, rfl⟩
         · exact Or.inr ⟨by show qf + 1 < fams.length; omega, Or.inl ⟨rfl, rfl⟩⟩
       · simp [intOf]; omega
     | ret =>
       obtain ⟨Ds', hdf, hd', hx⟩ := hq
       show LeavesInM _ _ _ _ _ _ _ _ _
       rw [hdf]
       exact HFIN.out _ Ds' B hx.2 hd' (Or.inr hx.1)
     | _ => exact hq.elim
   · have hi2 : i = fams.length - p.f := by omega
     have hli : ¬ (i : Int) < ((fams.length - p.f : Nat) : Int) := by omega
     obtain ⟨done, e1, hj, _, hkA⟩ := hpi
     have hend : itFrom (famT fams) q = [] := by
       obtain ⟨qf, qs, ql⟩ := q
       exact itFrom_end (by rw [famT_len]; show fams.length ≤ qf; simp only at hqf; omega)
     rw [hend, List.append_nil] at e1
     have HJ : Hid (J (itFrom (famT fams) p).length A) := by
       show J _ A
       rw [e1]; exact hj
     have HKA : Hid (Kept ((W.heap.size + 1) :: L) W2 A) := hkA
     clear hds e1 hj hend hqok hkA hi2
     dsimp only [cX, cInn, cFst, cSnd, Tryz.f129, Option.getD]
     gi_wp2
     exact HFIN.out _ Ds A HKA.out HDS.out (Or.inl HJ.out)
  refine (callsIn_wide (n := 3)).1 ?_
  refine callsIn_of_wp_marks Tryz.func129 rfl trivial ?_ rfl
  simp only [Tryz.ntmps129, List.size_toArray, List.length_cons, List.length_nil, Nat.reduceAdd, Nat.reduceSub, Array.replicate_succ, Array.replicate_zero, List.push_toArray, List.append_toArray, List.nil_append, List.cons_append]
  gi_wp2
  all_goals
    rw [show (W.alloc (.cells #[.func (.yield l) #[] #[]] 211)).alloc (.cells #[.int .i64 (p.f : Int), .int .i64 (p.s : Int), .int .i64 (p.l : Int)] 108) = W2 from HW2.out]
    first
      | exact MAIN _ (Or.inl (by omega)) _ _ _ _ _ _ _ _ _ _ _ _ _ _ _ _ _ _ _ _ _ _ _ _ _ _ _ _ _ _ _ _ _ _ _ _ _ _ _ _ _ _ _ _ _ _ _ _ _ _ _ _ _ _ _ _ _ _ _
      | exact MAIN _ (Or.inr rfl) _ _ _ _ _ _ _ _ _ _ _ _ _ _ _ _ _ _ _ _ _ _ _ _ _ _ _ _ _ _ _ _ _ _ _ _ _ _ _ _ _ _ _ _ _ _ _ _ _ _ _ _ _ _ _ _ _ _ _

end Go.Proofs.YtcfdemhokbddiaaGreatDoor
