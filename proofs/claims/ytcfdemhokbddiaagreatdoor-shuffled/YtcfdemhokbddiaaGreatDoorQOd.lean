/-
  Readings.Open: a reading begins.
-/
import Derived.Test.YtcfdemhokbddiaaGreatDoorQOc

namespace Go.Proofs.YtcfdemhokbddiaaGreatDoor
open Go.RowKit Go.Shelf

attribute [local go_sem] Oper.semAt_some

/-- What the readings tell: the lines that were not told yet, how long each is idle. -/
abbrev RdV := List (Option (List (List UInt8) × Nat))
def rdsV (rds : List (Option GR)) : RdV := rds.map (Option.map fun r => ((itFrom (famT r.fams) r.pl).map (·.2), r.idle))
def GT.rview (t : GT) : RdV := rdsV t.rds
structure RdOk1 (r : GR) : Prop where
  pl : PlOk r.fams r.pl
  part : ∃ A, allIt (famT r.fams) = A ++ itFrom (famT r.fams) r.pl
  idle : r.idle ≤ 4
def RdOk (t : GT) : Prop := ∀ r, some r ∈ t.rds → RdOk1 r

/-- The lines of families. -/
def linesP (F : List Fam) : List (List UInt8) := (allIt (momT F)).map (·.2)
def openP (V : List Fam) (R : RdV) (l : List UInt8) : (Int × Int) × RdV :=
  if l ≠ [] ∧ isNameB l = false then ((0, 2), R) else
  match freeP R with
  | none => ((0, 7), R)
  | some i => (((i : Int), 0), R.set i (some (linesP (V.drop (kplace lt l (V.map Fam.nm))), 0)))

theorem free_rds (rds : List (Option GR)) : freeP (rdsV rds) = freeP rds := by
  unfold freeP rdsV
  rw [List.findIdx?_map]
  congr 1
  funext x
  cases x <;> rfl

theorem brd_setp {w : World} {b age lage : Nat} {fv : Value} {rs : List (Option GR)} (h : w.heap[b]? = some (brdObj age lage fv (rs.map rdPtr))) (i : Nat) (x : Option GR) : (w.setCell ⟨b, 3 + i, none⟩ (rdPtr x)).heap[b]? = some (brdObj age lage fv ((rs.set i x).map rdPtr)) := by
  rw [text_set h]
  congr 2
  rw [List.map_set]
  apply Array.ext'
  rw [Nat.add_comm]
  simp

theorem itFrom_part {F : List GF} : ∃ A, allIt (famT F) = A ++ itFrom (famT F) ⟨0, 0, 0⟩ := ⟨[], by rw [itFrom_zero]; rfl⟩
theorem plOk_zero (F : List GF) : PlOk F ⟨0, 0, 0⟩ := by
  by_cases e : F = []
  · subst e; exact Or.inl ⟨rfl, rfl, rfl⟩
  · exact Or.inr ⟨List.length_pos_iff.2 e, Or.inl ⟨rfl, rfl⟩⟩
theorem famT_view (F : List GF) : (allIt (famT F)).map (·.2) = linesP (F.map GF.view) := rfl

set_option maxRecDepth 100000 in
set_option maxHeartbeats 2000000 in
theorem rdOpen_main (t : GT) (s : ByteArray) (m : Nat) (w w1 : World) (h : GT.At w t) (ho : GT.Ok m t) (hrd : RdOk t) (hm : m ≤ 4611686018427387904) (hs : ¬ (s.data.toList ≠ [] ∧ isNameB s.data.toList = false)) (g1 : w.grownBy w1 none) (t3 t4 t5 t6 t7 t8 t9 t10 t11 t12 t13 t14 t15 t16 t17 t18 t19 t20 t21 t22 t23 t24 t25 t26 t27 t28 t29 t30 t31 t32 t33 : Value) :
    (cSnd (cSnd (Tryz.f34.body.getD .skip))).wpIn Fence.wide 3 Tryz.prog (bodyPost Tryz.prog Tryz.f34 fun e w' => ∃ t' i c, e = .returned (.tuple #[.int .i64 i, .int .i64 c]) ∧ Out (m + 1) t t' w w' ∧ RdOk t' ∧ t'.view = t.view ∧ ((i, c), t'.rview) = openP t.view t.rview s.data.toList) { tmps := #[.pointer (some ⟨t.b, 3, none⟩), .pointer (some ⟨t.b, 0, none⟩), .string s, t3, t4, t5, t6, t7, t8, t9, t10, t11, t12, t13, t14, t15, t16, t17, t18, t19, t20, t21, t22, t23, t24, t25, t26, t27, t28, t29, t30, t31, t32, t33], defers := [] } w1 := by
  have HH : Hid (GT.At w1 t) := h.gb g1
  have HO : Hid (GT.Ok m t) := ho
  have HO1 : Hid (GT.Ok (m + 1) t) := ho.mono (Nat.le_succ m)
  have HRD : Hid (RdOk t) := hrd
  have HG1 : Hid (w.grownBy w1 none) := g1
  have HW : Hid (GT.At w t) := h
  have HIX : Hid (Calls Tryz.prog 59 #[.slice (some ⟨t.b, 3, none⟩) 3 3, .pointer none] w1 _) := index_any t.b t.age t.lage t.fv t.rds w1 HH.out.blk ho.rlen
  have hrl := ho.rlen
  clear h ho hrd g1
  dsimp only [cSnd, Tryz.f34, Option.getD]
  gi_wp2
  refine ⟨trivial, (callsIn_wide.2 HIX.out).mono ?_⟩
  rintro e w1 ⟨rfl, rfl⟩
  cases hf : freeP t.rds with
  | none =>
    have hfi := freeI_none hf
    have HP : Hid (((0, 7), t.rview) = openP t.view t.rview s.data.toList) := by
      show _ = _
      unfold openP
      rw [if_neg hs, show freeP t.rview = none from (free_rds t.rds).trans hf]
    rw [hfi]
    clear hf hfi
    gi_wp2
    refine bodyPost_ret (v := .tuple #[.int .i64 0, .int .i64 7]) (by simp [results, go_sem]) rfl ?_
    exact ⟨t, 0, 7, rfl, .same HW.out HO1.out HG1.out, HRD.out, rfl, HP.out⟩
  | some i =>
    have hfi := freeI_some hf
    have hii : i < t.rds.length ∧ t.rds[i]? = some none := by
      unfold freeP at hf
      rw [List.findIdx?_eq_some_iff_getElem] at hf
      obtain ⟨h1, h2, _⟩ := hf
      refine ⟨h1, ?_⟩
      rw [List.getElem?_eq_getElem h1]
      cases hq : t.rds[i] with
      | none => rfl
      | some r => rw [hq] at h2; cases h2
    have HII : Hid (t.rds[i]? = some none) := hii.2
    have hi3 : i < 3 := by omega
    have hi3' : (i : Int) < 3 := by omega
    have HP : Hid ((((i : Int), (0 : Int)), t.rview.set i (some (linesP (t.view.drop (kplace lt s.data.toList (t.view.map Fam.nm))), 0))) = openP t.view t.rview s.data.toList) := by
      show _ = _
      unfold openP
      rw [if_neg hs, show freeP t.rview = some i from (free_rds t.rds).trans hf]
    rw [hfi]
    clear hf hfi hii
    have HMO : Hid (∀ W, w1.grownBy W none → Calls Tryz.prog 60 #[.pointer (some ⟨t.b, 0, none⟩), .string s] W fun e w' => ∃ sa n c, e = .returned (.agg #[.slice sa n c]) ∧ PtrSl w' (.slice sa n c) ((t.fams.drop (kplace lt s.data.toList (t.fams.map GF.nm))).map GF.b) ∧ (∀ b ∈ slBlk (.slice sa n c), b ∈ t.fv.ownBlock.toList) ∧ w'.heap[t.b]? = some (brdObj (t.age + 1) t.lage t.fv (t.rds.map rdPtr)) ∧ W.grownBy w' (some t.b)) := fun W gW => by
      have := moment_any t s.data.toList m W (HH.out.gb gW) HO.out hm
      rw [B_self] at this; exact this
    gi_wp2
    refine region_held (fun _ => True) (by kernel_rfl) ?_
    have hS : True := trivial
    refine wpAnyS_put (i := 0) (v := ?_) rfl rfl rfl (by kernel_rfl) (by kernel_rfl) (by kernel_rfl) (fun _ _ _ h => h) ⟨Or.inl ⟨by rfl, ?_⟩, fun _ => rfl⟩ hS ?_
    rotate_left
    · intro w' hSw
      go_simp
      try with_reducible rfl
    simp only [Act.put, List.setIfInBounds_toArray, List.set_cons_zero, List.set_cons_succ]
    refine wpAnyS_put (i := 1) (v := ?_) rfl rfl rfl (by kernel_rfl) (by kernel_rfl) (by kernel_rfl) (fun _ _ _ h => h) ⟨Or.inl ⟨by rfl, ?_⟩, fun _ => rfl⟩ hS ?_
    rotate_left
    · intro w' hSw
      go_simp
      try with_reducible rfl
    simp only [Act.put, List.setIfInBounds_toArray, List.set_cons_zero, List.set_cons_succ]
    refine wpAnyS_put (i := 2) (v := ?_) rfl rfl rfl (by kernel_rfl) (by kernel_rfl) (by kernel_rfl) (fun _ _ _ h => h) ⟨Or.inl ⟨by rfl, ?_⟩, fun _ => rfl⟩ hS ?_
    rotate_left
    · intro w' hSw
      go_simp
      try with_reducible rfl
    simp only [Act.put, List.setIfInBounds_toArray, List.set_cons_zero, List.set_cons_succ]
    refine wpAnyS_put (i := 3) (v := ?_) rfl rfl rfl (by kernel_rfl) (by kernel_rfl) (by kernel_rfl) (fun _ _ _ h => h) ⟨Or.inl ⟨by rfl, ?_⟩, fun _ => rfl⟩ hS ?_
    rotate_left
    · intro w' hSw
      go_simp
      try with_reducible rfl
    simp only [Act.put, List.setIfInBounds_toArray, List.set_cons_zero, List.set_cons_succ]
    refine wpAnyS_put (i := 7) (v := ?_) rfl rfl rfl (by kernel_rfl) (by kernel_rfl) (by kernel_rfl) (fun _ _ _ h => h) ⟨Or.inl ⟨by rfl, ?_⟩, fun _ => rfl⟩ hS ?_
    rotate_left
    · intro w' hSw
      go_simp
      try with_reducible rfl
    simp only [Act.put, List.setIfInBounds_toArray, List.set_cons_zero, List.set_cons_succ]
    refine wpAnyS_put (i := 8) (v := ?_) rfl rfl rfl (by kernel_rfl) (by kernel_rfl) (by kernel_rfl) (fun _ _ _ h => h) ⟨Or.inl ⟨by rfl, ?_⟩, fun _ => rfl⟩ hS ?_
    rotate_left
    · intro w' hSw
      go_simp
      try with_reducible rfl
    simp only [Act.put, List.setIfInBounds_toArray, List.set_cons_zero, List.set_cons_succ]
    refine wpAnyS_one (i := 4) rfl (by kernel_rfl) (fun K hK => ?_)
    rw [if_pos (by rfl)]
    gi_wp2
    refine ⟨trivial, (callsIn_wide.2 (HMO.out _ (gb_drew (gb_refl _ _)))).mono ?_⟩
    rintro e w2 ⟨sa, n, c, rfl, hv, hvb, hb2, g2⟩
    refine hK _ _ trivial ?_
    clear hK
    have HV : Hid (PtrSl w2 (.slice sa n c) ((t.fams.drop (kplace lt s.data.toList (t.fams.map GF.nm))).map GF.b)) := hv
    have HVB : Hid (∀ b ∈ slBlk (.slice sa n c), b ∈ t.fv.ownBlock.toList) := hvb
    have HB2 : Hid (w2.heap[t.b]? = some (brdObj (t.age + 1) t.lage t.fv (t.rds.map rdPtr))) := hb2
    have HG2 : Hid (w1.drew.grownBy w2 (some t.b)) := g2
    clear hv hvb hb2 g2
    refine wpAnyS_one (i := 5) rfl (by kernel_rfl) (fun K hK => ?_)
    rw [if_pos (by rfl)]
    gi_wp2
    refine hK _ _ trivial ?_
    clear hK
    refine wpAnyS_one (i := 6) rfl (by kernel_rfl) (fun K hK => ?_)
    rw [if_pos (by rfl)]
    gi_wp2
    refine hK _ _ trivial ?_
    clear hK
    obtain ⟨w3, hw3⟩ : ∃ w3, w2.alloc (.cells #[.slice sa n c, .int .i64 0, .int .i64 0, .int .i64 0, .int .i64 0] 110) = w3 := ⟨_, rfl⟩
    rw [hw3]
    have g3 : w2.grownBy w3 none := by rw [← hw3]; exact gb_alloc (gb_refl _ _) _
    have z3 : w3.heap.size = w2.heap.size + 1 := by rw [← hw3]; simp
    have hr3 : w3.heap[w2.heap.size]? = some (rdObj (.slice sa n c) ⟨0, 0, 0⟩ 0) := by rw [← hw3]; exact alloc_new _ _ _ rfl
    have hb3 := (g3.block _ (lt_of HB2.out) (by simp)).trans HB2.out
    have cp := brd_ptr hb3 i (by omega)
    have cf := brd_froz hb3 (3 + i)
    have HG3 : Hid (w2.grownBy w3 none) := g3
    have HR3 : Hid (w3.heap[w2.heap.size]? = some (rdObj (.slice sa n c) ⟨0, 0, 0⟩ 0)) := hr3
    have HB3 : Hid (w3.heap[t.b]? = some (brdObj (t.age + 1) t.lage t.fv (t.rds.map rdPtr))) := hb3
    have HZ3 : Hid (w3.heap.size = w2.heap.size + 1) := z3
    generalize rdPtr t.rds[i] = rp at cp
    clear hw3 g3 z3 hr3 hb3
    refine wpAnyS_one (i := 9) rfl (by kernel_rfl) (fun K hK => ?_)
    rw [if_pos (by rfl)]
    gi_wp2
    refine hK _ _ trivial ?_
    clear hK
    refine wpAnyS_one (i := 10) rfl (by kernel_rfl) (fun K hK => ?_)
    rw [if_pos (by rfl)]
    gi_wp2
    refine hK _ _ trivial ?_
    clear hK
    refine wpAnyS_done (by kernel_rfl) ?_ _
    gi_wp2
    refine bodyPost_ret (v := .tuple #[.int .i64 (i : Int), .int .i64 0]) (by simp [results, go_sem]) rfl ?_
    have hbl := lt_of HH.out.blk
    have hz2 := HG2.out.size
    have hz1 : w1.drew.heap.size = w1.heap.size := rfl
    obtain ⟨w4, hw4⟩ : ∃ w4, w3.setCell ⟨t.b, 3 + i, none⟩ (.pointer (some ⟨w2.heap.size, 0, none⟩)) = w4 := ⟨_, rfl⟩
    rw [hw4]
    have hb4 : w4.heap[t.b]? = some (brdObj (t.age + 1) t.lage t.fv ((t.rds.set i (some ⟨w2.heap.size, .slice sa n c, t.fams.drop (kplace lt s.data.toList (t.fams.map GF.nm)), ⟨0, 0, 0⟩, 0⟩)).map rdPtr)) := by
      rw [← hw4]; exact brd_setp HB3.out i (some ⟨w2.heap.size, .slice sa n c, t.fams.drop (kplace lt s.data.toList (t.fams.map GF.nm)), ⟨0, 0, 0⟩, 0⟩)
    have hr4 : w4.heap[w2.heap.size]? = some (rdObj (.slice sa n c) ⟨0, 0, 0⟩ 0) := by
      rw [← hw4, Below.heap_setCell _ _ _ _ (by show w2.heap.size ≠ t.b; omega)]; exact HR3.out
    have hv4 : PtrSl w4 (.slice sa n c) ((t.fams.drop (kplace lt s.data.toList (t.fams.map GF.nm))).map GF.b) := HV.out.frame (by rw [← hw4]; simp; have := HZ3.out; omega) fun b hb => by
      rw [← hw4, Below.heap_setCell _ _ _ _ (by show b ≠ t.b; exact fv_far HH.out b (HVB.out b hb))]
      exact HG3.out.block b (HV.out.lt b hb) (by simp)
    have hk4 : Kept [t.b] w1 w4 := by
      rw [← hw4]
      exact (((Kept.of_none (gb_drew (gb_refl w1 none)) [t.b]).trans (Kept.of_some HG2.out _ (Or.inl (by simp)))).trans (Kept.of_none HG3.out _)).trans (Kept.of_some (gb_setCell _ _ _ _) _ (Or.inl (by simp)))
    obtain ⟨t', hout, hrds, hfams⟩ := open_upd HH.out HO.out i HII.out (kplace lt s.data.toList (t.fams.map GF.nm)) w2.heap.size (.slice sa n c) (by omega) hb4 hr4 hv4 HVB.out hk4
    have hview : t'.view = t.view := by unfold GT.view; rw [hfams]
    refine ⟨t', (i : Int), 0, rfl, .from HG1.out hout, ?_, hview, ?_⟩
    · intro r hr
      rw [hrds] at hr
      rcases List.mem_or_eq_of_mem_set hr with hr | e
      · exact HRD.out r hr
      · obtain rfl := Option.some.inj e
        exact ⟨plOk_zero _, itFrom_part, by show 0 ≤ 4; omega⟩
    · rw [← HP.out]
      congr 1
      unfold GT.rview
      rw [hrds]
      unfold rdsV
      rw [List.map_set]
      congr 1
      show some _ = some _
      congr 1
      refine Prod.ext ?_ rfl
      show (itFrom (famT (t.fams.drop _)) ⟨0, 0, 0⟩).map _ = _
      rw [itFrom_zero, famT_view, view_nm]
      congr 1
      unfold GT.view
      rw [List.map_drop]

set_option maxRecDepth 100000 in
set_option maxHeartbeats 1000000 in
theorem rdOpen_any (t : GT) (s : ByteArray) (m : Nat) (w : World) (h : GT.At w t) (ho : GT.Ok m t) (hrd : RdOk t) (hm : m ≤ 4611686018427387904) :
    Calls Tryz.prog 34 #[.pointer (some ⟨t.b, 3, none⟩), .pointer (some ⟨t.b, 0, none⟩), .string s] w fun e w' => ∃ t' i c, e = .returned (.tuple #[.int .i64 i, .int .i64 c]) ∧ Out (m + 1) t t' w w' ∧ RdOk t' ∧ t'.view = t.view ∧ ((i, c), t'.rview) = openP t.view t.rview s.data.toList := by
  have HN : Hid (Calls Tryz.prog 58 #[.string s] w _) := isName_any s w
  have HM : Hid (∀ w1, ¬ (s.data.toList ≠ [] ∧ isNameB s.data.toList = false) → w.grownBy w1 none → ∀ t3 t4 t5 t6 t7 t8 t9 t10 t11 t12 t13 t14 t15 t16 t17 t18 t19 t20 t21 t22 t23 t24 t25 t26 t27 t28 t29 t30 t31 t32 t33, _) := fun w1 hs g1 => rdOpen_main t s m w w1 h ho hrd hm hs g1
  have HH : Hid (GT.At w t) := h
  have HO1 : Hid (GT.Ok (m + 1) t) := ho.mono (Nat.le_succ m)
  have HRD : Hid (RdOk t) := hrd
  clear h ho hrd
  refine (callsIn_wide (n := 3)).1 ?_
  refine callsIn_of_wp Tryz.func34 rfl trivial ?_ rfl
  simp only [Tryz.ntmps34, List.size_toArray, List.length_cons, List.length_nil, Nat.reduceAdd, Nat.reduceSub, Array.replicate_succ, Array.replicate_zero, List.push_toArray, List.append_toArray, List.nil_append, List.cons_append]
  refine wpIn_seq_k fun K0 hK0 => ?_
  have HK0 : Hid (∀ a w, _ → K0 a w) := hK0
  clear hK0
  gi_wp2
  refine HK0.out _ _ ?_
  clear HK0
  refine wpIn_seq_k fun K1 hK1 => ?_
  have HK1 : Hid (∀ a w, _ → K1 a w) := hK1
  clear hK1
  by_cases he : s = ⟨#[]⟩
  · subst he
    gi_wp2
    refine ⟨trivial, ?_⟩
    gi_wp2
    refine HK1.out _ _ ?_
    exact HM.out w (by simp) (gb_refl _ _) _ _ _ _ _ _ _ _ _ _ _ _ _ _ _ _ _ _ _ _ _ _ _ _ _ _ _ _ _ _ _
  · have hse : s.toList.isEmpty = false := by
      cases hq : s.toList with
      | nil =>
        rw [ByteArray.toList_eq] at hq
        exact absurd (ByteArray.ext (by simpa using hq)) he
      | cons x l => rfl
    have hse' : s.data.toList ≠ [] := fun e => he (ByteArray.ext (by simpa using e))
    gi_wp2
    refine ⟨trivial, (callsIn_wide.2 HN.out).mono ?_⟩
    rintro e w1 ⟨rfl, g1⟩
    cases hb : isNameB s.data.toList with
    | true =>
      gi_wp2
      refine HK1.out _ _ ?_
      exact HM.out w1 (by rw [hb]; simp) g1 _ _ _ _ _ _ _ _ _ _ _ _ _ _ _ _ _ _ _ _ _ _ _ _ _ _ _ _ _ _ _
    | false =>
      have HP : Hid (((0, 2), t.rview) = openP t.view t.rview s.data.toList) := by
        show _ = _
        unfold openP
        rw [if_pos ⟨hse', hb⟩]
      clear hb
      gi_wp2
      refine bodyPost_ret (v := .tuple #[.int .i64 0, .int .i64 2]) (by simp [results, go_sem]) rfl ?_
      exact ⟨t, 0, 2, rfl, .same HH.out HO1.out g1, HRD.out, rfl, HP.out⟩

end Go.Proofs.YtcfdemhokbddiaaGreatDoor
