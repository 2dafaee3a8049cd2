/-
  Readings.Open: a reading begins.
-/
import Derived.Test.YtcfdemhokbddiaaGreatDoorQOc

namespace Go.Proofs.YtcfdemhokbddiaaGreatDoor
open Go.RowKit Go.Shelf

attribute [local go_sem] Oper.semAt_some

/-- What the readings tell: the lines that were not told yet, how long each is idle. -/
abbrev RdV := List (Option (List (List UInt8) × Nat))
def rdsV (rds : List (Option GR)) : RdV := rds.map (Option.map fun r => ((itFrom (famT r.fams) r.pl).map (·.2), r.idle))
def GT.rview (t : GT) : RdV := rdsV t.rds
structure RdOk1 (r : GR) : Prop where
  pl : PlOk r.fams r.pl
  part : ∃ A, allIt (famT r.fams) = A ++ itFrom (famT r.fams) r.pl
  idle : r.idle ≤ 4
def RdOk (t : GT) : Prop := ∀ r, some r ∈ t.rds → RdOk1 r

/-- The lines of families. -/
def linesP (F : List Fam) : List (List UInt8) := (allIt (momT F)).map (·.2)
def openP (V : List Fam) (R : RdV) (l : List UInt8) : (Int × Int) × RdV :=
  if l ≠ [] ∧ isNameB l = false then ((0, 2), R) else
  match freeP R with
  | none => ((0, 7), R)
  | some i => (((i : Int), 0), R.set i (some (linesP (V.drop (kplace lt l (V.map Fam.nm))), 0)))

theorem free_rds (rds : List (Option GR)) : freeP (rdsV rds) = freeP rds := by
  unfold freeP rdsV
  rw [List.findIdx?_map]
  congr 1
  funext x
  cases x <;> rfl

theorem brd_setp {w : World} {b age lage : Nat} {fv : Value} {rs : List (Option GR)} (h : w.heap[b]? = some (brdObj age lage fv (rs.map rdPtr))) (i : Nat) (x : Option GR) : (w.setCell ⟨b, 3 + i, none⟩ (rdPtr x)).heap[b]? = some (brdObj age lage fv ((rs.set i x).map rdPtr)) := by
  rw [text_set h]
  congr 2
  rw [List.map_set]
  apply Array.ext'
  rw [Nat.add_comm]
  simp

theorem itFrom_part {F : List GF} : ∃ A, allIt (famT F) = A ++ itFrom (famT F) ⟨0, 0, 0⟩ := ⟨[], by rw [itFrom_zero]; rfl⟩
theorem plOk_zero (F : List GF) : PlOk F ⟨0, 0, 0⟩ := by
  by_cases e : F = []
  · subst e; exact Or.inl ⟨rfl, rfl, rfl⟩
  · exact Or.inr ⟨List.length_pos_iff.2 e, Or.inl ⟨rfl, rfl⟩⟩
theorem famT_view (F : List GF) : (allIt (famT F)).map (·.2) = linesP (F.map GF.view) := rfl

set_option maxRecDepth 100000 in
set_option maxHeartbeats 2000000 in
theorem rdOpen_main (t : GT) (s : ByteArray) (m : Nat) (w w1 : World) (h : GT.At w t) (ho : GT.Ok m t) (hrd : RdOk t) (hm : m ≤ 4611686018427387904) (hs : ¬ (s.data.toList ≠ [] ∧ isNameB s.data.toList = false)) (g1 : w.grownBy w1 none) (t3 t4 t5 t6 t7 t8 t9 t10 t11 t12 t13 t14 t15 t16 t17 t18 t19 t20 t21 t22 t23 t24 t25 t26 t27 t28 t29 t30 t31 t32 t33 : Value) :
    (cSnd (cSnd (Tryz.f34.body.getD .skip))).wpIn Fence.wide 3 Tryz.prog (bodyPost Tryz.prog Tryz.f34 fun e w' => ∃ t' i c, e = .returned (.tuple #[.int .i64 i, .int .i64 c]) ∧ Out (m + 1) t t' w w' ∧ RdOk t' ∧ t'.view = t.view ∧ ((i, c), t'.rview) = openP t.view t.rview s.data.toList) { tmps := #[.pointer (some ⟨t.b, 3, none⟩), .pointer (some ⟨t.b, 0, none⟩), .string s, t3, t4, t5, t6, t7, t8, t9, t10, t11, t12, t13, t14, t15, t16, t17, t18, t19, t20, t21, t22, t23, t24, t25, t26, t27, t28, t29, t30, t31, t32, t33], defers := [] } w1 := by
  have HH : Hid (GT.At w1 t) := h.gb g1
  have HO : Hid (GT.Ok m t) := ho
  have HO1 : Hid (GT.Ok (m + 1) t) := ho.mono (Nat.le_succ m)
  have HRD : Hid (RdOk t) := hrd
  have HG1 : Hid (w.grownBy w1 none) := g1
  have HW : Hid (GT.At w t) := h
  have HIX : Hid (Calls Tryz.prog 59 #[.slice (some ⟨t.b, 3, none⟩) 3 3, .pointer none] w1 _) := index_any t.b t.age t.lage t.fv t.rds w1 HH.out.blk ho.rlen
  have hrl := ho.rlen
  clear h ho hrd g1
  dsimp only [cSnd, Tryz.f34, Option.getD]
  gi_wp2
  refine ⟨trivial, (callsIn_wide.2 HIX.out).mono ?_⟩
  rintro e w1 ⟨rfl, rfl⟩
  cases hf : freeP t.rds with
  | none =>
    have hfi := freeI_none hf
    have HP : Hid (((0, 7), t.rview) = openP t.view t.rview s.data.toList) := by
      show _ = _
      unfold openP
      rw [if_neg hs, show freeP t.rview = none from (free_rds t.rds).trans hf]
    rw [hfi]
    clear hf hfi
    gi_wp2
    refine bodyPost_ret (v := .tuple #[.int .i64 0, .int .i64 7]) (by simp [results, go_sem]) rfl ?_
    exact ⟨t, 0, 7, rfl, .same HW.out HO1.out HG1.out, HRD.out, rfl, HP.out⟩
  | some i =>
    have hfi := freeI_some hf
    have hii : i < t.rds.length ∧ t.rds[i]? = some none := by
      unfold freeP at hf
      rw [List.findIdx?_eq_some_iff_getElem] at hf
      obtain ⟨h1, h2, _⟩ := hf
      refine ⟨h1, ?_⟩
      rw [List.getElem?_eq_getElem h1]
      cases hq : t.rds[i] with
      | none => rfl
      | some r => rw [hq] at h2; cases h2
    have HII : Hid (t.rds[i]? = some none) := hii.2
    have hi3 : i < 3 := by omega
    have hi3' : (i : Int) < 3 := by omega
    have HP : Hid ((((i : Int), (0 : Int)), t.rview.set i (some (linesP (t.view.drop (kplace lt s.data.toList (t.view.map Fam.nm))), 0))) = openP t.view t.rview s.data.toList) := by
      show _ = _
      unfold openP
      rw [if_neg hs, show freeP t.rview = some i from (free_rds t.rds).trans hf]
    rw [hfi]
    clear hf hfi hii
    have HMO : Hid (∀ W, w1.grownBy W none → Calls Tryz.prog 60 #[.pointer (some ⟨t.b, 0, none⟩), .string s] W fun e w' => ∃ sa n c, e = .returned (.agg #[.slice sa n c]) ∧ PtrSl w' (.slice sa n c) ((t.fams.drop (kplace lt s.data.toList (t.fams.map GF.nm))).map GF.b) ∧ (∀ b ∈ slBlk (.slice sa n c), b ∈ t.fv.ownBlock.toList) ∧ w'.heap[t.b]? = some (brdObj (t.age + 1) t.lage t.fv (t.rds.map rdPtr)) ∧ W.grownBy w' (some t.b)) := fun W gW => by
      have := moment_any t s.data.toList m W (HH.out.gb gW) HO.out hm
      rw [B_self] at this; exact this
    gi_wp2
    refine region_held (fun _ => True) (by kernel_rfl) ?_
    have hS : True := trivial
    refine wpAnyS_put (i := 0) (v := ?_) rfl rfl rfl (by kernel_rfl) (by kernel_rfl) (by kernel_rfl) (fun _ _ _ h => h) ⟨Or.inl ⟨by rfl, ?_⟩, fun _ => rfl⟩ hS ?_
    rotate_left
    · intro w' hSw
      go_simp
      try with_reducible rfl
    simp only [Act.put, List.setIfInBounds_toArray, List.set_cons_zero, List.set_cons_succ]
    refine wpAnyS_put (i := 1) (v := ?_) rfl rfl rfl (by kernel_rfl) (by kernel_rfl) (by kernel_rfl) (fun _ _ _ h => h) ⟨Or.inl ⟨by rfl, ?_⟩, fun _ => rfl⟩ hS ?_
    rotate_left
    · intro w' hSw
      go_simp
      try with_reducible rfl
    simp only [Act.put, List.setIfInBounds_toArray, List.set_cons_zero, List.set_cons_succ]
    refine wpAnyS_put (i := 2) (v := ?_) rfl rfl rfl (by kernel_rfl) (by kernel_rfl) (by kernel_rfl) (fun _ _ _ h => h) ⟨Or.inl ⟨by rfl, ?_⟩, fun _ => rfl⟩ hS ?_
    rotate_left
    · intro w' hSw
      go_simp
      try with_reducible rfl
    simp only [Act.put, List.setIfInBounds_toArray, List.set_cons_zero, List.set_cons_succ]
    refine wpAnyS_put (i := 3) (v := ?_) rfl rfl rfl (by kernel_rfl) (by kernel_rfl) (by kernel_rfl) (fun _ _ _ h => h) ⟨Or.inl ⟨by rfl, ?_⟩, fun _ => rfl⟩ hS ?_
    rotate_left
    · intro w' hSw
      go_simp
      try with_reducible rfl
    simp only [Act.put, List.setIfInBounds_toArray, List.set_cons_zero, List.set_cons_succ]
    refine wpAnyS_put (i := 7) (v := ?_) rfl rfl rfl (by kernel_rfl) (by kernel_rfl) (by kernel_rfl) (fun _ _ _ h => h) ⟨Or.inl ⟨by rfl, ?_⟩, fun _ => rfl⟩ hS ?_
    rotate_left
    · intro w' hSw
      go_simp
      try with_reducible rfl
    simp only [Act.put, List.setIfInBounds_toArray, List.set_cons_zero, List.set_cons_succ]
    refine wpAnyS_put (i := 8) (v := ?_) rfl rfl rfl (by kernel_rfl) (by kernel_rfl) (by kernel_rfl) (fun _ _ _ h => h) ⟨Or.inl ⟨by rfl, ?_⟩, fun _ => rfl⟩ hS ?_
    rotate_left
    · intro w' hSw
      go_simp
      try with_reducible rfl
    simp only [Act.put, List.setIfInBounds_toArray, List.set_cons_zero, List.set_cons_succ]
    refine wpAnyS_one (i := 4) rfl (by kernel_rfl) (fun K hK => ?_)
    rw [if_pos (by rfl)]
    gi_wp2
    refine ⟨trivial, (callsIn_wide.2 (HMO.out _ (gb_drew (gb_refl _ _)))).mono ?_⟩
    rintro e w2 ⟨sa, n, c, rfl, hv, hvb, hb2, g2⟩
    refine hK _ _ trivial ?_
    clear hK
    have HV : Hid (PtrSl w2 (.slice sa n c) ((t.fams.drop (kplace lt s.data.toList (t.fams.map GF.nm))).map GF.b)) := hv
    have HVB : Hid (∀ b ∈ slBlk (.slice sa n c), b ∈ t.fv.ownBlock.toList) := hvb
    have HB2 : Hid (w2.heap[t.b]? = some (brdObj (t.age + 1) t.lage t.fv (t.rds.map rdPtr))) := hb2
    have HG2 : Hid (w1.drew.grownBy w2 (some t.b)) := g2
    clear hv hvb hb2 g2
    refine wpAnyS_one (i := 5) rfl (by kernel_rfl) (fun K hK => ?_)
    rw [if_pos (by rfl)]
    gi_wp2
    refine hK _ _ trivial ?_
    clear hK
    refine wpAnyS_one (i := 6) rfl (by kernel_rfl) (fun K hK => ?_)
    rw [if_pos (by rfl)]
    gi_wp2
    refine hK _ _ trivial ?_
    clear hK
    obtain ⟨w3, hw3⟩ : ∃ w3, w2.alloc (.cells #[.slice sa n c, .int .i64 0, .int .i64 0, .int .i64 0, .int .i64 0] 110) = w3 := ⟨_, rfl⟩
    rw [hw3]
    have g3 : w2.grownBy w3 none := by rw [← hw3]; exact gb_alloc (gb_refl _ _) _
    have z3 : w3.heap.size = w2.heap.size + 1 := by rw [← hw3]; simp
    have hr3 : w3.heap[w2.heap.size]? = some (rdObj (.slice sa n c) ⟨0, 0, 0⟩ 0) := by rw [← hw3]; exact alloc_new _ _ _ rfl
    have hb3 := (g3.block _ (lt_of HB2.out) (by simp)).trans HB2.out
    have cp := brd_ptr hb3 i (by omega)
    have cf := brd_froz hb3 (3 + i)
    have HG3 : Hid (w2.grownBy w3 none) := g3
    have HR3 : Hid (w3.heap[w2.heap.size]? = some (rdObj (.slice sa n c) ⟨0, 0, 0⟩ 0)) := hr3
    have HB3 : Hid (w3.heap[t.b]? = some (brdObj (t.age + 1) t.lage t.fv (t.rds.map rdPtr))) := hb3
    have HZ3 : Hid (w3.heap.size = w2.heap.size + 1) := z3
    generalize rdPtr t.rds[i] = rp at cp
    clear hw3 g3 z3 hr3 hb3
    refine wpAnyS_one (i := 9) rfl (by kernel_rfl) (fun K hK => ?_)
    rw [if_pos (by rfl)]
    gi_wp2
    refine hK _ _ trivial ?_
    clear hK
    refine wpAnyS_one (i := 10) rfl (by kernel_rfl) (fun K hK => ?_)
    rw [if_pos (by rfl)]
    gi_wp2
    refine hK _ _ trivial ?_
    clear hK
    refine wpAnyS_done (by kernel_rfl) ?_ _
    gi_wp2
    refine bodyPost_ret (v := .tuple #[.int .i64 (i : Int), .int .i64 0]) (by simp [results, go_sem]) rfl ?_
    have hbl := lt_of HH.out.blk
    have hz2 := HG2.out.size
    have hz1 : w1.drew.heap.size = w1.heap.size := rfl
    obtain ⟨w4, hw4⟩ : ∃ w4, w3.setCell ⟨t.b, 3 + i, none⟩ (.pointer (some ⟨w2.heap.size, 0, none⟩)) = w4 := ⟨_, rfl⟩
    rw [hw4]
    have hb4 : w4.heap[t.b]? = some (brdObj (t.age + 1) t.lage t.fv ((t.rds.set i (some ⟨w2.heap.size, .slice sa n c, t.fams.drop (kplace lt s.data.toList (t.fams.map GF.nm)), ⟨0, 0, 0⟩, 0⟩)).map rdPtr)) := by
      rw [← hw4]; exact brd_setp HB3.out i (some ⟨w2.heap.size, .slice sa n c, t.fams.drop (kplace lt s.data.toList (t.fams.map GF.nm)), ⟨0, 0, 0⟩, 0⟩)
    have hr4 : w4.heap[w2.heap.size]? = some (rdObj (.slice sa n c) ⟨0, 0, 0⟩ 0) := by
      rw [← hw4, Below.heap_setCell _ _ _ _ (by show w2.heap.size ≠ t.b; omega)]; exact HR3.out
    have hv4 : PtrSl w4 (.slice sa n c) ((t.fams.drop (kplace lt s.data.toList (t.fams.map GF.nm))).map GF.b) := HV.out.frame (by rw [← hw4]; simp; have := HZ3.out; omega) fun b hb => by
      rw [← hw4, Below.heap_setCell _ _ _ _ (by show b ≠ t.b; exact fv_far HH.out b (HVB.out b hb))]
      exact HG3.out.block b (HV.out.lt b hb) (by simp)
    have hk4 : Kept [t.b] w1 w4 := by
      rw [← hw4]
      exact (((Kept.of_none (gb_drew (gb_refl w1 none)) [t.b]).trans (Kept.of_some HG2.out _ (Or.inl (by simp)))).trans (Kept.of_none HG3.out _)).trans (Kept.of_some (gb_setCell _ _ _ _) _ (Or.inl (by simp)))
    obtain ⟨t', hout, hrds, hfams⟩ := open_upd HH.out HO.out i HII.out (kplace lt s.data.toList (t.fams.map GF.nm)) w2.heap.size (.slice sa n c) (by omega) hb4 hr4 hv4 HVB.out hk4
    have hview : t'.view = t.view := by unfold GT.view; rw [hfams]
    refine ⟨t', (i : Int), 0, rfl, .from HG1.out hout, ?_, hview, ?_⟩
    · intro r hr
      rw [hrds] at hr
      rcases List.mem_or_eq_of_mem_set hr with hr | e
      · exact HRD.out r hr
      · obtain rfl := Option.some.inj e
        exact ⟨plOk_zero _, itFrom_part, by show 0 ≤ 4; omega⟩
    · rw [← HP.out]
      congr 1
      unfold GT.rview
      rw [hrds]
      unfold rdsV
      rw [List.map_set]
      congr 1
      show some _ = some _
      congr 1
      refine Prod.ext ?_ rfl
      show (itFrom (famT (t.fams.drop _)) ⟨0, 0, 0⟩).map _ = _
      rw [itFrom_zero, famT_view, view_nm]
      congr 1
      unfold GT.view
      rw [List.map_drop]

set_option maxRecDepth 100000 in
set_option maxHeartbeats 1000000 in
theorem rdOpen_any (t : GT) (s : ByteArray) (m : Nat) (w : World) (h : GT.At w t) (ho : GT.Ok m t) (hrd : RdOk t) (hm : m ≤ 4611686018427387904) :
    Calls Tryz.prog 34 #[.pointer (some ⟨t.b, 3, none⟩), .pointer (some ⟨t.b, 0, none⟩), .string s] w fun e w' => ∃ t' i c, e = .returned (.tuple #[.int .i64 i, .int .i64 c]) ∧ Out (m + 1) t t' w w' ∧ RdOk t' ∧ t'.view = t.view ∧ ((i, c), t'.rview) = openP t.view t.rview s.data.toList := by
  have HN : Hid (Calls Tryz.prog 58 #[.string s] w _) := isName_any s w
  have HM : Hid (∀ w1, ¬ (s.data.toList ≠ [] ∧ isNameB s.data.toList = false) → w.grownBy w1 none → ∀ t3 t4 t5 t6 t7 t8 t9 t10 t11 t12 t13 t14 t15 t16 t17 t18 t19 t20 t21 t22 t23 t24 t25 t26 t27 t28 t29 t30 t31 t32 t33, _) := fun w1 hs g1 => rdOpen_main t s m w w1 h ho hrd hm hs g1
  have HH : Hid (GT.At w t) := h
  have HO1 : Hid (GT.Ok (m + 1) t) := ho.mono (Nat.le_succ m)
  have HRD : Hid (RdOk t) := hrd
  clear h ho hrd
  refine (callsIn_wide (n := 3)).1 ?_
  refine callsIn_of_wp Tryz.func34 rfl trivial ?_ rfl
  simp only [Tryz.ntmps34, List.size_toArray, List.length_cons, List.length_nil, Nat.reduceAdd, Nat.reduceSub, Array.replicate_succ, Array.replicate_zero, List.push_toArray, List.append_toArray, List.nil_append, List.cons_append]
  refine wpIn_seq_k fun K0 hK0 => ?_
  have HK0 : Hid (∀ a w, _ → K0 a w) := hK0
  clear hK0
  gi_wp2
  refine HK0.out _ _ ?_
  clear HK0
  refine wpIn_seq_k fun K1 hK1 => ?_
  have HK1 : Hid (∀ a w, _ → K1 a w) := hK1
  clear hK1
  by_cases he : s = ⟨#[]⟩
  · subst he
    gi_wp2
    refine ⟨trivial, ?_⟩
    gi_wp2
    refine HK1.out _ _ ?_
    exact HM.out w (by simp) (gb_refl _ _) _ _ _ _ _ _ _ _ _ _ _ _ _ _ _ _ _ _ _ _ _ _ _ _ _ _ _ _ _ _ _
  · have hse : s.toList.isEmpty = false := by
      cases hq : s.toList with
      | nil =>
        rw [ByteArray.toList_eq] at hq
        exact absurd (ByteArray.ext (by simpa using hq)) he
      | cons x l => rfl
    have hse' : s.data.toList ≠ [] := fun e => he (ByteArray.ext (by simpa using e))
    gi_wp2
    refine ⟨trivial, (callsIn_wide.2 HN.out).mono ?_⟩
    rintro e w1 ⟨rfl, g1⟩
    cases hb : isNameB s.data.toList with
    | true =>
      gi_wp2
      refine HK1.out _ _ ?_
      exact HM.out w1 (by rw [hb]; simp) g1 _ _ _ _ _ _ _ _ _ _ _ _ _ _ _ _ _ _ _ _ _ _ _ _ _ _ _ _ _ _ _
    | false =>
      have HP : Hid (((0, 2), t.rview) = openP t.view t.rview s.data.toList) := by
        show _ = _
        unfold openP
        rw [if_pos ⟨hse', hb⟩]
      clear hb
      gi_wp2
      refine bodyPost_ret (v := .tuple #[.int .i64 0, .int .i64 2]) (by simp [results, go_sem]) rfl ?_
      exact ⟨t, 0, 2, rfl, .same HH.out HO1.out g1, HRD.out, rfl, HP.out⟩

end Go.Proofs.YtcfdemhokbddiaaGreatDoor

/-
  Readings.Page.
-/
namespace Go.Proofs.YtcfdemhokbddiaaGreatDoor
open Go.RowKit

theorem Out.trans {m : Nat} {t t1 t2 : GT} {w w1 w2 : World} (h : Out m t t1 w w1) (k : Out m t1 t2 w1 w2) : Out m t t2 w w2 :=
  ⟨k.at_, k.ok, k.b.trans h.b, h.kept.then k.kept h.sub, fun x hx => by
    rcases k.sub x hx with h1 | h1
    · exact h.sub x h1
    · exact Or.inr (Nat.le_trans h.kept.size h1)⟩

/-- A line's place is one from which the lines can be gone on. -/
theorem plOk_of {F : List GF} {A B : List (Pl × List UInt8)} {x : Pl × List UInt8} (h : allIt (famT F) = A ++ x :: B) : PlOk F x.1 := by
  obtain ⟨P, y, S, Y1, Y2, e1, e2, e3, e4⟩ := flatten_cut h
  obtain ⟨f, h1, h2, _, h4⟩ := mapIdx_cut (f := fun i (f : List UInt8 × List (List (List UInt8))) => famIt i f.1 f.2) e1
  obtain ⟨hl, hf⟩ := List.getElem?_eq_some_iff.1 h1
  have hl' : P.length < F.length := by rw [famT_len] at hl; exact hl
  rw [famT_get hl'] at hf
  right
  rw [e2] at h2
  unfold famIt at h2
  cases Y1 with
  | nil =>
    simp only [List.nil_append, List.cons.injEq] at h2
    obtain ⟨rfl, rfl⟩ := h2
    exact ⟨hl', Or.inl ⟨rfl, rfl⟩⟩
  | cons z Y1 =>
    simp only [List.cons_append, List.cons.injEq] at h2
    obtain ⟨_, h2⟩ := h2
    obtain ⟨P', y', S', Z1, Z2, g1, g2, g3, g4⟩ := flatten_cut h2.symm
    obtain ⟨ls, k1, k2, _, k4⟩ := mapIdx_cut (f := fun j ls => serIt (β := List UInt8) P.length (j + 1) ls) g1
    obtain ⟨hs, hls⟩ := List.getElem?_eq_some_iff.1 k1
    rw [g2] at k2
    obtain ⟨q1, _⟩ := serIt_cut k2.symm
    have hZ : Z1.length < (serIt P.length (P'.length + 1) ls).length := by rw [← k2]; simp
    simp only [serIt, List.length_mapIdx] at hZ
    subst hf
    simp only [List.length_map] at hs
    simp only [List.getElem_map] at hls
    rw [← hls, serLines_len] at hZ
    rw [q1]
    exact ⟨hl', Or.inr ⟨Nat.succ_pos _, Nat.succ_le_of_lt hs, Nat.le_of_lt_succ hZ⟩⟩

/-- Who leaves a reading's lines at one of them goes on there. -/
theorem it_on {F : List GF} {its A : List (Pl × List UInt8)} (h : allIt (famT F) = A ++ its) (k : Nat) (hk : k < its.length) :
    itFrom (famT F) its[k].1 = its.drop k ∧ PlOk F its[k].1 ∧ ∃ A', allIt (famT F) = A' ++ itFrom (famT F) its[k].1 := by
  have e : allIt (famT F) = (A ++ its.take k) ++ its[k] :: its.drop (k + 1) := by
    rw [h, List.append_assoc]
    congr 1
    rw [← List.drop_eq_getElem_cons hk, List.take_append_drop]
  have e1 := it_again e
  rw [← List.drop_eq_getElem_cons hk] at e1
  exact ⟨e1, plOk_of e, A ++ its.take k, by rw [e1, h, List.append_assoc, List.take_append_drop]⟩

/-- What Page answers, and the readings behind it. -/
def pageP (R : RdV) (n k : Int) : (List (List UInt8) × Bool × Int) × RdV :=
  if n < 0 ∨ 3 ≤ n then (([], false, 8), R) else
  match R[n.toNat]? with
  | some (some (L, _)) =>
    if k < 1 ∨ 20 < k then (([], false, 4), R) else
    if k.toNat < L.length then ((L.take k.toNat, true, 0), R.set n.toNat (some (L.drop k.toNat, 0))) else ((L, false, 0), R.set n.toNat none)
  | _ => (([], false, 8), R)

theorem own_nil (w : World) (base : Nat) (e : TypeId) : w.ownsRow base e 1 (.slice none 0 0) 0 [] := ⟨rfl, Or.inl ⟨rfl, rfl⟩⟩

/-- What Page leaves. -/
def PageOut (m : Nat) (t : GT) (n k : Int) (w : World) (e : Ending) (w' : World) : Prop :=
  ∃ t' v lines more c, e = .returned (.tuple #[v, .bool more, .int .i64 c]) ∧ Out m t t' w w' ∧ t'.own = t.own ∧ RdOk t' ∧ t'.view = t.view ∧ w'.ownsRow w.heap.size 9 1 v lines.length (strs lines) ∧ ((lines, more, c), t'.rview) = pageP t.rview n k

theorem rdsV_get {rds : List (Option GR)} {j : Nat} {r : GR} (h : rds[j]? = some (some r)) : (rdsV rds)[j]? = some (some ((itFrom (famT r.fams) r.pl).map (·.2), r.idle)) := by
  unfold rdsV
  rw [List.getElem?_map, h]; rfl
theorem rdsV_set (rds : List (Option GR)) (j : Nat) (x : Option GR) : rdsV (rds.set j x) = (rdsV rds).set j (x.map fun r => ((itFrom (famT r.fams) r.pl).map (·.2), r.idle)) := by
  unfold rdsV
  rw [List.map_set]

set_option maxRecDepth 100000 in
set_option maxHeartbeats 2000000 in
theorem rdPage_any (t : GT) (n k : Int) (m : Nat) (w : World) (h : GT.At w t) (ho : GT.Ok m t) (hrd : RdOk t) (hm : m ≤ 4611686018427387904) (ht : Tab w) (h0 : ∀ b ∈ t.own, b ≠ 0) :
    Calls Tryz.prog 35 #[.pointer (some ⟨t.b, 3, none⟩), .int .i64 n, .int .i64 k] w (PageOut m t n k w) := by
  have HRET : Hid (∀ c, ((([], false, c), t.rview) = pageP t.rview n k) → PageOut m t n k w (.returned (.tuple #[.slice none 0 0, .bool false, .int .i64 c])) w) := fun c hc =>
    ⟨t, _, [], false, c, rfl, .same h ho (gb_refl _ _), rfl, hrd, rfl, own_nil _ _ _, hc⟩
  by_cases hn : n < 0
  · have HP : Hid ((([], false, 8), t.rview) = pageP t.rview n k) := by show _ = _; unfold pageP; rw [if_pos (Or.inl hn)]
    clear h ho hrd ht h0
    go_enter Tryz.func35, Tryz.ntmps35
    go_wp2
    refine bodyPost_ret (v := .tuple #[.slice none 0 0, .bool false, .int .i64 8]) (by simp [results, Tryz.results35, go_sem]) rfl ?_
    exact HRET.out 8 HP.out
  · by_cases hn3 : 3 ≤ n
    · have HP : Hid ((([], false, 8), t.rview) = pageP t.rview n k) := by show _ = _; unfold pageP; rw [if_pos (Or.inr hn3)]
      clear h ho hrd ht h0
      go_enter Tryz.func35, Tryz.ntmps35
      go_wp2
      refine bodyPost_ret (v := .tuple #[.slice none 0 0, .bool false, .int .i64 8]) (by simp [results, Tryz.results35, go_sem]) rfl ?_
      exact HRET.out 8 HP.out
    · obtain ⟨j, rfl⟩ : ∃ j : Nat, n = (j : Int) := ⟨n.toNat, by omega⟩
      have hj3 : (j : Int) < 3 := by omega
      have hjl : j < t.rds.length := by have := ho.rlen; omega
      have hcp := brd_ptr h.blk j hjl
      cases hr : t.rds[j] with
      | none =>
        rw [hr] at hcp
        simp only [rdPtr] at hcp
        have HP : Hid ((([], false, 8), t.rview) = pageP t.rview j k) := by
          show _ = _
          unfold pageP
          rw [if_neg (by omega), show t.rview[(j : Int).toNat]? = some none from by
            unfold GT.rview rdsV
            simp only [Int.toNat_natCast, List.getElem?_map, List.getElem?_eq_getElem hjl, hr]
            rfl]
        clear h ho hrd ht h0 hr
        go_enter Tryz.func35, Tryz.ntmps35
        go_wp2
        refine bodyPost_ret (v := .tuple #[.slice none 0 0, .bool false, .int .i64 8]) (by simp [results, Tryz.results35, go_sem]) rfl ?_
        exact HRET.out 8 HP.out
      | some r =>
        rw [hr] at hcp
        simp only [rdPtr] at hcp
        have hi : t.rds[j]? = some (some r) := by rw [List.getElem?_eq_getElem hjl, hr]
        have hmem : some r ∈ t.rds := List.mem_of_getElem? hi
        have hro := h.read r hmem
        have hrok := hrd r hmem
        obtain ⟨hl1, hl2⟩ := h.labR j r hi
        obtain ⟨sa, cap, hfv, _, _⟩ := hro.rows
        rw [List.length_map] at hfv
        obtain ⟨its, hits⟩ : ∃ its, itFrom (famT r.fams) r.pl = its := ⟨_, rfl⟩
        have hget : t.rview[(j : Int).toNat]? = some (some (its.map (·.2), r.idle)) := by
          rw [← hits]; exact rdsV_get hi
        have hpg : pageP t.rview j k = if k < 1 ∨ 20 < k then (([], false, 4), t.rview) else if k.toNat < (its.map (·.2)).length then (((its.map (·.2)).take k.toNat, true, 0), t.rview.set j (some ((its.map (·.2)).drop k.toNat, 0))) else ((its.map (·.2), false, 0), t.rview.set j none) := by
          unfold pageP
          rw [if_neg (by omega), hget]
          rfl
        by_cases hk1 : k < 1
        · have HP : Hid ((([], false, 4), t.rview) = pageP t.rview j k) := by show _ = _; rw [hpg, if_pos (Or.inl hk1)]
          clear h ho hrd ht h0 hr hi hmem hro hrok hl1 hl2 hfv hits hget hpg
          go_enter Tryz.func35, Tryz.ntmps35
          go_wp2
          refine bodyPost_ret (v := .tuple #[.slice none 0 0, .bool false, .int .i64 4]) (by simp [results, Tryz.results35, go_sem]) rfl ?_
          exact HRET.out 4 HP.out
        · by_cases hk2 : 20 < k
          · have HP : Hid ((([], false, 4), t.rview) = pageP t.rview j k) := by show _ = _; rw [hpg, if_pos (Or.inr hk2)]
            clear h ho hrd ht h0 hr hi hmem hro hrok hl1 hl2 hfv hits hget hpg
            go_enter Tryz.func35, Tryz.ntmps35
            go_wp2
            refine bodyPost_ret (v := .tuple #[.slice none 0 0, .bool false, .int .i64 4]) (by simp [results, Tryz.results35, go_sem]) rfl ?_
            exact HRET.out 4 HP.out
          · obtain ⟨most, rfl⟩ : ∃ most : Nat, k = (most : Int) := ⟨k.toNat, by omega⟩
            rw [if_neg (by omega)] at hpg
            simp only [Int.toNat_natCast, List.length_map] at hpg
            have hblk := hro.blk
            rw [hfv] at hblk
            have hrows := hro.rows
            rw [hfv] at hrows
            have hshr : ∀ b, t.lab b = .shr → r.b ≠ b := fun b hb e => by rw [← e, hl1] at hb; cases hb
            have hfar : r.b ≠ 0 ∧ r.b ∉ slBlk (.slice sa r.fams.length cap) ∧ ∀ g ∈ r.fams, r.b ∉ g.foot := by
              refine ⟨h0 _ (h.dom _ (by rw [hl1]; simp)), fun hm' => ?_, fun g hg hm' => ?_⟩
              · exact hshr r.b (hl2 r.b (by simp only [GR.foot, List.mem_append, hfv]; exact Or.inl hm')) rfl
              · exact hshr r.b (hl2 r.b (by simp only [GR.foot, List.mem_append, List.mem_flatMap]; exact Or.inr ⟨g, hg, hm'⟩)) rfl
            have HPG : Hid (Calls Tryz.prog 61 #[.pointer (some ⟨r.b, 0, none⟩), .int .i64 (most : Int)] w fun e w1 =>
                (∃ hlt : most < its.length, e = .returned (.tuple #[.slice (some ⟨w.heap.size + 4, 0, none⟩) most most, .bool true]) ∧ w1.ownsRow w.heap.size 9 1 (.slice (some ⟨w.heap.size + 4, 0, none⟩) most most) most (strs ((its.take most).map (·.2))) ∧ w1.heap[r.b]? = some (rdObj r.fv its[most].1 0) ∧ Kept [r.b] w w1) ∨
                (its.length ≤ most ∧ e = .returned (.tuple #[.slice (some ⟨w.heap.size + 4, 0, none⟩) its.length most, .bool false]) ∧ w1.ownsRow w.heap.size 9 1 (.slice (some ⟨w.heap.size + 4, 0, none⟩) its.length most) its.length (strs (its.map (·.2))) ∧ w1.heap[r.b]? = some (rdObj r.fv r.pl 0) ∧ Kept [r.b] w w1)) :=
              page_gen r.b sa cap r.fams r.pl r.idle m most w hblk hrows hro.each (ho.rok r hmem) hm ht hrok.pl hfar (by omega) (by omega) its hits _
                (fun w' hlt h1 h2 h3 => Or.inl ⟨hlt, rfl, h1, by rw [hfv]; exact h2, h3⟩) (fun w' hle h1 h2 h3 => Or.inr ⟨hle, rfl, h1, by rw [hfv]; exact h2, h3⟩)
            have HH : Hid (GT.At w t) := h
            have HO : Hid (GT.Ok m t) := ho
            have HRD : Hid (RdOk t) := hrd
            have HI : Hid (t.rds[j]? = some (some r)) := hi
            have HPGE : Hid (pageP t.rview j most = if most < its.length then (((its.map (·.2)).take most, true, 0), t.rview.set j (some ((its.map (·.2)).drop most, 0))) else ((its.map (·.2), false, 0), t.rview.set j none)) := hpg
            have HPART : Hid (∃ A, allIt (famT r.fams) = A ++ its) := by rw [← hits]; exact hrok.part
            have HITS : Hid (itFrom (famT r.fams) r.pl = its) := hits
            have hrb : r.b ≠ t.b := fun e => by have := h.labB; rw [← e, hl1] at this; cases this
            have hbl := lt_of h.blk
            have hm1 : (1 : Int) ≤ (most : Int) := by omega
            have hm2 : (most : Int) ≤ 20 := by omega
            have HRL : Hid (t.rds.length = 3) := ho.rlen
            clear h ho hrd ht h0 hr hi hmem hro hrok hl1 hl2 hfv hits hget hpg hblk hrows hshr hfar HRET
            go_enter Tryz.func35, Tryz.ntmps35
            go_wp2_with fail
            refine HPG.out.mono ?_
            rintro e w1 (⟨hlt, rfl, own1, hrd1, hk1'⟩ | ⟨hle, rfl, own1, hrd1, hk1'⟩)
            · have HOW : Hid (w1.ownsRow w.heap.size 9 1 (.slice (some ⟨w.heap.size + 4, 0, none⟩) most most) most (strs ((its.take most).map (·.2)))) := own1
              have HRB : Hid (w1.heap[r.b]? = some (rdObj r.fv its[most].1 0)) := hrd1
              have HKP : Hid (Kept [r.b] w w1) := hk1'
              clear own1 hrd1 hk1'
              go_wp2
              refine bodyPost_ret (v := .tuple #[.slice (some ⟨w.heap.size + 4, 0, none⟩) most most, .bool true, .int .i64 0]) (by simp [results, Tryz.results35, go_sem]) rfl ?_
              obtain ⟨A, hA⟩ := HPART.out
              obtain ⟨o1, o2, o3⟩ := it_on hA most hlt
              have hout := rd_upd HH.out HO.out HI.out its[most].1 0 HRB.out HKP.out
              have hlen : ((its.take most).map (·.2)).length = most := by simp; omega
              refine ⟨_, _, (its.take most).map (·.2), true, 0, rfl, hout, rfl, ?_, rfl, by rw [hlen]; exact HOW.out, ?_⟩
              · intro r' hr'
                rcases List.mem_or_eq_of_mem_set hr' with hr' | e
                · exact HRD.out r' hr'
                · obtain rfl := Option.some.inj e
                  exact ⟨o2, o3, by show 0 ≤ 4; omega⟩
              · rw [HPGE.out, if_pos hlt]
                show _ = ((_, true, 0), _)
                rw [← List.map_take]
                congr 1
                show rdsV (t.rds.set j _) = _
                rw [rdsV_set]
                show (rdsV t.rds).set j (some ((itFrom (famT r.fams) its[most].1).map (·.2), 0)) = _
                rw [o1, List.map_drop]; rfl
            · have hb1 := (hk1'.block t.b hbl (by simpa using fun e => hrb e.symm)).trans HH.out.blk
              have cp := brd_ptr hb1 j (by rw [HRL.out]; omega)
              have cf := brd_froz hb1 (3 + j)
              have HOW : Hid (w1.ownsRow w.heap.size 9 1 (.slice (some ⟨w.heap.size + 4, 0, none⟩) its.length most) its.length (strs (its.map (·.2)))) := own1
              have HRB : Hid (w1.heap[r.b]? = some (rdObj r.fv r.pl 0)) := hrd1
              have HKP : Hid (Kept [r.b] w w1) := hk1'
              have HB1 : Hid (w1.heap[t.b]? = some (brdObj t.age t.lage t.fv (t.rds.map rdPtr))) := hb1
              generalize rdPtr t.rds[j] = rp at cp
              clear own1 hrd1 hk1' hb1
              go_wp2
              refine bodyPost_ret (v := .tuple #[.slice (some ⟨w.heap.size + 4, 0, none⟩) its.length most, .bool false, .int .i64 0]) (by simp [results, Tryz.results35, go_sem]) rfl ?_
              have hout := rd_upd HH.out HO.out HI.out r.pl 0 HRB.out HKP.out
              have hb2 : (w1.setCell ⟨t.b, 3 + j, none⟩ (.pointer none)).heap[t.b]? = some (brdObj t.age t.lage t.fv (((t.rds.set j (some { r with pl := r.pl, idle := 0 })).set j none).map rdPtr)) := by
                rw [List.set_set]
                exact brd_setp HB1.out j none
              have hout2 := rd_drop hout.at_ hout.ok j hb2 (Kept.of_some (gb_setCell _ _ _ _) _ (Or.inl (by simp)))
              refine ⟨_, _, its.map (·.2), false, 0, rfl, hout.trans hout2, rfl, ?_, rfl, ?_, ?_⟩
              · intro r' hr'
                have hr2 : some r' ∈ ((t.rds.set j (some { r with pl := r.pl, idle := 0 })).set j none) := hr'
                rw [List.set_set] at hr2
                rcases List.mem_or_eq_of_mem_set hr2 with hr' | e
                · exact HRD.out r' hr'
                · cases e
              · rw [List.length_map]
                exact own_frame HOW.out fun b hb => Below.heap_setCell _ _ _ _ (by
                  have e : b = w.heap.size + 4 := by simpa [Value.ownBlock] using hb
                  show b ≠ t.b
                  omega)
              · rw [HPGE.out, if_neg (by omega)]
                congr 1
                show rdsV ((t.rds.set j _).set j none) = _
                rw [List.set_set, rdsV_set]; rfl

end Go.Proofs.YtcfdemhokbddiaaGreatDoor
