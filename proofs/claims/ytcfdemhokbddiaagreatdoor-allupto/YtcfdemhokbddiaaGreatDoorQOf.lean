/-
  Readings.Tick.
-/
import Derived.Test.YtcfdemhokbddiaaGreatDoorQOd

namespace Go.Proofs.YtcfdemhokbddiaaGreatDoor
open Go.RowKit

def tick1 : Option (List (List UInt8) × Nat) → Option (List (List UInt8) × Nat)
  | none => none
  | some (L, d) => if d = 4 then none else some (L, d + 1)
theorem tick1_more {L : List (List UInt8)} {d : Nat} (h : d ≠ 4) : tick1 (some (L, d)) = some (L, d + 1) := if_neg h
theorem tick1_over {L : List (List UInt8)} {d : Nat} (h : d = 4) : tick1 (some (L, d)) = none := if_pos h
def tickP (R : RdV) : RdV := R.map tick1

/-- The first i readings are a tick older. -/
structure TickI (m : Nat) (t t' : GT) (w wr : World) (i : Nat) : Prop where
  out : Out m t t' w wr
  own : t'.own = t.own
  ok : RdOk t'
  view : t'.view = t.view
  front : ∀ j, j < i → (rdsV t'.rds)[j]? = (tickP (rdsV t.rds))[j]?
  back : ∀ j, i ≤ j → t'.rds[j]? = t.rds[j]?

theorem TickI.nil {m : Nat} {t t' : GT} {w wr : World} {i : Nat} (h : TickI m t t' w wr i) (hi : t.rds[i]? = some none) : TickI m t t' w wr (i + 1) := by
  refine ⟨h.out, h.own, h.ok, h.view, fun j hj => ?_, fun j hj => h.back j (by omega)⟩
  by_cases e : j = i
  · subst e
    unfold rdsV tickP
    simp only [List.getElem?_map, h.back j (Nat.le_refl _), hi]
    rfl
  · exact h.front j (by omega)
theorem TickI.more {m : Nat} {t t' : GT} {w wr w2 : World} {i : Nat} {r : GR} (h : TickI m t t' w wr i) (hi : t.rds[i]? = some (some r)) (hr : r.idle < 4) (hb : w2.heap[r.b]? = some (rdObj r.fv r.pl (r.idle + 1))) (hk : Kept [r.b] wr w2) : ∃ t2, TickI m t t2 w w2 (i + 1) := by
  have hi' := (h.back i (Nat.le_refl _)).trans hi
  have hout := rd_upd h.out.at_ h.out.ok hi' r.pl (r.idle + 1) hb hk
  refine ⟨_, h.out.trans hout, h.own, fun r' hr' => ?_, h.view, fun j hj => ?_, fun j hj => ?_⟩
  · rcases List.mem_or_eq_of_mem_set hr' with hr' | e
    · exact h.ok r' hr'
    · obtain rfl := Option.some.inj e
      have := h.ok r (List.mem_of_getElem? hi')
      exact ⟨this.pl, this.part, by show r.idle + 1 ≤ 4; omega⟩
  · show (rdsV (t'.rds.set i _))[j]? = _
    rw [rdsV_set, List.getElem?_set]
    by_cases e : i = j
    · subst e
      have hil := (List.getElem?_eq_some_iff.1 hi').1
      rw [if_pos rfl, if_pos (by simpa [rdsV] using hil)]
      unfold tickP
      rw [List.getElem?_map, rdsV_get hi]
      show some _ = some (tick1 (some _))
      rw [tick1_more (by omega)]
      rfl
    · rw [if_neg e]; exact h.front j (by omega)
  · show (t'.rds.set i _)[j]? = _
    rw [List.getElem?_set, if_neg (by omega)]
    exact h.back j (by omega)
theorem TickI.over {m : Nat} {t t' : GT} {w wr w2 w3 : World} {i : Nat} {r : GR} (h : TickI m t t' w wr i) (hi : t.rds[i]? = some (some r)) (hr : r.idle = 4) (hb : w2.heap[r.b]? = some (rdObj r.fv r.pl (r.idle + 1))) (hk : Kept [r.b] wr w2)
    (hw3 : w3 = w2.setCell ⟨t.b, 3 + i, none⟩ (.pointer none)) : ∃ t2, TickI m t t2 w w3 (i + 1) := by
  have hi' := (h.back i (Nat.le_refl _)).trans hi
  have hout := rd_upd h.out.at_ h.out.ok hi' r.pl (r.idle + 1) hb hk
  have hb3 : w3.heap[t'.b]? = some (brdObj t'.age t'.lage t'.fv (((t'.rds.set i (some { r with pl := r.pl, idle := r.idle + 1 })).set i none).map rdPtr)) := by
    rw [hw3, ← h.out.b]
    exact brd_setp hout.at_.blk i none
  have hout2 := rd_drop hout.at_ hout.ok i hb3 (show Kept [t'.b] w2 w3 by rw [hw3, h.out.b]; exact Kept.of_some (gb_setCell _ _ _ _) _ (Or.inl (by simp)))
  refine ⟨_, (h.out.trans hout).trans hout2, h.own, fun r' hr' => ?_, h.view, fun j hj => ?_, fun j hj => ?_⟩
  · have hr2 : some r' ∈ ((t'.rds.set i (some { r with pl := r.pl, idle := r.idle + 1 })).set i none) := hr'
    rw [List.set_set] at hr2
    rcases List.mem_or_eq_of_mem_set hr2 with hr' | e
    · exact h.ok r' hr'
    · cases e
  · show (rdsV ((t'.rds.set i _).set i none))[j]? = _
    rw [List.set_set, rdsV_set, List.getElem?_set]
    by_cases e : i = j
    · subst e
      have hil := (List.getElem?_eq_some_iff.1 hi').1
      rw [if_pos rfl, if_pos (by simpa [rdsV] using hil)]
      unfold tickP
      rw [List.getElem?_map, rdsV_get hi]
      show some _ = some (tick1 (some _))
      rw [tick1_over hr]
      rfl
    · rw [if_neg e]; exact h.front j (by omega)
  · show ((t'.rds.set i _).set i none)[j]? = _
    rw [List.set_set, List.getElem?_set, if_neg (by omega)]
    exact h.back j (by omega)

theorem ix0 (a b c : Value) (w : World) : (Instr.index 72 (.agg #[a, b, c]) (.int .i64 0)).run Tryz.prog w = .ok a w := by kernel_rfl
theorem ix1 (a b c : Value) (w : World) : (Instr.index 72 (.agg #[a, b, c]) (.int .i64 1)).run Tryz.prog w = .ok b w := by kernel_rfl
theorem ix2 (a b c : Value) (w : World) : (Instr.index 72 (.agg #[a, b, c]) (.int .i64 2)).run Tryz.prog w = .ok c w := by kernel_rfl
theorem idle_cell {w : World} {b : Nat} {fv : Value} {p : Pl} {d : Nat} (h : w.heap[b]? = some (rdObj fv p d)) : w.cell? ⟨b, 4, none⟩ = some (.int .i64 (d : Int)) ∧ w.frozen? ⟨b, 4, none⟩ = false ∧ (w.setCell ⟨b, 4, none⟩ (.int .i64 ((d : Int) + 1))).heap[b]? = some (rdObj fv p (d + 1)) :=
  ⟨(rd_cells h).2.2.2.2, rd_froz h 4, by have := rd_set h (d + 1); simpa using this⟩

set_option maxRecDepth 100000 in
set_option maxHeartbeats 2000000 in
theorem rdTick_any (t : GT) (m : Nat) (w : World) (h : GT.At w t) (ho : GT.Ok m t) (hrd : RdOk t) :
    Calls Tryz.prog 37 #[.pointer (some ⟨t.b, 3, none⟩)] w fun e w' => e = .returned (.tuple #[]) ∧ ∃ t', Out m t t' w w' ∧ t'.own = t.own ∧ RdOk t' ∧ t'.view = t.view ∧ t'.rview = tickP t.rview := by
  obtain ⟨x0, x1, x2, hx⟩ : ∃ x0 x1 x2, t.rds = [x0, x1, x2] := by
    have := ho.rlen
    match hq : t.rds, this with
    | [a, b, c], _ => exact ⟨a, b, c, rfl⟩
  have c0 := brd_ptr h.blk 0 (by rw [hx]; simp)
  have c1 := brd_ptr h.blk 1 (by rw [hx]; simp)
  have c2 := brd_ptr h.blk 2 (by rw [hx]; simp)
  simp only [hx, List.getElem_cons_zero, List.getElem_cons_succ, Nat.reduceAdd] at c0 c1 c2
  have HT0 : Hid (TickI m t t w w 0) := ⟨.same h ho (gb_refl _ _), rfl, hrd, rfl, fun j hj => by omega, fun j _ => rfl⟩
  have HX : Hid (t.rds = [x0, x1, x2]) := hx
  have HF : Hid (∀ t' wr i, TickI m t t' w wr i → wr.heap[t.b]? = some (brdObj t'.age t'.lage t'.fv (t'.rds.map rdPtr)) ∧ t'.rds.length = 3 ∧ ∀ r, t.rds[i]? = some (some r) → wr.heap[r.b]? = some (rdObj r.fv r.pl r.idle) ∧ r.idle ≤ 4 ∧ r.b ≠ t.b) := fun t' wr i hT => by
    refine ⟨by rw [← hT.out.b]; exact hT.out.at_.blk, hT.out.ok.rlen, fun r hr => ?_⟩
    have hr' := (hT.back i (Nat.le_refl _)).trans hr
    have hm := List.mem_of_getElem? hr'
    refine ⟨(hT.out.at_.read r hm).blk, (hT.ok r hm).idle, fun e => ?_⟩
    have h1 := (hT.out.at_.labR i r hr').1
    have h2 := hT.out.at_.labB
    rw [hT.out.b, ← e, h1] at h2
    cases h2
  clear h ho hrd hx
  go_enter Tryz.func37, Tryz.ntmps37
  go_wp2_with fail
  go_loopw [8] (fun v wr => ∃ i : Nat, v = .int .i64 (i : Int) ∧ i ≤ 3 ∧ Hid (∃ t', TickI m t t' w wr i)) (fun v _ => 3 - (intOf v).toNat)
  case atStart => exact ⟨0, rfl, by omega, t, HT0.out⟩
  case round =>
    obtain ⟨i, rfl, hi, HTI⟩ := hrel
    clear c0 c1 c2 HT0
    by_cases hlt : i < 3
    · have hi012 : i = 0 ∨ i = 1 ∨ i = 2 := by omega
      clear hlt hi
      rcases hi012 with rfl | rfl | rfl
      · obtain ⟨t', hT⟩ := HTI.out
        obtain ⟨hb, hl, hrr⟩ := HF.out t' wr 0 hT
        have HTT : Hid (TickI m t t' w wr 0) := hT
        have hix := ix0 (rdPtr x0) (rdPtr x1) (rdPtr x2)
        generalize hpE : rdPtr x0 = px at hix ⊢
        cases hx : x0 with
        | none =>
          obtain rfl : px = .pointer none := by rw [← hpE, hx]; rfl
          have HN : Hid (TickI m t t' w wr (0 + 1)) := hT.nil (by rw [HX.out]; simp [hx])
          have HXX : Hid (x0 = none) := hx
          clear hx hb hl hrr hT hpE
          go_wp2
          go_roundw
          case rel => exact ⟨0 + 1, by go_num, by omega, t', HN.out⟩
          case measure => simp [intOf]
        | some r =>
          obtain rfl : px = .pointer (some ⟨r.b, 0, none⟩) := by rw [← hpE, hx]; rfl
          have hir : t.rds[0]? = some (some r) := by rw [HX.out]; simp [hx]
          obtain ⟨hrb, hle, hne⟩ := hrr r hir
          obtain ⟨q1, q2, q3⟩ := idle_cell hrb
          have cp := brd_ptr hb 0 (by omega)
          simp only [Nat.reduceAdd] at cp
          have cf := brd_froz hb 3
          generalize rdPtr t'.rds[0] = rp at cp
          have gS := gb_setCell wr r.b 4 (.int .i64 ((r.idle : Int) + 1))
          have cp' := gb_cell gS cp (by simpa using fun e => hne e.symm)
          have cf' := gb_froz gS (lt_of hb) cf (by simpa using fun e => hne e.symm)
          have HQ3 : Hid ((wr.setCell ⟨r.b, 4, none⟩ (.int .i64 ((r.idle : Int) + 1))).heap[r.b]? = some (rdObj r.fv r.pl (r.idle + 1))) := q3
          have HKS : Hid (Kept [r.b] wr (wr.setCell ⟨r.b, 4, none⟩ (.int .i64 ((r.idle : Int) + 1)))) := Kept.of_some gS _ (Or.inl (by simp))
          have HXX : Hid (x0 = some r) := hx
          have HIR : Hid (t.rds[0]? = some (some r)) := hir
          have hdb : (r.idle : Int) + 1 ≤ 5 := by omega
          clear hx hb hl hrr hT hrb q3 gS hir hpE
          by_cases h4 : r.idle = 4
          · have h4' : (r.idle : Int) + 1 = 5 := by omega
            have HMO := HTT.out.over (w3 := (wr.setCell ⟨r.b, 4, none⟩ (.int .i64 ((r.idle : Int) + 1))).setCell ⟨t.b, 3 + 0, none⟩ (.pointer none)) HIR.out h4 HQ3.out HKS.out rfl
            have HM : Hid (∃ t2, TickI m t t2 w ((wr.setCell ⟨r.b, 4, none⟩ (.int .i64 ((r.idle : Int) + 1))).setCell ⟨t.b, 3, none⟩ (.pointer none)) (0 + 1)) := HMO
            rw [h4'] at cp' cf' HM
            clear HMO h4 HQ3 HKS
            go_wp2
            go_roundw
            case rel => exact ⟨0 + 1, by go_num, by omega, HM.out⟩
            case measure => simp [intOf]
          · have h4' : ((r.idle : Int) + 1 == 5) = false := by simp; omega
            have HM : Hid (∃ t2, TickI m t t2 w (wr.setCell ⟨r.b, 4, none⟩ (.int .i64 ((r.idle : Int) + 1))) (0 + 1)) := HTT.out.more HIR.out (by omega) HQ3.out HKS.out
            clear HQ3 HKS
            go_wp2
            go_roundw
            case rel => exact ⟨0 + 1, by go_num, by omega, HM.out⟩
            case measure => simp [intOf]
      · obtain ⟨t', hT⟩ := HTI.out
        obtain ⟨hb, hl, hrr⟩ := HF.out t' wr 1 hT
        have HTT : Hid (TickI m t t' w wr 1) := hT
        have hix := ix1 (rdPtr x0) (rdPtr x1) (rdPtr x2)
        generalize hpE : rdPtr x1 = px at hix ⊢
        cases hx : x1 with
        | none =>
          obtain rfl : px = .pointer none := by rw [← hpE, hx]; rfl
          have HN : Hid (TickI m t t' w wr (1 + 1)) := hT.nil (by rw [HX.out]; simp [hx])
          have HXX : Hid (x1 = none) := hx
          clear hx hb hl hrr hT hpE
          go_wp2
          go_roundw
          case rel => exact ⟨1 + 1, by go_num, by omega, t', HN.out⟩
          case measure => simp [intOf]
        | some r =>
          obtain rfl : px = .pointer (some ⟨r.b, 0, none⟩) := by rw [← hpE, hx]; rfl
          have hir : t.rds[1]? = some (some r) := by rw [HX.out]; simp [hx]
          obtain ⟨hrb, hle, hne⟩ := hrr r hir
          obtain ⟨q1, q2, q3⟩ := idle_cell hrb
          have cp := brd_ptr hb 1 (by omega)
          simp only [Nat.reduceAdd] at cp
          have cf := brd_froz hb 4
          generalize rdPtr t'.rds[1] = rp at cp
          have gS := gb_setCell wr r.b 4 (.int .i64 ((r.idle : Int) + 1))
          have cp' := gb_cell gS cp (by simpa using fun e => hne e.symm)
          have cf' := gb_froz gS (lt_of hb) cf (by simpa using fun e => hne e.symm)
          have HQ3 : Hid ((wr.setCell ⟨r.b, 4, none⟩ (.int .i64 ((r.idle : Int) + 1))).heap[r.b]? = some (rdObj r.fv r.pl (r.idle + 1))) := q3
          have HKS : Hid (Kept [r.b] wr (wr.setCell ⟨r.b, 4, none⟩ (.int .i64 ((r.idle : Int) + 1)))) := Kept.of_some gS _ (Or.inl (by simp))
          have HXX : Hid (x1 = some r) := hx
          have HIR : Hid (t.rds[1]? = some (some r)) := hir
          have hdb : (r.idle : Int) + 1 ≤ 5 := by omega
          clear hx hb hl hrr hT hrb q3 gS hir hpE
          by_cases h4 : r.idle = 4
          · have h4' : (r.idle : Int) + 1 = 5 := by omega
            have HMO := HTT.out.over (w3 := (wr.setCell ⟨r.b, 4, none⟩ (.int .i64 ((r.idle : Int) + 1))).setCell ⟨t.b, 3 + 1, none⟩ (.pointer none)) HIR.out h4 HQ3.out HKS.out rfl
            have HM : Hid (∃ t2, TickI m t t2 w ((wr.setCell ⟨r.b, 4, none⟩ (.int .i64 ((r.idle : Int) + 1))).setCell ⟨t.b, 4, none⟩ (.pointer none)) (1 + 1)) := HMO
            rw [h4'] at cp' cf' HM
            clear HMO h4 HQ3 HKS
            go_wp2
            go_roundw
            case rel => exact ⟨1 + 1, by go_num, by omega, HM.out⟩
            case measure => simp [intOf]
          · have h4' : ((r.idle : Int) + 1 == 5) = false := by simp; omega
            have HM : Hid (∃ t2, TickI m t t2 w (wr.setCell ⟨r.b, 4, none⟩ (.int .i64 ((r.idle : Int) + 1))) (1 + 1)) := HTT.out.more HIR.out (by omega) HQ3.out HKS.out
            clear HQ3 HKS
            go_wp2
            go_roundw
            case rel => exact ⟨1 + 1, by go_num, by omega, HM.out⟩
            case measure => simp [intOf]
      · obtain ⟨t', hT⟩ := HTI.out
        obtain ⟨hb, hl, hrr⟩ := HF.out t' wr 2 hT
        have HTT : Hid (TickI m t t' w wr 2) := hT
        have hix := ix2 (rdPtr x0) (rdPtr x1) (rdPtr x2)
        generalize hpE : rdPtr x2 = px at hix ⊢
        cases hx : x2 with
        | none =>
          obtain rfl : px = .pointer none := by rw [← hpE, hx]; rfl
          have HN : Hid (TickI m t t' w wr (2 + 1)) := hT.nil (by rw [HX.out]; simp [hx])
          have HXX : Hid (x2 = none) := hx
          clear hx hb hl hrr hT hpE
          go_wp2
          go_roundw
          case rel => exact ⟨2 + 1, by go_num, by omega, t', HN.out⟩
          case measure => simp [intOf]
        | some r =>
          obtain rfl : px = .pointer (some ⟨r.b, 0, none⟩) := by rw [← hpE, hx]; rfl
          have hir : t.rds[2]? = some (some r) := by rw [HX.out]; simp [hx]
          obtain ⟨hrb, hle, hne⟩ := hrr r hir
          obtain ⟨q1, q2, q3⟩ := idle_cell hrb
          have cp := brd_ptr hb 2 (by omega)
          simp only [Nat.reduceAdd] at cp
          have cf := brd_froz hb 5
          generalize rdPtr t'.rds[2] = rp at cp
          have gS := gb_setCell wr r.b 4 (.int .i64 ((r.idle : Int) + 1))
          have cp' := gb_cell gS cp (by simpa using fun e => hne e.symm)
          have cf' := gb_froz gS (lt_of hb) cf (by simpa using fun e => hne e.symm)
          have HQ3 : Hid ((wr.setCell ⟨r.b, 4, none⟩ (.int .i64 ((r.idle : Int) + 1))).heap[r.b]? = some (rdObj r.fv r.pl (r.idle + 1))) := q3
          have HKS : Hid (Kept [r.b] wr (wr.setCell ⟨r.b, 4, none⟩ (.int .i64 ((r.idle : Int) + 1)))) := Kept.of_some gS _ (Or.inl (by simp))
          have HXX : Hid (x2 = some r) := hx
          have HIR : Hid (t.rds[2]? = some (some r)) := hir
          have hdb : (r.idle : Int) + 1 ≤ 5 := by omega
          clear hx hb hl hrr hT hrb q3 gS hir hpE
          by_cases h4 : r.idle = 4
          · have h4' : (r.idle : Int) + 1 = 5 := by omega
            have HMO := HTT.out.over (w3 := (wr.setCell ⟨r.b, 4, none⟩ (.int .i64 ((r.idle : Int) + 1))).setCell ⟨t.b, 3 + 2, none⟩ (.pointer none)) HIR.out h4 HQ3.out HKS.out rfl
            have HM : Hid (∃ t2, TickI m t t2 w ((wr.setCell ⟨r.b, 4, none⟩ (.int .i64 ((r.idle : Int) + 1))).setCell ⟨t.b, 5, none⟩ (.pointer none)) (2 + 1)) := HMO
            rw [h4'] at cp' cf' HM
            clear HMO h4 HQ3 HKS
            go_wp2
            go_roundw
            case rel => exact ⟨2 + 1, by go_num, by omega, HM.out⟩
            case measure => simp [intOf]
          · have h4' : ((r.idle : Int) + 1 == 5) = false := by simp; omega
            have HM : Hid (∃ t2, TickI m t t2 w (wr.setCell ⟨r.b, 4, none⟩ (.int .i64 ((r.idle : Int) + 1))) (2 + 1)) := HTT.out.more HIR.out (by omega) HQ3.out HKS.out
            clear HQ3 HKS
            go_wp2
            go_roundw
            case rel => exact ⟨2 + 1, by go_num, by omega, HM.out⟩
            case measure => simp [intOf]
    · obtain rfl : i = 3 := by omega
      go_wp2
      go_end0
      obtain ⟨t', hT⟩ := HTI.out
      refine ⟨rfl, t', hT.out, hT.own, hT.ok, hT.view, ?_⟩
      unfold GT.rview
      apply List.ext_getElem?
      intro j
      by_cases hj : j < 3
      · exact hT.front j hj
      · rw [List.getElem?_eq_none (by simp only [rdsV, List.length_map, hT.out.ok.rlen]; omega), List.getElem?_eq_none (by simp only [tickP, rdsV, List.length_map, HX.out, List.length_cons, List.length_nil]; omega)]

end Go.Proofs.YtcfdemhokbddiaaGreatDoor
