/-
  Tally.own: a family is given to who changes it.
-/
import Derived.Test.YtcfdemhokbddiaaGreatDoorQKn

namespace Go.Proofs.YtcfdemhokbddiaaGreatDoor
open Go.RowKit

set_option maxRecDepth 100000 in
set_option maxHeartbeats 2000000 in
theorem tOwn (t : GT) (A B' : List GF) (g : GF) (m : Nat) (w : World) (h : GT.At w t) (ho : GT.Ok m t) (e0 : t.fams = A ++ g :: B') :
    Calls Tryz.prog 67 #[.pointer (some ⟨t.b, 0, none⟩), .pointer (some ⟨g.b, 0, none⟩)] w
      fun r w' => ∃ t' g', r = .returned (.pointer (some ⟨g'.b, 0, none⟩)) ∧ g' = { g with b := g'.b, age := t.age, sv := g'.sv } ∧ Upd t t' w w' (A ++ g' :: B') := by
  have hgm : g ∈ t.fams := by rw [e0]; simp
  have hg := h.each g hgm
  have hgo := ho.each g hgm
  obtain ⟨x0, x1, x2⟩ := tally_cells h.blk
  have gA := fam_age hg.blk
  have gN := (fam_cells hg.blk).1
  by_cases hage : g.age = t.age
  · have hae : ((g.age : Int) == (t.age : Int)) = true := by simp [hage]
    have HU : Hid (∀ W, w.grownBy W none → Upd t t w W (A ++ g :: B')) := fun W gW => by rw [← e0]; exact Upd.same h gW
    have HG : Hid (g = { g with b := g.b, age := t.age, sv := g.sv }) := by show _ = _; rw [← hage]
    clear h ho hg hgo
    go_enter Tryz.func67, Tryz.ntmps67
    go_wp2_with fail
    go_quiet (fail)
    go_wp2
    go_ret
    exact ⟨t, g, rfl, HG.out, HU.out _ (gb_drewN _ _ _)⟩
  · have hlt : g.age < t.age := by have := ho.ages g hgm; omega
    have hae : ((g.age : Int) == (t.age : Int)) = false := by simp; omega
    have hlen := ho.len
    have hal : A.length < t.fams.length := by rw [e0]; simp
    have hali : (A.length : Int) < (t.fams.length : Int) := by omega
    obtain ⟨L0, cap0, hfv⟩ : ∃ ga cap, t.fv = .slice (some ⟨ga, 0, none⟩) t.fams.length cap := by
      rcases h.rows.2 with ⟨_, h0⟩ | ⟨g', cap', cur, hv, _⟩
      · omega
      · exact ⟨g', cap', hv⟩
    have hrow0 := h.rows
    rw [hfv] at hrow0 x2
    have hzf := fun o => brd_froz h.blk o
    have htl := lt_of h.blk
    have HH : Hid (GT.At w t) := h
    have HO : Hid (GT.Ok m t) := ho
    have HE : Hid (t.fams = A ++ g :: B') := e0
    have HFV : Hid (t.fv = .slice (some ⟨L0, 0, none⟩) t.fams.length cap0) := hfv
    have HX : Hid (GF.At w g) := hg
    have HGO : Hid (GF.Ok m g) := hgo
    have HGM : Hid (g ∈ t.fams) := hgm
    have HMID : Hid (∀ w', t.lage = t.age → w.grownBy w' none → OwnMid t w w' L0 cap0) := fun w' hl hg' => by
      refine ⟨?_, hrow0.kept hg' (ownNe _), Kept.of_none hg' _, Or.inl ?_⟩
      · have := (hg'.block _ htl (by simp)).trans h.blk
        rw [hfv, hl] at this; exact this
      · have := h.labL L0 (by rw [hfv]; simp [Value.ownBlock])
        rw [if_pos hl] at this; exact this
    have HCL : Hid (∀ W : World, w.grownBy W none → Calls Tryz.prog 99 #[.slice (some ⟨L0, 0, none⟩) t.fams.length cap0] W fun e w' => ∃ ga cap, e = .returned (.slice (some ⟨ga, 0, none⟩) t.fams.length cap) ∧ OwnMid t w ((w'.setCell ⟨t.b, 2, none⟩ (.slice (some ⟨ga, 0, none⟩) t.fams.length cap)).setCell ⟨t.b, 1, none⟩ (.int .i64 (t.age : Int))) ga cap ∧ w'.cell? ⟨t.b, 0, none⟩ = some (.int .i64 (t.age : Int)) ∧ w'.cell? ⟨t.b, 1, none⟩ = some (.int .i64 (t.lage : Int)) ∧ w'.cell? ⟨t.b, 2, none⟩ = some (.slice (some ⟨L0, 0, none⟩) t.fams.length cap0) ∧ w'.frozen? ⟨t.b, 1, none⟩ = false ∧ w'.frozen? ⟨t.b, 2, none⟩ = false) := fun W gW => by
      have hc := cloneF_any (.slice (some ⟨L0, 0, none⟩) t.fams.length cap0) 0 (t.fams.map GF.b) W (by simpa using hrow0.kept gW (ownNe _)) (by simp; omega)
      refine hc.mono ?_
      rintro e w' ⟨u, rfl, own, g1⟩
      have G := gb_trans gW g1
      simp only [List.length_map] at own
      obtain ⟨ga, cap, rfl, hga⟩ : ∃ ga cap, u = .slice (some ⟨ga, 0, none⟩) t.fams.length cap ∧ W.heap.size ≤ ga := by
        rcases own.2 with ⟨_, h0⟩ | ⟨g', cap', cur, hv, hb, _⟩
        · omega
        · exact ⟨g', cap', hv, hb⟩
      have hb0 := (G.block _ htl (by simp)).trans h.blk
      have hgw := gW.size
      have htg : t.b ≠ ga := by omega
      refine ⟨ga, cap, rfl, ⟨brd_set1 (brd_set2 hb0 _) _, ?_, ?_, Or.inr (by omega)⟩, gb_cell G x0 (by simp), gb_cell G x1 (by simp), gb_cell G x2 (by simp), gb_froz G htl (hzf 1) (by simp), gb_froz G htl (hzf 2) (by simp)⟩
      · exact own_base0 (own_frame own fun b hb => by
          have e : b = ga := by simpa [Value.ownBlock] using hb
          rw [e, Below.heap_setCell _ _ _ _ (by show ga ≠ t.b; exact fun e => htg e.symm), Below.heap_setCell _ _ _ _ (by show ga ≠ t.b; exact fun e => htg e.symm)])
      · exact ((Kept.of_none G [t.b]).trans (Kept.of_some (gb_setCell _ _ _ _) _ (Or.inl (by simp)))).trans (Kept.of_some (gb_setCell _ _ _ _) _ (Or.inl (by simp)))
    clear h ho hg hgo hrow0 hfv e0 hgm
    go_enter Tryz.func67, Tryz.ntmps67
    go_wp2_with fail
    go_quiet (fail)
    go_wp2_with fail
    obtain ⟨W, hW⟩ : ∃ W, w.drewN nq = W := ⟨_, rfl⟩
    have gW : w.grownBy W none := by rw [← hW]; exact gb_drewN _ _ _
    rw [hW]
    have y0 := gb_cell gW x0 (by simp)
    have y1 := gb_cell gW x1 (by simp)
    have y2 := gb_cell gW x2 (by simp)
    clear hW x0 x1 x2 gA
    go_cut [25] (fun v w' => v = .bool (decide (t.lage < t.age)) ∧ w.grownBy w' none)
    case first =>
      go_quiet (fail)
      go_wp2
      go_meet
      case rel => exact ⟨rfl, gb_d gW⟩
    case rest =>
      obtain ⟨rfl, gc⟩ := hcut
      have z0 := gb_cell gc (by exact (tally_cells HH.out.blk).1) (by simp)
      have z2 := gb_cell gc (by exact (tally_cells HH.out.blk).2.2) (by simp)
      rw [HFV.out] at z2
      clear y0 y1 y2 gW
      go_upto_if 25 with fail
      go_cut [] (fun w' => ∃ L cap, Hid (OwnMid t w w' L cap))
      case first =>
        by_cases hla : t.lage < t.age
        · have hd : decide (t.lage < t.age) = true := decide_eq_true hla
          obtain ⟨W, hW⟩ : ∃ W, wc = W := ⟨_, rfl⟩
          rw [hd]
          have HC : Hid (Calls Tryz.prog 99 #[.slice (some ⟨L0, 0, none⟩) t.fams.length cap0] wc.drew _) := HCL.out wc.drew (gb_d (q := 1) gc)
          clear hd hla hW
          go_wp2_with fail
          go_region_with (go_at_call 99; refine HC.out.mono ?_; rintro e w1 ⟨ga, cap, rfl, hm, m0, m1, m2, mz1, mz2⟩)
          all_goals
            go_wp2
            go_meet
            case rel => exact ⟨ga, cap, hm⟩
        · have hd : decide (t.lage < t.age) = false := decide_eq_false hla
          have hle : t.lage = t.age := by have := HO.out.lage; omega
          have hm := HMID.out wc hle gc
          have HM : Hid (OwnMid t w wc L0 cap0) := hm
          rw [hd]
          clear hd hla hle hm
          go_wp2
          go_meet
          case rel => exact ⟨L0, cap0, HM⟩
      case rest =>
        obtain ⟨L, cap, HM⟩ := hcut
        obtain ⟨u0, u1, u2⟩ := tally_cells HM.out.blk
        have hgX := HM.out.fam HH.out HGM.out
        have uN := (fam_cells hgX.blk).1
        have hkey : Keyed wc (t.fams.map GF.b) (t.fams.map GF.nm) := by
          refine ⟨by simp, fun k hk hk' => ?_⟩
          simp only [List.length_map] at hk
          simp only [List.getElem_map]
          exact (fam_cells (HM.out.fam HH.out (List.getElem_mem hk)).blk).1
        have hF := findF_any (.slice (some ⟨L, 0, none⟩) t.fams.length cap) 0 (t.fams.map GF.b) (t.fams.map GF.nm) g.nm wc.drew (by simpa using HM.out.row.kept (gb_drew (gb_refl wc none)) (ownNe _)) (hkey.gb (gb_drew (gb_refl wc none))) (by simp; omega) HO.out.srt
        have hgn : g.nm ∈ t.fams.map GF.nm := List.mem_map_of_mem HGM.out
        have hp : kplace lt g.nm (t.fams.map GF.nm) = A.length := by
          have hs := HO.out.srt
          have e0 := HE.out
          refine kplace_of lt _ _ A.length (by rw [e0]; simp) (fun k hk hlt => ?_) (fun k hk hge => ?_)
          · have := hs.get _ k A.length (by rw [e0]; simp) hlt
            simpa [e0] using this
          · by_cases e : k = A.length
            · subst e; simp [e0, lt_irrefl]
            · have := hs.get _ A.length k hk (by omega)
              have h2 : (t.fams.map GF.nm)[A.length]'(by rw [e0]; simp) = g.nm := by simp [e0]
              rw [h2] at this
              exact lt_asymm _ _ this
        rw [hp, (kfnd_iff ltB g.nm _ HO.out.srt).2 hgn] at hF
        have HF : Hid (Calls Tryz.prog 94 #[.slice (some ⟨L, 0, none⟩) t.fams.length cap, .func (.func 91) #[] #[], .string (B g.nm)] wc.drew _) := hF
        clear hF hgX hkey hgn hp z0 z2 gc u1
        go_wp2_with fail
        go_cut [5] (fun v w' => v = .int .i64 (A.length : Int) ∧ wc.grownBy w' none)
        case first =>
          go_region_with (go_at_call 94; refine HF.out.mono ?_; rintro e w1 ⟨rfl, g1⟩)
          all_goals
            go_wp2
            go_meet
            case rel => exact ⟨rfl, gb_trans (gb_drew (gb_refl wc none)) g1⟩
        case rest =>
          obtain ⟨rfl, gd⟩ := hcut
          obtain ⟨wx, hwx⟩ : ∃ wx, wx = wc := ⟨_, rfl⟩
          have hm := HM.out.gb gd
          have HM2 : Hid (OwnMid t w wc L cap) := hm
          obtain ⟨v0, v1, v2⟩ := tally_cells hm.blk
          have hgX := hm.fam HH.out HGM.out
          have hcp := famCopied_any g.b g.age t.age g.nm g.kind g.lv g.sv (g.ser.map GC.b) g.ls wc.drew hgX.blk hgX.lims (by simpa using hgX.rows.kept (gb_drew (gb_refl wc none)) (ownNe _)) (by simpa using HGO.out.len)
          have hzL : wc.frozen? ⟨L, A.length, none⟩ = false := by
            rcases hm.row.2 with ⟨h1, _⟩ | ⟨g', cap', cur, h1, h2, h3, _⟩
            · simp at h1
            · simp at h1; obtain ⟨rfl, rfl⟩ := h1
              simp [World.frozen?, h3]
          have hLl : L < wc.heap.size := own_lt hm.row L (by simp [Value.ownBlock])
          have hcL := ptrsAt_of (by simpa using hm.row : wc.ownsRow 0 112 1 (.slice (some ⟨L, 0, none⟩) (t.fams.map GF.b).length cap) (t.fams.map GF.b).length (ptrs (t.fams.map GF.b))) A.length (by simpa using hal)
          obtain ⟨bL, hbL⟩ : ∃ bL, (t.fams.map GF.b)[A.length]'(by simpa using hal) = bL := ⟨_, rfl⟩
          rw [hbL] at hcL
          have hLt : t.b ≠ L := fun e => by
            have hx := hm.blk
            rcases hm.row.2 with ⟨q1, _⟩ | ⟨g', cap', cur, q1, q2, q3, _⟩
            · simp at q1
            · simp at q1; obtain ⟨rfl, rfl⟩ := q1
              rw [← e, hx] at q3; simp [brdObj] at q3
          have HCP : Hid (Calls Tryz.prog 100 #[.pointer (some ⟨g.b, 0, none⟩), .int .i64 (t.age : Int)] wc.drew fun e w' => e = .returned (.pointer (some ⟨wc.heap.size, 0, none⟩)) ∧ (∃ t' g', (⟨wc.heap.size, 0, none⟩ : Addr) = ⟨g'.b, 0, none⟩ ∧ g' = { g with b := g'.b, age := t.age, sv := g'.sv } ∧ Upd t t' w (w'.setCell ⟨L, A.length, none⟩ (.pointer (some ⟨wc.heap.size, 0, none⟩))) (A ++ g' :: B')) ∧ w'.cell? ⟨t.b, 0, none⟩ = some (.int .i64 (t.age : Int)) ∧ w'.cell? ⟨t.b, 2, none⟩ = some (.slice (some ⟨L, 0, none⟩) t.fams.length cap) ∧ w'.cell? ⟨L, A.length, none⟩ = some (.pointer (some ⟨bL, 0, none⟩)) ∧ w'.frozen? ⟨L, A.length, none⟩ = false) := by
            refine hcp.mono ?_
            rintro e w' ⟨sv', rfl, q1, q2, q3⟩
            have G := gb_trans (gb_drew (gb_refl wc none)) q3
            obtain ⟨t', hu⟩ := own_done HH.out hm HE.out hlt HGO.out.ages sv' q1 (by simpa using q2) G rfl
            exact ⟨rfl, ⟨t', _, rfl, rfl, hu⟩, gb_cell G v0 (by simp), gb_cell G v2 (by simp), gb_cell G hcL (by simp), gb_froz G hLl hzL (by simp)⟩
          clear hcp hgX hm hwx HF v1
          go_wp2_with fail
          go_cut [] (fun w' => (∃ t' g', (⟨wc.heap.size, 0, none⟩ : Addr) = ⟨g'.b, 0, none⟩ ∧ g' = { g with b := g'.b, age := t.age, sv := g'.sv } ∧ Hid (Upd t t' w w' (A ++ g' :: B'))) ∧ w'.cell? ⟨t.b, 2, none⟩ = some (.slice (some ⟨L, 0, none⟩) t.fams.length cap) ∧ w'.cell? ⟨L, A.length, none⟩ = some (.pointer (some ⟨wc.heap.size, 0, none⟩)))
          case first =>
            go_region_with (go_at_call 100; refine HCP.out.mono ?_; rintro e w1 ⟨rfl, hu, m0, m2, mL, mz⟩)
            all_goals
              go_wp2
              go_meet
              case rel =>
                refine ⟨hu, ?_, ?_⟩
                · rw [World.cell?_of_block (a := ⟨t.b, 2, none⟩) (Below.heap_setCell _ _ _ _ (by show t.b ≠ L; exact hLt))]; exact m2
                · exact World.cell?_setCell_same' _ _ _ (by rw [mL]; rfl)
          case rest =>
            obtain ⟨⟨t', g', ea, eg, HU⟩, n2, nL⟩ := hcut
            have HEA : Hid (_ = _) := ea
            have HEG : Hid (_ = _) := eg
            clear ea eg
            go_wp2
            go_ret
            refine ⟨t', g', ?_, HEG.out, HU.out⟩
            rw [← HEA.out]; rfl

end Go.Proofs.YtcfdemhokbddiaaGreatDoor
