/-
  Tally.Family, walked.
-/
import Derived.Test.YtecmkooiaghgcaaGreatDoorKm

namespace Go.Proofs.YtecmkooiaghgcaaGreatDoor
open Go.RowKit

theorem intSl_shape {w : World} {v : Value} {xs : List Int} (h : IntSl w v xs) : ∃ sa ca, v = .slice sa xs.length ca := by
  obtain ⟨sa, ca, h, _⟩ := h; exact ⟨sa, ca, h⟩
theorem find_split {t : GT} {nm : List UInt8} (h : ¬ ∀ g ∈ t.fams, g.nm ≠ nm) : ∃ A g B', t.fams = A ++ g :: B' ∧ g.nm = nm := by
  have : ∃ g, g ∈ t.fams ∧ g.nm = nm := by
    refine Classical.byContradiction fun hn => h fun g hg e => hn ⟨g, hg, e⟩
  obtain ⟨g, hg, e⟩ := this
  obtain ⟨A, B', e2⟩ := List.append_of_mem hg
  exact ⟨A, g, B', e2, e⟩

set_option maxRecDepth 100000 in
set_option maxHeartbeats 1000000 in
theorem tallyFamily_any (t : GT) (nm : List UInt8) (kind : Int) (v : Value) (xs : List Int) (m : Nat) (w : World) (h : GT.At w t) (ho : GT.Ok m t) (hv : IntSl w v xs) (hm : xs.length ≤ 9223372036854775807) :
    Calls Tryz.prog 33 #[.pointer (some ⟨t.b, 0, none⟩), .string (B nm), .int .i64 kind, v] w fun e w' => ∃ t' code, e = .returned (.int .i64 code) ∧ Out m t t' w w' ∧ FamOut t.view nm kind xs code t'.view := by
  have HH : Hid (GT.At w t) := h
  have HO : Hid (GT.Ok m t) := ho
  have HV : Hid (IntSl w v xs) := hv
  obtain ⟨sa, ca, rfl⟩ := intSl_shape hv
  have hIN := isName_any (B nm) w
  rw [data_B] at hIN
  have HIN : Hid (Calls Tryz.prog 47 #[.string (B nm)] w _) := hIN
  have HLen : Hid (t.fams.length ≤ 8) := ho.len
  clear h ho hv hIN
  cases hname : isNameB nm with
  | false =>
    have HN : Hid (isNameB nm = false) := hname
    rw [hname] at HIN
    clear hname
    go_enter Tryz.func33, Tryz.ntmps33
    go_wp2_with fail
    refine HIN.out.mono ?_
    rintro e w1 ⟨rfl, g1⟩
    go_wp2
    go_ret
    exact ⟨t, _, rfl, .same HH.out HO.out g1, Or.inl ⟨HN.out, rfl, rfl⟩⟩
  | true =>
    have HN : Hid (isNameB nm = true) := hname
    rw [hname] at HIN
    clear hname
    have hnl := isName_len HN.out
    cases hfit : fitB kind xs with
    | false =>
      have HF : Hid (fitB kind xs = false) := hfit
      have HLF : Hid (∀ w1, w.grownBy w1 none → Calls Tryz.prog 48 #[.int .i64 kind, .slice sa xs.length ca] w1 fun e w' => e = .returned (.bool false) ∧ w1.grownBy w' none) := fun w1 g1 => by
        have := limitsFit_any kind _ xs w1 (HV.out.gb g1)
        rw [hfit] at this; exact this
      clear hfit
      go_enter Tryz.func33, Tryz.ntmps33
      go_wp2_with fail
      refine HIN.out.mono ?_
      rintro e w1 ⟨rfl, g1⟩
      go_wp2_with fail
      refine (HLF.out _ g1).mono ?_
      rintro e w2 ⟨rfl, g2⟩
      have G2 := gb_trans g1 g2
      go_wp2
      go_ret
      exact ⟨t, _, rfl, .same HH.out HO.out G2, Or.inr (Or.inl ⟨HN.out, HF.out, rfl, rfl⟩)⟩
    | true =>
      have HF : Hid (fitB kind xs = true) := hfit
      have HLF : Hid (∀ w1, w.grownBy w1 none → Calls Tryz.prog 48 #[.int .i64 kind, .slice sa xs.length ca] w1 fun e w' => e = .returned (.bool true) ∧ w1.grownBy w' none) := fun w1 g1 => by
        have := limitsFit_any kind _ xs w1 (HV.out.gb g1)
        rw [hfit] at this; exact this
      clear hfit
      by_cases hno : ∀ g ∈ t.fams, g.nm ≠ nm
      · have HNO : Hid (∀ g ∈ t.fams, g.nm ≠ nm) := hno
        have HNV : Hid (∀ f ∈ t.view, f.nm ≠ nm) := by
          intro f hf
          simp only [GT.view, List.mem_map] at hf
          obtain ⟨g, hg, rfl⟩ := hf
          exact hno g hg
        clear hno
        by_cases h8 : 8 ≤ t.fams.length
        · have h8' : (8 : Int) ≤ (t.fams.length : Int) := by omega
          have HV8 : Hid (8 ≤ t.view.length) := by show _ ≤ _; simp [GT.view]; omega
          go_enter Tryz.func33, Tryz.ntmps33
          go_wp2_with fail
          refine HIN.out.mono ?_
          rintro e w1 ⟨rfl, g1⟩
          go_wp2_with fail
          refine (HLF.out _ g1).mono ?_
          rintro e w2 ⟨rfl, g2⟩
          have G2 := gb_trans g1 g2
          go_wp2_with fail
          refine (tFamily_no t nm m _ (HH.out.gb G2) HO.out HNO.out).mono ?_
          rintro e w3 ⟨rfl, g3⟩
          have G3 := gb_trans G2 g3
          have hat := HH.out.gb G3
          obtain ⟨c0, _⟩ := tally_cell hat
          obtain ⟨fa, fc, hfv, _, _⟩ := own_shape1 hat.rows
          rw [hfv] at c0
          clear hfv hat
          go_wp2
          go_ret
          exact ⟨t, _, rfl, .same HH.out HO.out G3, Or.inr (Or.inr (Or.inr (Or.inl ⟨HN.out, HF.out, HNV.out, HV8.out, rfl, rfl⟩)))⟩
        · have h8' : ¬ (8 : Int) ≤ (t.fams.length : Int) := by omega
          have h8n : t.fams.length < 8 := by omega
          have HV8 : Hid (t.view.length < 8) := by show _ < _; simp [GT.view]; omega
          have hx4 := (fit_facts HF.out).2.1
          go_enter Tryz.func33, Tryz.ntmps33
          go_wp2_with fail
          refine HIN.out.mono ?_
          rintro e w1 ⟨rfl, g1⟩
          go_wp2_with fail
          refine (HLF.out _ g1).mono ?_
          rintro e w2 ⟨rfl, g2⟩
          have G2 := gb_trans g1 g2
          go_wp2_with fail
          refine (tFamily_no t nm m _ (HH.out.gb G2) HO.out HNO.out).mono ?_
          rintro e w3 ⟨rfl, g3⟩
          have G3 := gb_trans G2 g3
          have hat := HH.out.gb G3
          obtain ⟨c0, z0⟩ := tally_cell hat
          obtain ⟨fa, fc, hfv, _, _⟩ := own_shape1 hat.rows
          have HFV : Hid (t.fv = .slice fa t.fams.length fc) := hfv
          have htl : t.b < w3.heap.size := lt_of hat.blk
          rw [hfv] at c0
          clear hfv hat g1 g2 g3
          go_wp2_with fail
          refine (newFamily_any (B nm) kind _ xs _ (by simp [B, ByteArray.size]; omega) (HV.out.gb G3) hx4).mono ?_
          rintro e w4 ⟨f, lv, rfl, hf, hfb, hlv, g4⟩
          have G4 := gb_trans G3 g4
          have d0 := gb_cell g4 c0 (by simp)
          have y0 := gb_froz g4 htl z0 (by simp)
          have hat4 := HH.out.gb G4
          have hf0 : w4.cell? ⟨f, 0, none⟩ = some (.string (B nm)) := by simp [World.cell?, hfb]
          have ga := gb_alloc (gb_refl w4 none) (.cells #[.pointer (some ⟨f, 0, none⟩)] 103)
          have hat5 := hat4.gb ga
          have e5 : (w4.alloc (.cells #[.pointer (some ⟨f, 0, none⟩)] 103)).cell? ⟨f, 0, none⟩ = some (.string (B nm)) := gb_cell ga hf0 (by simp)
          have e6 : (w4.alloc (.cells #[.pointer (some ⟨f, 0, none⟩)] 103)).cell? ⟨w4.heap.size, 0, none⟩ = some (.pointer (some ⟨f, 0, none⟩)) := by
            have h6 := alloc_new w4 (.cells #[.pointer (some ⟨f, 0, none⟩)] 103) _ rfl
            unfold World.cell?
            simp only [h6]
            rfl
          have d0a := gb_cell ga d0 (by simp)
          have hnf : kfnd lt nm (t.fams.map GF.nm) = false := by
            cases hq : kfnd lt nm (t.fams.map GF.nm) with
            | false => rfl
            | true =>
              have := (kfnd_iff ltB nm _ HO.out.srt).1 hq
              rw [List.mem_map] at this
              obtain ⟨g, hg, e⟩ := this
              exact absurd e (HNO.out g hg)
          have hlen8 := HLen.out
          have hT := togF_any t.fv 0 w4.heap.size 1 f (t.fams.map GF.b) (t.fams.map GF.nm) nm _ (by simpa using hat5.rows) (keyedF hat5) e6 e5 (by simp; omega) HO.out.srt hnf
          simp only [List.length_map] at hT
          rw [HFV.out] at hT
          have HT : Hid (Calls Tryz.prog 52 #[.slice fa t.fams.length fc, .slice (some ⟨w4.heap.size, 0, none⟩) 1 1, .func (.func 53) #[] #[]] (w4.alloc (.cells #[.pointer (some ⟨f, 0, none⟩)] 103)) _) := hT
          have HFB : Hid (w4.heap[f]? = some (famObj nm kind lv (.slice none 0 0))) := hfb
          have HLV : Hid (w4.ownsRow w3.heap.size 3 1 lv xs.length (ints xs)) := hlv
          clear hT hat4 hat5 e5 e6 hnf hfb hlv hf0 c0 z0
          go_wp2_with fail
          refine HT.out.mono ?_
          rintro e w5 ⟨rfl, own5, g5⟩
          have G5 := gb_trans ga g5
          have d5 := gb_cell G5 d0 (by simp)
          have y5 := gb_froz G5 (by have := g4.size; omega) y0 (by simp)
          have HO5 : Hid (w5.ownsRow (w4.heap.size + 1) 103 1 (.slice (some ⟨w4.heap.size + 1, 0, none⟩) (t.fams.length + 1) (t.fams.length + 1)) (t.fams.length + 1) (ptrs (kins (t.fams.map GF.b) (kplace lt nm (t.fams.map GF.nm)) f))) := by
            show World.ownsRow _ _ _ _ _ _ _
            simpa using own5
          clear own5 g5 ga
          go_wp2
          go_ret
          have hmade := made_out (HH.out.gb G3) HO.out nm kind xs HN.out HF.out HNO.out h8n f lv hf HFB.out HLV.out g4 (w4.heap.size + 1) (t.fams.length + 1) (by omega) G5 HO5.out
          refine ⟨_, 0, rfl, .from G3 hmade, Or.inr (Or.inr (Or.inr (Or.inr ⟨HN.out, HF.out, HNV.out, HV8.out, rfl, ?_⟩)))⟩
          exact ⟨(t.fams.take (kplace lt nm (t.fams.map GF.nm))).map GF.view, (t.fams.drop (kplace lt nm (t.fams.map GF.nm))).map GF.view, by rw [GT.view, ← List.map_append, List.take_append_drop], by simp [GT.view, kins, GF.view]⟩
      · obtain ⟨A, g, B', he, hgn⟩ := find_split hno
        have HE : Hid (t.fams = A ++ g :: B') := he
        have hgm : g ∈ t.fams := by rw [he]; simp
        have HGM : Hid (g ∈ t.fams) := hgm
        subst hgn
        clear hno he hgm
        go_enter Tryz.func33, Tryz.ntmps33
        go_wp2_with fail
        refine HIN.out.mono ?_
        rintro e w1 ⟨rfl, g1⟩
        go_wp2_with fail
        refine (HLF.out _ g1).mono ?_
        rintro e w2 ⟨rfl, g2⟩
        have G2 := gb_trans g1 g2
        go_wp2_with fail
        refine (tFamily_yes t A B' g m _ (HH.out.gb G2) HO.out HE.out).mono ?_
        rintro e w3 ⟨rfl, g3⟩
        have G3 := gb_trans G2 g3
        have hgat := (HH.out.gb G3).each g HGM.out
        have HR : Hid (Calls Tryz.prog 50 #[.pointer (some ⟨g.b, 0, none⟩), .int .i64 kind, .slice sa xs.length ca] w3 _) := remade_any g.b g.nm g.kind kind g.lv g.sv _ g.ls xs w3 hgat.blk (.of hgat.lims) (HV.out.gb G3) hm
        clear hgat
        go_wp2_with fail
        refine HR.out.mono ?_
        rintro e w4 ⟨rfl, g4⟩
        have G4 := gb_trans G3 g4
        go_wp2
        go_ret
        exact ⟨t, _, rfl, .same HH.out HO.out G4, Or.inr (Or.inr (Or.inl ⟨HN.out, HF.out, ⟨g.view, List.mem_map_of_mem HGM.out, rfl, rfl⟩, rfl⟩))⟩

end Go.Proofs.YtecmkooiaghgcaaGreatDoor
