/-
  Tally.Drop, walked.
-/
import Derived.Test.YtecmkooiaghgcaaGreatDoorKo

namespace Go.Proofs.YtecmkooiaghgcaaGreatDoor
open Go.RowKit

set_option maxRecDepth 100000 in
set_option maxHeartbeats 2000000 in
theorem tallyDrop_any (t : GT) (s : ByteArray) (m : Nat) (w : World) (h : GT.At w t) (ho : GT.Ok m t) :
    Calls Tryz.prog 40 #[.pointer (some ⟨t.b, 0, none⟩), .string s] w fun e w' => ∃ t' code, e = .returned (.int .i64 code) ∧ Out m t t' w w' ∧ DrpOut t.view s.data.toList code t'.view := by
  have HH : Hid (GT.At w t) := h
  have HO : Hid (GT.Ok m t) := ho
  have hg := readP_good s.data.toList
  have hr := read_any s w
  have HPE : Hid ((readP s.data.toList).err = 0 → plainP s.data.toList = plainB (readP s.data.toList).name (readP s.data.toList).labs) := plainP_eq
  obtain ⟨T, hT⟩ : ∃ T, readP s.data.toList = T := ⟨_, rfl⟩
  have HT : Hid (readP s.data.toList = T) := hT
  rw [hT] at hg hr HPE
  obtain ⟨err, at_, nm, ls⟩ := T
  simp only at hg hr HPE
  have HR : Hid (Calls Tryz.prog 43 #[.string s] w _) := hr
  clear h ho hr hT
  go_enter Tryz.func40, Tryz.ntmps40
  go_wp2_with fail
  refine HR.out.mono ?_
  rintro e w1 ⟨v, rfl, own, g1⟩
  obtain ⟨va, vc, rfl⟩ := own_shape own
  by_cases h0 : err = 0
  · subst h0
    have HP := HPE.out rfl
    have HPH : Hid (plainP s.data.toList = plainB nm ls) := HP
    obtain ⟨p, hp⟩ : ∃ p, plainP s.data.toList = p := ⟨_, rfl⟩
    have HPP : Hid (plainP s.data.toList = p) := hp
    rw [hp] at HPH
    clear HP HPE hp
    -- the series' text lies in a block of its own
    have ga := gb_alloc (gb_refl w1 none) (.cells #[.string (B nm), .slice va ls.length vc] 90)
    have bx := alloc_new w1 (.cells #[.string (B nm), .slice va ls.length vc] 90) _ rfl
    have own1 := own.alloc (.cells #[.string (B nm), .slice va ls.length vc] 90)
    have hbl : w1.heap.size < (w1.alloc (.cells #[.string (B nm), .slice va ls.length vc] 90)).heap.size := by simp
    have G1 := gb_trans g1 ga
    clear ga g1 own
    go_wp2_with fail
    refine (name55_any _ _ _ ⟨_, _, _, rfl⟩).mono ?_
    rintro e w2 ⟨rfl, g2⟩
    have G2 := gb_trans G1 g2
    have bx2 := (g2.block _ hbl (by simp)).trans bx
    have own2 := own1.kept g2 (ownNe _)
    have hbl2 := lt_of bx2
    clear own1 bx hbl g2 G1
    by_cases hno : ∀ g ∈ t.fams, g.nm ≠ nm
    · have HNO : Hid (∀ g ∈ t.fams, g.nm ≠ nm) := hno
      clear hno
      go_wp2_with fail
      refine (tFamily_no t nm m _ (HH.out.gb G2) HO.out HNO.out).mono ?_
      rintro e w3 ⟨rfl, g3⟩
      have G3 := gb_trans G2 g3
      go_wp2
      go_ret
      refine ⟨t, _, rfl, .same HH.out HO.out G3, Or.inr (Or.inl ⟨by rw [HT.out], fun f hf => ?_, rfl, rfl⟩)⟩
      rw [HT.out]
      simp only [GT.view, List.mem_map] at hf
      obtain ⟨g, hg, rfl⟩ := hf
      exact HNO.out g hg
    · obtain ⟨A, g, B', he, hgn⟩ := find_split hno
      have HE : Hid (t.fams = A ++ g :: B') := he
      have HGM : Hid (g ∈ t.fams) := by show _ ∈ _; rw [he]; simp
      have HNM : Hid (g.view.nm = (readP s.data.toList).name) := by show _ = _; rw [HT.out]; exact hgn
      have HERR : Hid ((readP s.data.toList).err = 0) := by show _ = _; rw [HT.out]
      subst hgn
      clear hno he
      go_wp2_with fail
      refine (tFamily_yes t A B' g m _ (HH.out.gb G2) HO.out HE.out).mono ?_
      rintro e w3 ⟨rfl, g3⟩
      have G3 := gb_trans G2 g3
      have bx3 := (g3.block _ hbl2 (by simp)).trans bx2
      have own3 := own2.kept g3 (ownNe _)
      have hbl3 := lt_of bx3
      clear bx2 own2 g3 G2
      have x0 : w3.cell? ⟨w1.heap.size, 0, none⟩ = some (.string (B g.nm)) := by unfold World.cell?; simp only [bx3]; rfl
      have x1 : w3.cell? ⟨w1.heap.size, 1, none⟩ = some (.slice va ls.length vc) := by unfold World.cell?; simp only [bx3]; rfl
      go_wp2_with fail
      refine (plainS_any g.nm va vc _ ls _ (by exact own3) hg.2.2.1 hg.1 hg.2.1).mono ?_
      rintro e w5 ⟨rfl, k5⟩
      have g5 := gb_of_below k5
      have G5 := gb_trans G3 g5
      rw [← HPH.out]
      have hgat5 := (HH.out.gb G5).each g HGM.out
      have hgok := HO.out.each g HGM.out
      have HGOK : Hid (GF.Ok m g) := hgok
      clear k5 g5 own3 bx3 x0 x1 G3
      cases hfd : kfnd lt p (g.ser.map fun c => c.x.plain) with
      | true =>
        obtain ⟨C, c, D, e1, e2, e3⟩ := ser_fnd p hfd
        have hF := gFind g p m w5 hgat5 hgok
        rw [hfd, ← e3] at hF
        have HF : Hid (Calls Tryz.prog 57 #[.pointer (some ⟨g.b, 0, none⟩), .string (B p)] w5 _) := hF
        have E1 : Hid (g.ser = C ++ c :: D) := e1
        have E2 : Hid (c.x.plain = p) := e2
        have hlt : C.length < g.ser.length := by rw [e1]; simp
        clear hF hfd e1 e2 e3 hgok hgat5
        go_wp2_with fail
        refine HF.out.mono ?_
        rintro e w6 ⟨rfl, g6⟩
        have G6 := gb_trans G5 g6
        have hat6 := HH.out.gb G6
        have HA6 : Hid (GT.At w6 t) := hat6
        have HG6 : Hid (GF.At w6 g) := hat6.each g HGM.out
        clear hat6 G5 g6
        go_wp2_with fail
        refine (gRemove g C.length m _ HG6.out HGOK.out hlt).mono ?_
        rintro e w7 ⟨rfl, g', hg', hat7, hok7, hk7, hs7⟩
        go_wp2
        go_ret
        have hcut : cut1 g.ser C.length = C ++ D := by unfold cut1; rw [E1.out]; simp
        have hser : g'.ser = C ++ D := by rw [hg']; exact hcut
        have hu := Out.upd (g' := g') HA6.out HO.out (Nat.le_refl m) HE.out (by rw [hg']) (by rw [hg']) hat7 hok7 hk7 hs7 (by
          have := HO.out.total
          rw [HE.out, sum_split, E1.out] at this
          rw [sum_split, hser]
          simp only [List.length_append, List.length_cons] at this ⊢
          omega)
        refine ⟨_, 0, rfl, .from G6 hu, Or.inr (Or.inr ⟨HERR.out, _, _, _, view_split HE.out, HNM.out, Or.inr ⟨C.map GC.x, c.x, D.map GC.x, ?_, ?_, rfl, ?_⟩⟩)⟩
        · simp [GF.view, E1.out]
        · rw [E2.out, HPP.out]
        · have ev : g'.view = ({ g.view with ser := C.map GC.x ++ D.map GC.x } : Fam) := by
            rw [hg']
            simp [GF.view, hcut]
          rw [← ev]
          simp [GT.view]
      | false =>
        have hF := gFind g p m w5 hgat5 hgok
        rw [hfd] at hF
        have HF : Hid (Calls Tryz.prog 57 #[.pointer (some ⟨g.b, 0, none⟩), .string (B p)] w5 _) := hF
        have HNF : Hid (∀ c ∈ g.view.ser, c.plain ≠ plainP s.data.toList) := by
          have := ser_nofnd hgok p hfd
          rw [← HPP.out] at this
          exact this
        clear hF hfd hgok hgat5
        go_wp2_with fail
        refine HF.out.mono ?_
        rintro e w6 ⟨rfl, g6⟩
        have G6 := gb_trans G5 g6
        go_wp2
        go_ret
        exact ⟨t, _, rfl, .same HH.out HO.out G6, Or.inr (Or.inr ⟨HERR.out, _, _, _, view_split HE.out, HNM.out, Or.inl ⟨HNF.out, rfl, rfl⟩⟩)⟩
  · have HE : Hid ((readP s.data.toList).err ≠ 0 ∧ (err : Int) = ((readP s.data.toList).err : Int)) := by rw [HT.out]; exact ⟨h0, rfl⟩
    have h0' : ((err : Int) != 0) = true := by simp; omega
    go_wp2
    go_ret
    exact ⟨t, _, rfl, .same HH.out HO.out (gb_alloc g1 _), Or.inl ⟨HE.out.1, HE.out.2, rfl⟩⟩

end Go.Proofs.YtecmkooiaghgcaaGreatDoor
