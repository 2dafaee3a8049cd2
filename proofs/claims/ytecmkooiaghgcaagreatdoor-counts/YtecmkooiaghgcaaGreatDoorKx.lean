/-
  The document's Drop, walked.
-/
import Derived.Test.YtecmkooiaghgcaaGreatDoorKw

namespace Go.Proofs.YtecmkooiaghgcaaGreatDoor
open Go.RowKit

def RDrpOut (R : RV) (l : List UInt8) (code : Int) (R' : RV) : Prop :=
  ((readP l).err ≠ 0 ∧ code = ((readP l).err : Int) ∧ R' = R) ∨
  ((readP l).err = 0 ∧ (∀ x ∈ R.ser, x.2.1 ≠ plainP l) ∧ code = 6 ∧ R' = R) ∨
  ((readP l).err = 0 ∧ ∃ A x B', R.ser = A ++ x :: B' ∧ x.2.1 = plainP l ∧ code = 0 ∧ R' = ⟨R.fams, A ++ B'⟩)

theorem gb_new_opt {a b c : World} {o : Option Nat} (h : a.grownBy b none) (k : b.grownBy c o) (hg : ∀ g ∈ o.toList, a.heap.size ≤ g) : a.grownBy c none :=
  ⟨k.os.trans h.os, k.tape.trans h.tape, k.output.trans h.output, Nat.le_trans h.size k.size, fun i hi hr => (k.block i (Nat.lt_of_lt_of_le hi h.size) (fun e => by have := hg i (by rw [← e]; simp); omega)).trans (h.block i hi hr)⟩

set_option maxRecDepth 100000 in
set_option maxHeartbeats 2000000 in
theorem refDrp_any (r : RB) (s : ByteArray) (m : Nat) (w : World) (h : RB.At w r) (ho : RB.Ok m r) :
    Calls Tryz.prog 20 #[.pointer (some ⟨r.b, 0, none⟩), .string s] w fun e w' => ∃ r' code, e = .returned (.int .i64 code) ∧ ROut m r r' w w' ∧ RDrpOut r.view s.data.toList code r'.view := by
  have HH : Hid (RB.At w r) := h
  have HO : Hid (RB.Ok m r) := ho
  have hP := parse_any s w
  obtain ⟨T, hT⟩ : ∃ T, readP s.data.toList = T := ⟨_, rfl⟩
  obtain ⟨p, hp⟩ : ∃ p, plainP s.data.toList = p := ⟨_, rfl⟩
  have HT : Hid (readP s.data.toList = T) := hT
  have HPP : Hid (plainP s.data.toList = p) := hp
  obtain ⟨at2, hat2⟩ : ∃ at2, (if (readP s.data.toList).err = 0 then 0 else (readP s.data.toList).at_) = at2 := ⟨_, rfl⟩
  rw [hat2, hT, hp] at hP
  obtain ⟨err, at_, nm, ls⟩ := T
  simp only at hP
  unfold outV at hP
  have HP : Hid (Calls Tryz.prog 32 #[.string s] w _) := hP
  clear h ho hP hT hp hat2
  go_enter Tryz.func20, Tryz.ntmps20
  go_wp2_with fail
  refine HP.out.mono ?_
  rintro e w1 ⟨rfl, b1⟩
  have g1 := gb_of_below b1
  clear b1 HP
  by_cases h0 : err = 0
  · subst h0
    have HERR : Hid ((readP s.data.toList).err = 0) := by show _ = _; rw [HT.out]
    have hsl := HO.out.slen
    go_wp2_with fail
    refine (refSeries_any r p _ (HH.out.gb g1) (by omega)).mono ?_
    rintro e w2 ⟨rfl, code, rfl, hlook⟩
    rcases hlook with ⟨hno, rfl⟩ | ⟨C, x, D, e1, e2, _, rfl⟩
    · have HNO : Hid (∀ x ∈ r.view.ser, x.2.1 ≠ plainP s.data.toList) := by
        intro f hf
        rw [HPP.out]
        simp only [RB.view, List.mem_map] at hf
        obtain ⟨g, hg, rfl⟩ := hf
        exact hno g hg
      clear hno
      go_wp2
      go_ret
      exact ⟨r, _, rfl, .same HH.out HO.out g1, Or.inr (Or.inl ⟨HERR.out, HNO.out, rfl, rfl⟩)⟩
    · have hat := HH.out.gb g1
      have HAT : Hid (RB.At w2 r) := hat
      obtain ⟨c0, c1, z0, z1⟩ := rb_cells hat
      obtain ⟨sa, sc, hsv, hsc, hsa⟩ := own_shape3 hat.srows
      have hCl : C.length < r.ser.length := by rw [e1]; simp
      obtain ⟨gs, rfl⟩ : ∃ gs, sa = some ⟨gs, 0, none⟩ := by
        rcases hsa with ⟨_, h0, _⟩ | ⟨ga, h1, _⟩
        · omega
        · exact ⟨ga, h1⟩
      rw [hsv] at c1
      have hrow := hat.srows
      rw [hsv] at hrow
      have hbl : r.b < w2.heap.size := lt_of hat.blk
      have hgl := (hrow.lt gs rfl).2
      have hCn : r.ser.length = C.length + 1 + D.length := by rw [e1]; simp; omega
      have hfl : (r.ser.flatMap rsCells) = C.flatMap rsCells ++ (rsCells x ++ D.flatMap rsCells) := by rw [e1]; simp
      have hlenC := flat_len3 rsCells (fun _ => rfl) C
      have hlenD := flat_len3 rsCells (fun _ => rfl) D
      have HS1 : Hid (∀ j u, (C.flatMap rsCells)[j]? = some u → w2.cell? ((⟨gs, 0, none⟩ : Addr).add j) = some u) := by
        intro j u hj
        have hjl := (List.getElem?_eq_some_iff.1 hj).1
        refine hrow.cells (g := gs) rfl j u ?_
        rw [hfl, List.getElem?_append_left hjl]; exact hj
      have HS2 : Hid (∀ j u, (D.flatMap rsCells)[j]? = some u → w2.cell? ⟨gs, (C.length + 1) * 3 + j, none⟩ = some u) := by
        intro j u hj
        have := hrow.cells (g := gs) rfl ((C.length + 1) * 3 + j) u (by
          rw [hfl, List.getElem?_append_right (by omega), List.getElem?_append_right (by rw [hlenC]; show 3 ≤ _; omega)]
          simp only [hlenC, rsCells, List.length_cons, List.length_nil]
          rw [show (C.length + 1) * 3 + j - C.length * 3 - (0 + 1 + 1 + 1) = j from by omega]
          exact hj)
        rw [Addr.add_lit] at this
        simpa using this
      have HD0 : Hid (sc = C.length + 1 → D = []) := by
        intro h; apply List.eq_nil_of_length_eq_zero; omega
      have HL1 : Hid ((C.flatMap rsCells).length = C.length * 3) := hlenC
      have HL2 : Hid ((D.flatMap rsCells).length = D.length * 3) := hlenD
      have H1c : Hid (∀ (Z : List RS), (∀ z ∈ Z, z ∈ r.ser) → ∀ v ∈ Z.flatMap rsCells, v.oneCell' = true) := by
        intro Z hZ v hv
        rw [List.mem_flatMap] at hv
        obtain ⟨z, hz, hv⟩ := hv
        obtain ⟨za, zc, hzv, _⟩ := own_shape1 (HAT.out.nums z (hZ z hz))
        simp [rsCells] at hv
        rcases hv with rfl | rfl | rfl
        · rfl
        · rfl
        · rw [hzv]; rfl
      have H1C := H1c.out C (fun z hz => by rw [e1]; simp [hz])
      have H1D := H1c.out D (fun z hz => by rw [e1]; simp [hz])
      have E1 : Hid (r.ser = C ++ x :: D) := e1
      have E2 : Hid (x.text = p) := e2
      have HSVr : Hid (r.sv = .slice (some ⟨gs, 0, none⟩) r.ser.length sc) := hsv
      obtain ⟨i8, hi8, hz80, hz81, hz82⟩ := info_parts Tryz.info85
      have HI8 : Hid (Tryz.prog.info? 85 = some i8 ∧ i8.zero = some (.agg #[.string ⟨#[]⟩, .string ⟨#[]⟩, .slice none 0 0]) ∧ i8.size = 3 ∧ i8.bytes = 56) := ⟨hi8, hz80, hz81, hz82⟩
      have HFIN : Hid (∀ (w4 : World) (sv' : Value), w2.grownBy w4 none → w4.ownsRow w2.heap.size 85 3 sv' (C.length + D.length) (C.flatMap rsCells ++ D.flatMap rsCells) → ∃ r', ROut m r r' w (w4.setCell ⟨r.b, 1, none⟩ sv') ∧ RDrpOut r.view s.data.toList 0 r'.view) := by
        intro w4 sv' k1 k2
        have hn := HAT.out.nodup
        have hnd : ((C ++ D).flatMap (fun x => x.nv.ownBlock.toList)).Nodup := by
          simp only [RB.own, List.nodup_cons, List.nodup_append] at hn
          have h3 := hn.2.2.1.2.1.2.1
          rw [E1.out, List.flatMap_append, List.flatMap_cons] at h3
          rw [List.flatMap_append]
          simp only [List.nodup_append, List.mem_append] at h3 ⊢
          exact ⟨h3.1, h3.2.1.2.1, fun a ha b hb => h3.2.2 a ha b (Or.inr hb)⟩
        have hsubm : ∀ y ∈ C ++ D, y ∈ r.ser := by
          intro y hy
          rw [E1.out]
          simp only [List.mem_append, List.mem_cons] at hy ⊢
          rcases hy with hy | hy
          · exact Or.inl hy
          · exact Or.inr (Or.inr hy)
        have hro := rrow_out HAT.out HO.out (C ++ D) (fun y hy => Or.inl (hsubm y hy)) (by have := HO.out.slen; rw [E1.out] at this; simp at this ⊢; omega) hnd (Kept.of_none k1 _) sv' (by
            rw [List.length_append, List.flatMap_append]; exact own_base0 k2) (Or.inr (fun b hb => by
            have hb' : sv'.ownBlock = some b := by simpa using hb
            exact (k2.lt b hb').1))
        refine ⟨_, .from g1 hro, Or.inr (Or.inr ⟨HERR.out, C.map (fun x => (x.fam, x.text, x.ns)), (x.fam, x.text, x.ns), D.map (fun x => (x.fam, x.text, x.ns)), ?_, ?_, rfl, ?_⟩)⟩
        · simp [RB.view, E1.out]
        · show x.text = _
          rw [E2.out, HPP.out]
        · simp [RB.view]
      have hCi : (C.length : Int) ≤ (sc : Int) := by omega
      have hCi2 : (C.length : Int) + 1 ≤ (r.ser.length : Int) := by omega
      have hCi0 : ¬ (C.length : Int) < 0 := by omega
      have hC0 : (0 : Int) ≤ (C.length : Int) + 1 := by omega
      have htn : ((C.length : Int) + 1).toNat = C.length + 1 := by omega
      have HDn : Hid (r.ser.length - (C.length + 1) = D.length) := by show _ = _; omega
      have hC24 : C.length ≤ 24 := by omega
      have hD24 : D.length ≤ 24 := by omega
      clear hi8 hz80 hz81 hz82 hat hsv hrow hfl hlenC hlenD e1 e2 hsa c0 z0 H1c hCn
      have HS3 : Hid (∀ (ad : Addr) (w3 : World), w2.grownBy w3 none → ((ad = ⟨gs, 0, none⟩ ∧ sc = C.length + 1) ∨ ad = ⟨gs, (C.length + 1) * 3, none⟩) → ∀ j u, (D.flatMap rsCells)[j]? = some u → w3.cell? (ad.add j) = some u) := by
        intro ad w3 k1 k2 j u hj
        rcases k2 with ⟨rfl, e⟩ | rfl
        · rw [HD0.out e] at hj; simp at hj
        · rw [Addr.add_lit]; exact gb_cell k1 (HS2.out j u hj) (by simp)
      have HL3 : Hid ((D.flatMap rsCells).length = (r.ser.length - (C.length + 1)) * 3) := by show _ = _; rw [HL2.out, HDn.out]
      have hb63 : C.length + (r.ser.length - (C.length + 1)) ≤ maxLen := by unfold maxLen; omega
      have hb47 : (C.length + (r.ser.length - (C.length + 1))) * 56 ≤ 140737488355328 := by omega
      by_cases hq : sc = C.length + 1
      · have HDE : Hid (D = []) := HD0.out hq
        subst hq
        go_wp2_with (at_builtin; first
          | (refine wpList_append_own _ rfl _ _ 66 rfl w2.heap.size 85 i8 (.agg #[.string ⟨#[]⟩, .string ⟨#[]⟩, .slice none 0 0]) 3 56 Tryz.underlying66 HI8.out.1 HI8.out.2.1 HI8.out.2.2.1 HI8.out.2.2.2 rfl (by decide) (.slice none 0 0) 0 [] rfl (World.ownsRow_nil _ _ _ _) ⟨gs, 0, none⟩ C.length (C.length + 1) (C.flatMap rsCells) rfl HL1.out HS1.out H1C (by unfold maxLen; omega) (by omega) (Nat.le_refl _) ?_; intro lv w3 own3 g3 _; simp only [Nat.zero_add, List.nil_append] at own3; obtain ⟨la, lc, rfl, _, _⟩ := own_shape3 own3; have c1' := gb_cell g3 c1 (by simp [Value.ownBlock]); have z1' := gb_froz g3 hbl z1 (by simp [Value.ownBlock]); have hg3 : w2.grownBy w3 none := g3)
          | (refine wpList_append_own _ rfl _ _ 66 rfl w2.heap.size 85 i8 (.agg #[.string ⟨#[]⟩, .string ⟨#[]⟩, .slice none 0 0]) 3 56 Tryz.underlying66 HI8.out.1 HI8.out.2.1 HI8.out.2.2.1 HI8.out.2.2.2 rfl (by decide) (.slice la C.length lc) C.length (C.flatMap rsCells) rfl own3 ⟨gs, 0, none⟩ 0 0 [] rfl rfl (fun j u h => by simp at h) (fun v hv => by simp at hv) (by unfold maxLen; omega) (by omega) (by have := hg3.size; omega) ?_; intro sv' w4 own4 g4 _; obtain ⟨ya, yc, rfl, _, _⟩ := own_shape3 own4; have hrb : some r.b ≠ Value.ownBlock (.slice la C.length lc) := (fun e => by have := (own3.lt r.b e.symm).1; omega); have c4 := gb_cell g4 c1' hrb; have z4 := gb_froz g4 (by have := hg3.size; omega) z1' hrb))
        all_goals go_ret
        all_goals
          have g24 := gb_new_opt hg3 g4 (fun g hg => by
            have hg' : Value.ownBlock (.slice la C.length lc) = some g := by simpa using hg
            exact (own3.lt g hg').1)
          have own4' : w4.ownsRow w2.heap.size 85 3 (.slice ya (C.length + 0) yc) (C.length + D.length) (C.flatMap rsCells ++ D.flatMap rsCells) := by
            rw [HDE.out]; exact own4
          obtain ⟨r', k1, k2⟩ := HFIN.out w4 _ g24 own4'
          exact ⟨r', 0, rfl, k1, k2⟩
      · go_wp2_with (at_builtin; first
          | (refine wpList_append_own _ rfl _ _ 66 rfl w2.heap.size 85 i8 (.agg #[.string ⟨#[]⟩, .string ⟨#[]⟩, .slice none 0 0]) 3 56 Tryz.underlying66 HI8.out.1 HI8.out.2.1 HI8.out.2.2.1 HI8.out.2.2.2 rfl (by decide) (.slice none 0 0) 0 [] rfl (World.ownsRow_nil _ _ _ _) ⟨gs, 0, none⟩ C.length sc (C.flatMap rsCells) rfl HL1.out HS1.out H1C (by unfold maxLen; omega) (by omega) (Nat.le_refl _) ?_; intro lv w3 own3 g3 _; simp only [Nat.zero_add, List.nil_append] at own3; obtain ⟨la, lc, rfl, _, _⟩ := own_shape3 own3; have c1' := gb_cell g3 c1 (by simp [Value.ownBlock]); have z1' := gb_froz g3 hbl z1 (by simp [Value.ownBlock]); have hg3 : w2.grownBy w3 none := g3)
          | (refine wpList_append_own _ rfl _ _ 66 rfl w2.heap.size 85 i8 (.agg #[.string ⟨#[]⟩, .string ⟨#[]⟩, .slice none 0 0]) 3 56 Tryz.underlying66 HI8.out.1 HI8.out.2.1 HI8.out.2.2.1 HI8.out.2.2.2 rfl (by decide) (.slice la C.length lc) C.length (C.flatMap rsCells) rfl own3 ⟨gs, (C.length + 1) * 3, none⟩ (r.ser.length - (C.length + 1)) _ (D.flatMap rsCells) rfl HL3.out (HS3.out _ w3 hg3 (Or.inr rfl)) H1D hb63 hb47 (by have := hg3.size; omega) ?_; intro sv' w4 own4 g4 _; obtain ⟨ya, yc, rfl, _, _⟩ := own_shape3 own4; have hrb : some r.b ≠ Value.ownBlock (.slice la C.length lc) := (fun e => by have := (own3.lt r.b e.symm).1; omega); have c4 := gb_cell g4 c1' hrb; have z4 := gb_froz g4 (by have := hg3.size; omega) z1' hrb))
        all_goals go_ret
        all_goals
          have g24 := gb_new_opt hg3 g4 (fun g hg => by
            have hg' : Value.ownBlock (.slice la C.length lc) = some g := by simpa using hg
            exact (own3.lt g hg').1)
          have own4' := own4
          rw [HDn.out] at own4'
          obtain ⟨r', k1, k2⟩ := HFIN.out w4 _ g24 own4'
          exact ⟨r', 0, rfl, by rw [HDn.out]; exact k1, k2⟩
  · have HE : Hid ((readP s.data.toList).err ≠ 0 ∧ (err : Int) = ((readP s.data.toList).err : Int)) := by rw [HT.out]; exact ⟨h0, rfl⟩
    have h0' : ((err : Int) != 0) = true := by simp; omega
    go_wp2
    go_ret
    exact ⟨r, _, rfl, .same HH.out HO.out g1, Or.inl ⟨HE.out.1, HE.out.2, rfl⟩⟩

end Go.Proofs.YtecmkooiaghgcaaGreatDoor
