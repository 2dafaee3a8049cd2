/-
  Tally.Change, walked.
-/
import Derived.Test.YtcfdemhokbddiaaGreatDoorQKp

namespace Go.Proofs.YtcfdemhokbddiaaGreatDoor
open Go.RowKit

set_option maxHeartbeats 400000 in
theorem name55_any (nm : ByteArray) (v : Value) (w : World) (hv : ∃ a n c, v = .slice a n c) :
    Calls Tryz.prog 63 #[.agg #[.string nm, v]] w fun e w' => e = .returned (.string nm) ∧ w.grownBy w' none := by
  obtain ⟨a, n, c, rfl⟩ := hv
  go_enter Tryz.func63, Tryz.ntmps63
  go_wp2
  go_ret
  exact ⟨rfl, gb_alloc (gb_refl _ _) _⟩


theorem outP_le : ∀ (c : UInt8) (ls : List Lab), (∀ x ∈ ls, Good x) → (outP c ls).length ≤ 51 * ls.length
  | _, [], _ => by simp [outP]
  | c, x :: ls, h => by
    have h1 := labB_len x (h x (by simp)).1 (h x (by simp)).2
    have h2 := outP_le 44 ls (fun y hy => h y (by simp [hy]))
    simp only [outP, List.length_append, List.length_cons] at *
    omega
theorem plainB_len (nm : List UInt8) (ls : List Lab) (h1 : nm.length ≤ 12) (h2 : ls.length ≤ 3) (h3 : ∀ x ∈ ls, Good x) : (plainB nm ls).length ≤ 400 := by
  have := outP_le 123 ls h3
  unfold plainB
  have h4 : (if ls.isEmpty then [] else [(125 : UInt8)]).length ≤ 1 := by split <;> simp
  simp only [List.length_append]
  omega
theorem plainP_eq {l : List UInt8} (h : (readP l).err = 0) : plainP l = plainB (readP l).name (readP l).labs := by unfold plainP; rw [if_pos h]
theorem total_view (t : GT) : total t = sizeOfAll t.view := by
  unfold total sizeOfAll GT.view
  rw [List.map_map]
  congr 1
  apply List.map_congr_left
  intro g _
  simp [GF.view]
theorem sum_split {A B' : List GF} {g : GF} : ((A ++ g :: B').map fun g => g.ser.length).sum = (A.map fun g => g.ser.length).sum + g.ser.length + (B'.map fun g => g.ser.length).sum := by
  simp; omega
theorem mom_put {m m' : Nat} {F A B' : List GF} {g g' : GF} (h : MomOk m F) (e : F = A ++ g :: B') (hm : m ≤ m') (hnm : g'.nm = g.nm) (hok : GF.Ok m' g') (htot : (A.map fun g => g.ser.length).sum + g'.ser.length + (B'.map fun g => g.ser.length).sum ≤ 24) : MomOk m' (A ++ g' :: B') := by
  refine ⟨?_, ?_, ?_, ?_, by rw [sum_split]; exact htot⟩
  · have hs := h.srt
    rw [e] at hs
    simpa [hnm] using hs
  · have := h.len
    rw [e] at this
    simpa using this
  · intro k hk
    simp only [List.mem_append, List.mem_cons] at hk
    rcases hk with hk | rfl | hk
    · exact (h.each k (by rw [e]; simp [hk])).mono hm
    · exact hok
    · exact (h.each k (by rw [e]; simp [hk])).mono hm
  · intro k hk
    simp only [List.mem_append, List.mem_cons] at hk
    rcases hk with hk | rfl | hk
    · exact h.names k (by rw [e]; simp [hk])
    · rw [hnm]; exact h.names g (by rw [e]; simp)
    · exact h.names k (by rw [e]; simp [hk])
theorem ages_put {t : GT} {A B' : List GF} {g g' : GF} (h : ∀ g ∈ t.fams, g.age ≤ t.age) (e : t.fams = A ++ g :: B') (ha : g'.age ≤ t.age) : ∀ k ∈ A ++ g' :: B', k.age ≤ t.age := by
  intro k hk
  simp only [List.mem_append, List.mem_cons] at hk
  rcases hk with hk | rfl | hk
  · exact h k (by rw [e]; simp [hk])
  · exact ha
  · exact h k (by rw [e]; simp [hk])
theorem GF.Ok.aged {m : Nat} {g g' : GF} {a : Nat} (h : GF.Ok m g) (hg : g' = { g with b := g'.b, age := a, sv := g'.sv }) (ha : g.age ≤ a) : GF.Ok m g' := by
  rw [hg]
  exact ⟨h.kind, h.lims, h.srt, h.len, h.each, fun c hc => Nat.le_trans (h.ages c hc) ha, h.lb⟩
theorem ser_fnd {g : GF} (p : List UInt8) (h : kfnd lt p (g.ser.map fun c => c.x.plain) = true) :
    ∃ C c D, g.ser = C ++ c :: D ∧ c.x.plain = p ∧ C.length = kplace lt p (g.ser.map fun c => c.x.plain) := by
  obtain ⟨h1, h2⟩ := kfnd_get p _ h
  have h1' : kplace lt p (g.ser.map fun c => c.x.plain) < g.ser.length := by simpa using h1
  refine ⟨_, _, _, split_at g.ser _ h1', by simpa using h2, ?_⟩
  simp; omega
/-- The families behind one that is put anew. -/
theorem view_put {t t' : GT} {w w' : World} {A B' : List GF} {g g' : GF} (e : t.fams = A ++ g :: B') (hu : Upd t t' w w' (A ++ g' :: B')) (f : Fam) (hf : g'.view = f) : t'.view = t.view.set A.length f := by
  unfold GT.view
  rw [hu.fams, e, ← hf]
  simp

set_option maxRecDepth 100000 in
set_option maxHeartbeats 2000000 in
theorem tallyChange_any (t : GT) (s : ByteArray) (n : Int) (m : Nat) (w : World) (h : GT.At w t) (ho : GT.Ok m t) (hm : m ≤ 4611686018427387904) :
    Calls Tryz.prog 36 #[.pointer (some ⟨t.b, 0, none⟩), .string s, .int .i64 n] w fun e w' => ∃ t' code, e = .returned (.int .i64 code) ∧ Out (m + 1) t t' w w' ∧ t'.rds = t.rds ∧ (code, t'.view) = chgP t.view s.data.toList n := by
  have HH : Hid (GT.At w t) := h
  have HO : Hid (GT.Ok m t) := ho
  have HO1 : Hid (GT.Ok (m + 1) t) := ho.mono (Nat.le_succ m)
  have hg := readP_good s.data.toList
  have hr := read_any s w
  have HPE : Hid ((readP s.data.toList).err = 0 → plainP s.data.toList = plainB (readP s.data.toList).name (readP s.data.toList).labs) := plainP_eq
  obtain ⟨T, hT⟩ : ∃ T, readP s.data.toList = T := ⟨_, rfl⟩
  have HT : Hid (readP s.data.toList = T) := hT
  rw [hT] at hg hr HPE
  obtain ⟨err, at_, nm, ls⟩ := T
  simp only at hg hr HPE
  have HR : Hid (Calls Tryz.prog 39 #[.string s] w _) := hr
  clear h ho hr hT
  go_enter Tryz.func36, Tryz.ntmps36
  go_wp2_with fail
  refine HR.out.mono ?_
  rintro e w1 ⟨v, rfl, own, g1⟩
  obtain ⟨va, vc, rfl⟩ := own_shape own
  by_cases h0 : err = 0
  · subst h0
    have HP := HPE.out rfl
    have HPH : Hid (plainP s.data.toList = plainB nm ls) := HP
    obtain ⟨p, hp⟩ : ∃ p, plainP s.data.toList = p := ⟨_, rfl⟩
    have HPP : Hid (plainP s.data.toList = p) := hp
    rw [hp] at HPH
    have HCH : Hid (∀ q, (kfnd lt nm (t.fams.map GF.nm) = false → q = ((6 : Int), t.view) → q = chgP t.view s.data.toList n) ∧ (kfnd lt nm (t.fams.map GF.nm) = true → q = chgAt t.view (kplace lt nm (t.fams.map GF.nm)) p n → q = chgP t.view s.data.toList n)) := by
      intro q
      unfold chgP
      rw [HT.out]
      simp only [ne_eq, not_true_eq_false, if_false]
      rw [view_nm, hp]
      exact ⟨fun h1 h2 => by rw [if_pos h1, h2], fun h1 h2 => by rw [if_neg (by rw [h1]; simp), h2]⟩
    clear HP HPE hp
    have ga := gb_alloc (gb_refl w1 none) (.cells #[.string (B nm), .slice va ls.length vc] 81)
    have bx := alloc_new w1 (.cells #[.string (B nm), .slice va ls.length vc] 81) _ rfl
    have own1 := own.alloc (.cells #[.string (B nm), .slice va ls.length vc] 81)
    have hbl : w1.heap.size < (w1.alloc (.cells #[.string (B nm), .slice va ls.length vc] 81)).heap.size := by simp
    have G1 := gb_trans g1 ga
    clear ga g1 own
    go_wp2_with fail
    refine (name55_any _ _ _ ⟨_, _, _, rfl⟩).mono ?_
    rintro e w2 ⟨rfl, g2⟩
    have G2 := gb_trans G1 g2
    have bx2 := (g2.block _ hbl (by simp)).trans bx
    have own2 := own1.kept g2 (ownNe _)
    have hbl2 := lt_of bx2
    clear own1 bx hbl g2 G1
    by_cases hno : ∀ g ∈ t.fams, g.nm ≠ nm
    · have HNO : Hid (∀ g ∈ t.fams, g.nm ≠ nm) := hno
      clear hno
      go_wp2_with fail
      refine (tFamily_no t nm m _ (HH.out.gb G2) HO.out HNO.out).mono ?_
      rintro e w3 ⟨rfl, g3⟩
      have G3 := gb_trans G2 g3
      go_wp2
      go_ret
      exact ⟨t, _, rfl, .same HH.out HO1.out G3, rfl, (HCH.out _).1 (no_split HO.out HNO.out) rfl⟩
    · obtain ⟨A, g, B', he, hgn⟩ := find_split hno
      have HE : Hid (t.fams = A ++ g :: B') := he
      have HGM : Hid (g ∈ t.fams) := by show _ ∈ _; rw [he]; simp
      subst hgn
      obtain ⟨hp1, hp2⟩ := place_split HO.out he
      have HC2 : Hid (∀ q, q = chgAt t.view A.length p n → q = chgP t.view s.data.toList n) := by
        intro q hq
        rw [← hp1] at hq
        exact (HCH.out q).2 hp2 hq
      have HVA : Hid (t.view.getD A.length default = g.view) := view_at he
      clear hno he hp1 hp2 HCH
      go_wp2_with fail
      refine (tFamily_yes t A B' g m _ (HH.out.gb G2) HO.out HE.out).mono ?_
      rintro e w3 ⟨rfl, g3⟩
      have G3 := gb_trans G2 g3
      have bx3 := (g3.block _ hbl2 (by simp)).trans bx2
      have own3 := own2.kept g3 (ownNe _)
      have hbl3 := lt_of bx3
      have hk1 := (fam_cells ((HH.out.gb G3).each g HGM.out).blk).2.1
      clear bx2 own2 g3 G2
      go_wp2_with fail
      refine (takes_any g.b g.kind n _ hk1).mono ?_
      rintro e w4 ⟨rfl, rfl⟩
      cases htk : takesB g.kind n with
      | false =>
        have HQ : Hid (((4 : Int), t.view) = chgAt t.view A.length p n) := by show _ = _; unfold chgAt; rw [HVA.out, if_pos (by exact htk)]
        clear htk
        go_wp2
        go_ret
        exact ⟨t, _, rfl, .same HH.out HO1.out G3, rfl, HC2.out _ HQ.out⟩
      | true =>
        have HTK : Hid (¬ takesB g.view.kind n = false) := by show ¬ _; rw [show g.view.kind = g.kind from rfl, htk]; simp
        have hin : inB n = true := by
          have := htk
          unfold takesB at this
          rw [Bool.and_eq_true] at this
          exact this.1
        have HIN : Hid (inB n = true) := hin
        have x0 : w4.cell? ⟨w1.heap.size, 0, none⟩ = some (.string (B g.nm)) := by unfold World.cell?; simp only [bx3]; rfl
        have x1 : w4.cell? ⟨w1.heap.size, 1, none⟩ = some (.slice va ls.length vc) := by unfold World.cell?; simp only [bx3]; rfl
        clear htk hin hk1
        go_wp2_with fail
        refine (plainS_any g.nm va vc _ ls _ (by exact own3) hg.2.2.1 hg.1 hg.2.1).mono ?_
        rintro e w5 ⟨rfl, k5⟩
        have g5 := gb_of_below k5
        have G5 := gb_trans G3 g5
        rw [← HPH.out]
        have hgat5 := (HH.out.gb G5).each g HGM.out
        have hgok := HO.out.each g HGM.out
        have HGOK : Hid (GF.Ok m g) := hgok
        clear k5 g5 own3 bx3 x0 x1 G3
        cases hfd : kfnd lt p (g.ser.map fun c => c.x.plain) with
        | true =>
          obtain ⟨C, c, D, e1, e2, e3⟩ := ser_fnd p hfd
          have hF := gFind g p m w5 hgat5 hgok
          rw [hfd, ← e3] at hF
          have HF : Hid (Calls Tryz.prog 65 #[.pointer (some ⟨g.b, 0, none⟩), .string (B p)] w5 _) := hF
          have E1 : Hid (g.ser = C ++ c :: D) := e1
          have HQ : Hid (((0 : Int), t.view.set A.length { g.view with ser := C.map GC.x ++ countP g.kind g.ls n c.x :: D.map GC.x }) = chgAt t.view A.length p n) := by
            show _ = _
            unfold chgAt
            rw [HVA.out, if_neg HTK.out, ser_plain, if_pos hfd, ← e3]
            simp [GF.view, e1]
          clear hF hfd e1 e2 e3 hgok hgat5
          go_wp2_with fail
          refine HF.out.mono ?_
          rintro e w6 ⟨rfl, g6⟩
          have G6 := gb_trans G5 g6
          have hat6 := HH.out.gb G6
          have HA6 : Hid (GT.At w6 t) := hat6
          have HOW : Hid (Calls Tryz.prog 67 #[.pointer (some ⟨t.b, 0, none⟩), .pointer (some ⟨g.b, 0, none⟩)] w6 _) := tOwn t A B' g m w6 hat6 HO.out HE.out
          clear hat6 G5 g6
          go_wp2_with fail
          refine HOW.out.mono ?_
          rintro e w7 ⟨t1, gg, rfl, hgg, hu1⟩
          have hag : gg.age = t1.age := by rw [hgg]; exact hu1.age.symm
          have hnm : gg.nm = g.nm := by rw [hgg]
          have hser : gg.ser = C ++ c :: D := by rw [hgg]; exact E1.out
          have hdist : ∀ k, k ∈ A ∨ k ∈ B' → k.nm ≠ gg.nm := by rw [hnm]; exact dist_split HO.out HE.out
          have hok7 : GF.Ok m gg := HGOK.out.aged hgg (HO.out.ages g HGM.out)
          have HOA : Hid (Calls Tryz.prog 70 #[.pointer (some ⟨gg.b, 0, none⟩), .int .i64 (C.length : Int)] w7 _) := gOwn t1 A B' gg C D c m w7 hu1.at_ hu1.fams hdist hag hok7 hser
          have HGG : Hid (gg = { g with b := gg.b, age := t.age, sv := gg.sv }) := hgg
          have HU1 : Hid (Upd t t1 w6 w7 (A ++ gg :: B')) := hu1
          have HAG : Hid (gg.age = t1.age) := hag
          have HDI : Hid (∀ k, k ∈ A ∨ k ∈ B' → k.nm ≠ gg.nm) := hdist
          have HNM : Hid (gg.nm = g.nm) := hnm
          clear hgg hu1 hag hdist hok7 hser hnm
          go_wp2_with fail
          refine HOA.out.mono ?_
          rintro e w8 ⟨t2, c2, rfl, hc2a, hc2x, hu2, hok8⟩
          have hcn := gCount t2 A B' { gg with ser := C ++ c2 :: D } n C D c2 m w8 hu2.at_ hu2.fams HDI.out (HAG.out.trans hu2.age.symm) hok8 rfl (hc2a.trans hu2.age.symm) HIN.out hm
          have HCN : Hid (Calls Tryz.prog 69 #[.pointer (some ⟨gg.b, 0, none⟩), .pointer (some ⟨c2.b, 0, none⟩), .int .i64 n] w8 _) := hcn
          have HU2 : Hid (Upd t1 t2 w7 w8 (A ++ { gg with ser := C ++ c2 :: D } :: B')) := hu2
          have HCX : Hid (c2.x = c.x) := hc2x
          clear hcn hu2 hok8 hc2a hc2x
          go_wp2_with fail
          refine HCN.out.mono ?_
          rintro e w9 ⟨rfl, t3, hu3, hok9⟩
          go_wp2
          go_ret
          have hu := (HU1.out.trans HU2.out).trans hu3
          have htot := HO.out.total
          rw [HE.out, sum_split] at htot
          have hl : (C ++ (⟨c2.b, c2.age, countP gg.kind gg.ls n c2.x⟩ : GC) :: D).length = g.ser.length := by rw [E1.out]; simp
          refine ⟨t3, 0, rfl, .from G6 (hu.out HO.out (Nat.le_succ m) (mom_put HO.out.mom HE.out (Nat.le_succ m) HNM.out hok9 (by show _ + (C ++ (⟨c2.b, c2.age, countP gg.kind gg.ls n c2.x⟩ : GC) :: D).length + _ ≤ 24; rw [hl]; exact htot)) (ages_put HO.out.ages HE.out (by show gg.age ≤ t.age; rw [HGG.out]; exact Nat.le_refl _))), hu.rds, HC2.out _ ?_⟩
          rw [← HQ.out, view_put HE.out hu _ rfl]
          rw [HGG.out]
          simp [GF.view, HCX.out]
        | false =>
          have hF := gFind g p m w5 hgat5 hgok
          rw [hfd] at hF
          have HF : Hid (Calls Tryz.prog 65 #[.pointer (some ⟨g.b, 0, none⟩), .string (B p)] w5 _) := hF
          have HFD : Hid (kfnd lt p (g.ser.map fun c => c.x.plain) = false) := hfd
          have HQ0 : Hid (¬ kfnd lt p (g.view.ser.map Cnt.plain) = true) := by show ¬ _; rw [ser_plain, hfd]; simp
          clear hF hfd hgok hgat5
          go_wp2_with fail
          refine HF.out.mono ?_
          rintro e w6 ⟨rfl, g6⟩
          have G6 := gb_trans G5 g6
          have HFU : Hid (Calls Tryz.prog 66 #[.pointer (some ⟨t.b, 0, none⟩)] w6 _) := tFull_any t m w6 (HH.out.gb G6) HO.out
          by_cases hfull : 24 ≤ total t
          · have hd : decide (24 ≤ total t) = true := decide_eq_true hfull
            have HQ : Hid (((7 : Int), t.view) = chgAt t.view A.length p n) := by
              show _ = _
              unfold chgAt
              rw [HVA.out, if_neg HTK.out, if_neg HQ0.out, if_pos (by rw [← total_view]; exact hfull)]
            rw [hd] at HFU
            clear hd hfull
            go_wp2_with fail
            refine HFU.out.mono ?_
            rintro e w7 ⟨rfl, rfl⟩
            go_wp2
            go_ret
            exact ⟨t, _, rfl, .same HH.out HO1.out G6, rfl, HC2.out _ HQ.out⟩
          · have hd : decide (24 ≤ total t) = false := decide_eq_false hfull
            have HTL : Hid (total t < 24) := by show _ < _; omega
            obtain ⟨i, hi⟩ : ∃ i, kplace lt p (g.ser.map fun c => c.x.plain) = i := ⟨_, rfl⟩
            have HI : Hid (kplace lt p (g.ser.map fun c => c.x.plain) = i) := hi
            have hil : i ≤ g.ser.length := by rw [← hi]; have := kplace_le lt p (g.ser.map fun c => c.x.plain); simpa using this
            have HQ : Hid (((0 : Int), t.view.set A.length { g.view with ser := kins (g.ser.map GC.x) i (countP g.kind g.ls n (zeroCnt p)) }) = chgAt t.view A.length p n) := by
              show _ = _
              unfold chgAt
              rw [HVA.out, if_neg HTK.out, if_neg HQ0.out, if_neg (by rw [← total_view]; exact hfull), ser_plain, hi]
              rfl
            rw [hd] at HFU
            rw [hi]
            have h24 : g.ser.length < 24 := by
              have := HTL.out
              unfold total at this
              rw [HE.out, sum_split] at this
              omega
            have hpl : p.length ≤ 400 := by rw [HPH.out]; exact plainB_len _ _ hg.1 hg.2.2.1 hg.2.1
            clear hd hfull hi
            have hat6 := HH.out.gb G6
            have HA6 : Hid (GT.At w6 t) := hat6
            have HOW : Hid (Calls Tryz.prog 67 #[.pointer (some ⟨t.b, 0, none⟩), .pointer (some ⟨g.b, 0, none⟩)] w6 _) := tOwn t A B' g m w6 hat6 HO.out HE.out
            clear hat6
            go_wp2_with fail
            refine HFU.out.mono ?_
            rintro e w6b ⟨rfl, rfl⟩
            go_wp2_with fail
            refine HOW.out.mono ?_
            rintro e w7 ⟨t1, gg, rfl, hgg, hu1⟩
            have hag : gg.age = t1.age := by rw [hgg]; exact hu1.age.symm
            have hnm : gg.nm = g.nm := by rw [hgg]
            have hser : gg.ser = g.ser := by rw [hgg]
            have hdist : ∀ k, k ∈ A ∨ k ∈ B' → k.nm ≠ gg.nm := by rw [hnm]; exact dist_split HO.out HE.out
            have hok7 : GF.Ok m gg := HGOK.out.aged hgg (HO.out.ages g HGM.out)
            have had := gAdd t1 A B' gg p m w7 hu1.at_ hu1.fams hdist hag hok7 (by rw [hser]; exact HFD.out) (by rw [hser]; exact h24) hpl
            rw [hser, HI.out] at had
            have HAD : Hid (Calls Tryz.prog 68 #[.pointer (some ⟨gg.b, 0, none⟩), .string (B p)] w7 _) := had
            have HGG : Hid (gg = { g with b := gg.b, age := t.age, sv := gg.sv }) := hgg
            have HU1 : Hid (Upd t t1 w6b w7 (A ++ gg :: B')) := hu1
            have HAG : Hid (gg.age = t1.age) := hag
            have HDI : Hid (∀ k, k ∈ A ∨ k ∈ B' → k.nm ≠ gg.nm) := hdist
            have HNM : Hid (gg.nm = g.nm) := hnm
            clear hgg hu1 hag hdist hok7 hser hnm had
            go_wp2_with fail
            refine HAD.out.mono ?_
            rintro e w8 ⟨rfl, t2, g2', hg2, hu2, hok8⟩
            have hb2 : g2'.b = gg.b := by rw [hg2]
            have hn2 : g2'.nm = gg.nm := by rw [hg2]
            have ha2 : g2'.age = t2.age := by rw [hg2, hu2.age]; exact HAG.out
            have hs2 : g2'.ser = g.ser.take i ++ (⟨w7.heap.size, t1.age, zeroCnt p⟩ : GC) :: g.ser.drop i := by rw [hg2]; rfl
            have hk2 : g2'.kind = g.kind := by rw [hg2, HGG.out]
            have hl2 : g2'.ls = g.ls := by rw [hg2, HGG.out]
            have hti : (g.ser.take i).length = i := by simp; omega
            have hd2 : ∀ k, k ∈ A ∨ k ∈ B' → k.nm ≠ g2'.nm := by rw [hn2]; exact HDI.out
            have hoa := gOwn t2 A B' g2' (g.ser.take i) (g.ser.drop i) ⟨w7.heap.size, t1.age, zeroCnt p⟩ m w8 hu2.at_ hu2.fams hd2 ha2 hok8 hs2
            rw [hb2, hti] at hoa
            have HOA : Hid (Calls Tryz.prog 70 #[.pointer (some ⟨gg.b, 0, none⟩), .int .i64 (i : Int)] w8 _) := hoa
            have HU2 : Hid (Upd t1 t2 w7 w8 (A ++ g2' :: B')) := hu2
            have HS2 : Hid (g2'.b = gg.b ∧ g2'.nm = gg.nm ∧ g2'.age = t2.age ∧ g2'.kind = g.kind ∧ g2'.ls = g.ls ∧ ∀ k, k ∈ A ∨ k ∈ B' → k.nm ≠ g2'.nm) := ⟨hb2, hn2, ha2, hk2, hl2, hd2⟩
            clear hoa hg2 hu2 hok8 hb2 hn2 ha2 hs2 hk2 hl2 hti hd2
            go_wp2_with fail
            refine HOA.out.mono ?_
            rintro e w9 ⟨t3, c2, rfl, hc2a, hc2x, hu3, hok9⟩
            obtain ⟨q1, q2, q3, q4, q5, q6⟩ := HS2.out
            have hcn := gCount t3 A B' { g2' with b := gg.b, ser := g.ser.take i ++ c2 :: g.ser.drop i } n (g.ser.take i) (g.ser.drop i) c2 m w9 hu3.at_ hu3.fams q6 (q3.trans hu3.age.symm) hok9 rfl (hc2a.trans hu3.age.symm) HIN.out hm
            have hcn2 : Calls Tryz.prog 69 #[.pointer (some ⟨gg.b, 0, none⟩), .pointer (some ⟨c2.b, 0, none⟩), .int .i64 n] w9 _ := hcn
            have HCN : Hid (Calls Tryz.prog 69 #[.pointer (some ⟨gg.b, 0, none⟩), .pointer (some ⟨c2.b, 0, none⟩), .int .i64 n] w9 _) := hcn2
            have HU3 : Hid (Upd t2 t3 w8 w9 (A ++ { g2' with b := gg.b, ser := g.ser.take i ++ c2 :: g.ser.drop i } :: B')) := hu3
            have HCX : Hid (c2.x = zeroCnt p) := hc2x
            clear hcn hcn2 hu3 hok9 hc2a hc2x q1 q2 q3 q4 q5 q6
            go_wp2_with fail
            refine HCN.out.mono ?_
            rintro e w10 ⟨rfl, t4, hu4, hok10⟩
            go_wp2
            go_ret
            have hu := ((HU1.out.trans HU2.out).trans HU3.out).trans hu4
            obtain ⟨q1, q2, q3, q4, q5, q6⟩ := HS2.out
            have htot := HTL.out
            unfold total at htot
            rw [HE.out, sum_split] at htot
            have hl : (g.ser.take i ++ (⟨c2.b, c2.age, countP g2'.kind g2'.ls n c2.x⟩ : GC) :: g.ser.drop i).length = g.ser.length + 1 := by simp; omega
            refine ⟨t4, 0, rfl, .from G6 (hu.out HO.out (Nat.le_succ m) (mom_put HO.out.mom HE.out (Nat.le_succ m) (q2.trans HNM.out) hok10 (by show _ + (g.ser.take i ++ (⟨c2.b, c2.age, countP g2'.kind g2'.ls n c2.x⟩ : GC) :: g.ser.drop i).length + _ ≤ 24; rw [hl]; omega)) (ages_put HO.out.ages HE.out (by show g2'.age ≤ t.age; rw [q3, HU2.out.age, HU1.out.age]; exact Nat.le_refl _))), hu.rds, HC2.out _ ?_⟩
            rw [← HQ.out, view_put HE.out hu _ rfl]
            simp [GF.view, HCX.out, q2, q4, q5, HNM.out, kins]
  · have HE : Hid (((err : Int), t.view) = chgP t.view s.data.toList n) := by
      show _ = _; unfold chgP; rw [HT.out, if_pos (by exact h0)]
    have h0' : ((err : Int) != 0) = true := by simp; omega
    go_wp2
    go_ret
    exact ⟨t, _, rfl, .same HH.out HO1.out (gb_alloc g1 _), rfl, HE.out⟩

end Go.Proofs.YtcfdemhokbddiaaGreatDoor
