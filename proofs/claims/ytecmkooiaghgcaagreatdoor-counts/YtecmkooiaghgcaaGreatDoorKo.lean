/-
  Tally.Change and Tally.Drop: what they answer and what the board keeps behind them.
-/
import Derived.Test.YtecmkooiaghgcaaGreatDoorKn

namespace Go.Proofs.YtecmkooiaghgcaaGreatDoor
open Go.RowKit

def sizeOfAll (T : List Fam) : Nat := (T.map fun f => f.ser.length).sum
theorem total_view (t : GT) : total t = sizeOfAll t.view := by
  unfold total sizeOfAll GT.view
  rw [List.map_map]
  congr 1
  apply List.map_congr_left
  intro g _
  simp [GF.view]

/-- What Change comes to. -/
def ChgOut (T : List Fam) (l : List UInt8) (n : Int) (code : Int) (T' : List Fam) : Prop :=
  ((readP l).err ≠ 0 ∧ code = ((readP l).err : Int) ∧ T' = T) ∨
  ((readP l).err = 0 ∧ (∀ f ∈ T, f.nm ≠ (readP l).name) ∧ code = 6 ∧ T' = T) ∨
  ((readP l).err = 0 ∧ ∃ A f B', T = A ++ f :: B' ∧ f.nm = (readP l).name ∧
    ((takesB f.kind n = false ∧ code = 4 ∧ T' = T) ∨
     (takesB f.kind n = true ∧ ∃ C c D, f.ser = C ++ c :: D ∧ c.plain = plainP l ∧ code = 0 ∧ T' = A ++ { f with ser := C ++ countP f.kind f.ls n c :: D } :: B') ∨
     (takesB f.kind n = true ∧ (∀ c ∈ f.ser, c.plain ≠ plainP l) ∧ 24 ≤ sizeOfAll T ∧ code = 7 ∧ T' = T) ∨
     (takesB f.kind n = true ∧ (∀ c ∈ f.ser, c.plain ≠ plainP l) ∧ sizeOfAll T < 24 ∧ code = 0 ∧ ∃ C D, f.ser = C ++ D ∧ T' = A ++ { f with ser := C ++ countP f.kind f.ls n (zeroCnt (plainP l)) :: D } :: B')))

def DrpOut (T : List Fam) (l : List UInt8) (code : Int) (T' : List Fam) : Prop :=
  ((readP l).err ≠ 0 ∧ code = ((readP l).err : Int) ∧ T' = T) ∨
  ((readP l).err = 0 ∧ (∀ f ∈ T, f.nm ≠ (readP l).name) ∧ code = 6 ∧ T' = T) ∨
  ((readP l).err = 0 ∧ ∃ A f B', T = A ++ f :: B' ∧ f.nm = (readP l).name ∧
    (((∀ c ∈ f.ser, c.plain ≠ plainP l) ∧ code = 6 ∧ T' = T) ∨
     (∃ C c D, f.ser = C ++ c :: D ∧ c.plain = plainP l ∧ code = 0 ∧ T' = A ++ { f with ser := C ++ D } :: B')))

set_option maxHeartbeats 400000 in
theorem name55_any (nm : ByteArray) (v : Value) (w : World) (hv : ∃ a n c, v = .slice a n c) :
    Calls Tryz.prog 55 #[.agg #[.string nm, v]] w fun e w' => e = .returned (.string nm) ∧ w.grownBy w' none := by
  obtain ⟨a, n, c, rfl⟩ := hv
  go_enter Tryz.func55, Tryz.ntmps55
  go_wp2
  go_ret
  exact ⟨rfl, gb_alloc (gb_refl _ _) _⟩

/-- A family of the board has been turned, and it stays as it may be. -/
theorem Out.upd {m m' : Nat} {t : GT} {w w' : World} (h : GT.At w t) (ho : GT.Ok m t) (hmm : m ≤ m') {A B' : List GF} {g g' : GF} (e : t.fams = A ++ g :: B') (hb : g'.b = g.b) (hnm : g'.nm = g.nm) (hat : GF.At w' g') (hok : GF.Ok m' g') (hk : Kept g.own w w') (hsub : ∀ b ∈ g'.own, b ∈ g.own ∨ w.heap.size ≤ b)
    (htot : ((A ++ g' :: B').map fun g => g.ser.length).sum ≤ 24) : Out m' t { t with fams := A ++ g' :: B' } w w' := by
  obtain ⟨h1, h2, h3⟩ := GT.upd h e hb hat hk hsub hok.nodup
  refine ⟨h1, ⟨?_, ?_, ?_, ?_, htot⟩, rfl, h2, h3⟩
  · have hs := ho.srt
    rw [e] at hs
    simpa [hnm] using hs
  · have := ho.len
    rw [e] at this
    simpa using this
  · intro k hk2
    simp only [List.mem_append, List.mem_cons] at hk2
    have hup : ∀ k ∈ t.fams, GF.Ok m' k := fun k hk => by
      have := ho.each k hk
      exact ⟨this.kind, this.lims, this.srt, this.len, fun c hc => (this.each c hc).mono hmm, this.nodup⟩
    rcases hk2 with hk2 | rfl | hk2
    · exact hup k (by rw [e]; simp [hk2])
    · exact hok
    · exact hup k (by rw [e]; simp [hk2])
  · intro k hk2
    simp only [List.mem_append, List.mem_cons] at hk2
    rcases hk2 with hk2 | rfl | hk2
    · exact ho.names k (by rw [e]; simp [hk2])
    · rw [hnm]; exact ho.names g (by rw [e]; simp)
    · exact ho.names k (by rw [e]; simp [hk2])

theorem GT.Ok.mono {m k : Nat} {t : GT} (h : GT.Ok m t) (hk : m ≤ k) : GT.Ok k t :=
  ⟨h.srt, h.len, fun g hg => by
    have := h.each g hg
    exact ⟨this.kind, this.lims, this.srt, this.len, fun c hc => (this.each c hc).mono hk, this.nodup⟩, h.names, h.total⟩

theorem ser_fnd {g : GF} (p : List UInt8) (h : kfnd lt p (g.ser.map fun c => c.x.plain) = true) :
    ∃ C c D, g.ser = C ++ c :: D ∧ c.x.plain = p ∧ C.length = kplace lt p (g.ser.map fun c => c.x.plain) := by
  obtain ⟨h1, h2⟩ := kfnd_get p _ h
  have h1' : kplace lt p (g.ser.map fun c => c.x.plain) < g.ser.length := by simpa using h1
  refine ⟨_, _, _, split_at g.ser _ h1', by simpa using h2, ?_⟩
  simp; omega
theorem ser_nofnd {g : GF} {m : Nat} (ho : GF.Ok m g) (p : List UInt8) (h : kfnd lt p (g.ser.map fun c => c.x.plain) = false) : ∀ c ∈ g.view.ser, c.plain ≠ p := by
  intro c hc e
  have : p ∈ g.ser.map fun c => c.x.plain := by
    simp only [GF.view, List.mem_map] at hc
    obtain ⟨d, hd, rfl⟩ := hc
    rw [← e]; exact List.mem_map_of_mem (f := fun c : GC => c.x.plain) hd
  rw [(kfnd_iff ltB p _ ho.srt).2 this] at h
  cases h
theorem view_split {t : GT} {A B' : List GF} {g : GF} (e : t.fams = A ++ g :: B') : t.view = A.map GF.view ++ g.view :: B'.map GF.view := by
  simp [GT.view, e]
theorem sum_split {A B' : List GF} {g : GF} : ((A ++ g :: B').map fun g => g.ser.length).sum = (A.map fun g => g.ser.length).sum + g.ser.length + (B'.map fun g => g.ser.length).sum := by
  simp; omega

theorem serPtr {w : World} {g : GF} (h : GF.At w g) (C D : List GC) (c : GC) (e : g.ser = C ++ c :: D) : ∃ gb cap, g.sv = .slice (some ⟨gb, 0, none⟩) g.ser.length cap ∧ w.cell? ⟨gb, C.length, none⟩ = some (.pointer (some ⟨c.b, 0, none⟩)) ∧ C.length < g.ser.length := by
  have hlt : C.length < g.ser.length := by rw [e]; simp
  obtain ⟨gb, cap, hsv⟩ : ∃ gb cap, g.sv = .slice (some ⟨gb, 0, none⟩) g.ser.length cap := by
    rcases h.rows.2 with ⟨_, h0⟩ | ⟨g', cap', cur, hv, _⟩
    · omega
    · exact ⟨g', cap', hv⟩
  have hr := h.rows
  rw [hsv] at hr
  have := ptrsAt_of hr C.length (by simpa using hlt)
  have hget : (g.ser.map GC.b)[C.length]'(by simpa using hlt) = c.b := by simp [e]
  rw [hget] at this
  exact ⟨gb, cap, hsv, this, hlt⟩

end Go.Proofs.YtecmkooiaghgcaaGreatDoor

/-
  Tally.Change, walked.
-/
namespace Go.Proofs.YtecmkooiaghgcaaGreatDoor
open Go.RowKit

theorem Kept.then {L M : List Nat} {a b c : World} (h : Kept L a b) (k : Kept M b c) (hs : ∀ x ∈ M, x ∈ L ∨ a.heap.size ≤ x) : Kept L a c :=
  ⟨k.os.trans h.os, k.tape.trans h.tape, k.output.trans h.output, Nat.le_trans h.size k.size, fun i hi hn => (k.block i (Nat.lt_of_lt_of_le hi h.size) (fun hm => by
    rcases hs i hm with h1 | h1
    · exact hn h1
    · omega)).trans (h.block i hi hn)⟩
theorem plainP_eq {l : List UInt8} (h : (readP l).err = 0) : plainP l = plainB (readP l).name (readP l).labs := by unfold plainP; rw [if_pos h]

set_option maxRecDepth 100000 in
set_option maxHeartbeats 2000000 in
theorem tallyChange_any (t : GT) (s : ByteArray) (n : Int) (m : Nat) (w : World) (h : GT.At w t) (ho : GT.Ok m t) (hm : m ≤ 4611686018427387904) :
    Calls Tryz.prog 38 #[.pointer (some ⟨t.b, 0, none⟩), .string s, .int .i64 n] w fun e w' => ∃ t' code, e = .returned (.int .i64 code) ∧ Out (m + 1) t t' w w' ∧ ChgOut t.view s.data.toList n code t'.view := by
  have HH : Hid (GT.At w t) := h
  have HO : Hid (GT.Ok m t) := ho
  have HO1 : Hid (GT.Ok (m + 1) t) := ho.mono (Nat.le_succ m)
  have hg := readP_good s.data.toList
  have hr := read_any s w
  have HPE : Hid ((readP s.data.toList).err = 0 → plainP s.data.toList = plainB (readP s.data.toList).name (readP s.data.toList).labs) := plainP_eq
  obtain ⟨T, hT⟩ : ∃ T, readP s.data.toList = T := ⟨_, rfl⟩
  have HT : Hid (readP s.data.toList = T) := hT
  rw [hT] at hg hr HPE
  obtain ⟨err, at_, nm, ls⟩ := T
  simp only at hg hr HPE
  have HR : Hid (Calls Tryz.prog 43 #[.string s] w _) := hr
  clear h ho hr hT
  go_enter Tryz.func38, Tryz.ntmps38
  go_wp2_with fail
  refine HR.out.mono ?_
  rintro e w1 ⟨v, rfl, own, g1⟩
  obtain ⟨va, vc, rfl⟩ := own_shape own
  by_cases h0 : err = 0
  · subst h0
    have HP := HPE.out rfl
    have HPH : Hid (plainP s.data.toList = plainB nm ls) := HP
    obtain ⟨p, hp⟩ : ∃ p, plainP s.data.toList = p := ⟨_, rfl⟩
    have HPP : Hid (plainP s.data.toList = p) := hp
    rw [hp] at HPH
    clear HP HPE hp
    -- the series' text lies in a block of its own
    have ga := gb_alloc (gb_refl w1 none) (.cells #[.string (B nm), .slice va ls.length vc] 90)
    have bx := alloc_new w1 (.cells #[.string (B nm), .slice va ls.length vc] 90) _ rfl
    have own1 := own.alloc (.cells #[.string (B nm), .slice va ls.length vc] 90)
    have hbl : w1.heap.size < (w1.alloc (.cells #[.string (B nm), .slice va ls.length vc] 90)).heap.size := by simp
    have G1 := gb_trans g1 ga
    clear ga g1 own
    go_wp2_with fail
    refine (name55_any _ _ _ ⟨_, _, _, rfl⟩).mono ?_
    rintro e w2 ⟨rfl, g2⟩
    have G2 := gb_trans G1 g2
    have bx2 := (g2.block _ hbl (by simp)).trans bx
    have own2 := own1.kept g2 (ownNe _)
    have hbl2 := lt_of bx2
    clear own1 bx hbl g2 G1
    by_cases hno : ∀ g ∈ t.fams, g.nm ≠ nm
    · have HNO : Hid (∀ g ∈ t.fams, g.nm ≠ nm) := hno
      clear hno
      go_wp2_with fail
      refine (tFamily_no t nm m _ (HH.out.gb G2) HO.out HNO.out).mono ?_
      rintro e w3 ⟨rfl, g3⟩
      have G3 := gb_trans G2 g3
      go_wp2
      go_ret
      refine ⟨t, _, rfl, .same HH.out HO1.out G3, Or.inr (Or.inl ⟨by rw [HT.out], fun f hf => ?_, rfl, rfl⟩)⟩
      rw [HT.out]
      simp only [GT.view, List.mem_map] at hf
      obtain ⟨g, hg, rfl⟩ := hf
      exact HNO.out g hg
    · obtain ⟨A, g, B', he, hgn⟩ := find_split hno
      have HE : Hid (t.fams = A ++ g :: B') := he
      have HGM : Hid (g ∈ t.fams) := by show _ ∈ _; rw [he]; simp
      have HNM : Hid (g.view.nm = (readP s.data.toList).name) := by show _ = _; rw [HT.out]; exact hgn
      have HERR : Hid ((readP s.data.toList).err = 0) := by show _ = _; rw [HT.out]
      subst hgn
      clear hno he
      go_wp2_with fail
      refine (tFamily_yes t A B' g m _ (HH.out.gb G2) HO.out HE.out).mono ?_
      rintro e w3 ⟨rfl, g3⟩
      have G3 := gb_trans G2 g3
      have bx3 := (g3.block _ hbl2 (by simp)).trans bx2
      have own3 := own2.kept g3 (ownNe _)
      have hbl3 := lt_of bx3
      have hk1 := (fam_cells ((HH.out.gb G3).each g HGM.out).blk).2.1
      clear bx2 own2 g3 G2
      go_wp2_with fail
      refine (takes_any g.b g.kind n _ hk1).mono ?_
      rintro e w4 ⟨rfl, rfl⟩
      cases htk : takesB g.kind n with
      | false =>
        have HTK : Hid (takesB g.view.kind n = false) := htk
        clear htk
        go_wp2
        go_ret
        exact ⟨t, _, rfl, .same HH.out HO1.out G3, Or.inr (Or.inr ⟨HERR.out, _, _, _, view_split HE.out, HNM.out, Or.inl ⟨HTK.out, rfl, rfl⟩⟩)⟩
      | true =>
        have HTK : Hid (takesB g.view.kind n = true) := htk
        have hin : inB n = true := by
          have := htk
          unfold takesB at this
          rw [Bool.and_eq_true] at this
          exact this.1
        have HIN : Hid (inB n = true) := hin
        have x0 : w4.cell? ⟨w1.heap.size, 0, none⟩ = some (.string (B g.nm)) := by unfold World.cell?; simp only [bx3]; rfl
        have x1 : w4.cell? ⟨w1.heap.size, 1, none⟩ = some (.slice va ls.length vc) := by unfold World.cell?; simp only [bx3]; rfl
        clear htk hin hk1
        go_wp2_with fail
        refine (plainS_any g.nm va vc _ ls _ (by exact own3) hg.2.2.1 hg.1 hg.2.1).mono ?_
        rintro e w5 ⟨rfl, k5⟩
        have g5 := gb_of_below k5
        have G5 := gb_trans G3 g5
        rw [← HPH.out]
        have hgat5 := (HH.out.gb G5).each g HGM.out
        have hgok := HO.out.each g HGM.out
        have HGOK : Hid (GF.Ok m g) := hgok
        clear k5 g5 own3 bx3 x0 x1 G3
        cases hfd : kfnd lt p (g.ser.map fun c => c.x.plain) with
        | true =>
          obtain ⟨C, c, D, e1, e2, e3⟩ := ser_fnd p hfd
          have hF := gFind g p m w5 hgat5 hgok
          rw [hfd, ← e3] at hF
          have HF : Hid (Calls Tryz.prog 57 #[.pointer (some ⟨g.b, 0, none⟩), .string (B p)] w5 _) := hF
          have E1 : Hid (g.ser = C ++ c :: D) := e1
          have E2 : Hid (c.x.plain = p) := e2
          clear hF hfd e1 e2 e3 hgok hgat5
          go_wp2_with fail
          refine HF.out.mono ?_
          rintro e w6 ⟨rfl, g6⟩
          have G6 := gb_trans G5 g6
          have hat6 := HH.out.gb G6
          have hgat6 := hat6.each g HGM.out
          obtain ⟨gb_, cap, hsv, hcell, hlt⟩ := serPtr hgat6 C D c E1.out
          have c3 := (fam_cells hgat6.blk).2.2.2.1
          rw [hsv] at c3
          have hlti : (C.length : Int) < (g.ser.length : Int) := by omega
          have HA6 : Hid (GT.At w6 t) := hat6
          have HG6 : Hid (GF.At w6 g) := hgat6
          clear hat6 hgat6 hsv G5 g6
          go_wp2_with fail
          refine (gCount g n C D c m _ HG6.out HGOK.out E1.out HIN.out hm).mono ?_
          rintro e w7 ⟨rfl, g', rfl, hat7, hok7, hk7, hs7⟩
          go_wp2
          go_ret
          have hu := Out.upd (g' := { g with ser := C ++ ⟨c.b, countP g.kind g.ls n c.x⟩ :: D }) HA6.out HO.out (Nat.le_succ m) HE.out rfl rfl hat7 hok7 hk7 hs7 (by
            have := HO.out.total
            rw [HE.out, sum_split] at this
            rw [sum_split]
            have e4 : (C ++ (⟨c.b, countP g.kind g.ls n c.x⟩ : GC) :: D).length = g.ser.length := by rw [E1.out]; simp
            show _ + (C ++ (⟨c.b, countP g.kind g.ls n c.x⟩ : GC) :: D).length + _ ≤ 24
            rw [e4]; exact this)
          refine ⟨_, 0, rfl, .from G6 hu, Or.inr (Or.inr ⟨HERR.out, _, _, _, view_split HE.out, HNM.out, Or.inr (Or.inl ⟨HTK.out, C.map GC.x, c.x, D.map GC.x, ?_, ?_, rfl, ?_⟩)⟩)⟩
          · simp [GF.view, E1.out]
          · rw [E2.out, HPP.out]
          · simp [GT.view, GF.view]
        | false =>
          have hF := gFind g p m w5 hgat5 hgok
          rw [hfd] at hF
          have HF : Hid (Calls Tryz.prog 57 #[.pointer (some ⟨g.b, 0, none⟩), .string (B p)] w5 _) := hF
          have HFD : Hid (kfnd lt p (g.ser.map fun c => c.x.plain) = false) := hfd
          have HNF : Hid (∀ c ∈ g.view.ser, c.plain ≠ plainP s.data.toList) := by
            have := ser_nofnd hgok p hfd
            rw [← HPP.out] at this
            exact this
          clear hF hfd hgok hgat5
          go_wp2_with fail
          refine HF.out.mono ?_
          rintro e w6 ⟨rfl, g6⟩
          have G6 := gb_trans G5 g6
          have HFU : Hid (Calls Tryz.prog 58 #[.pointer (some ⟨t.b, 0, none⟩)] w6 _) := tFull_any t m w6 (HH.out.gb G6) HO.out
          by_cases hfull : 24 ≤ total t
          · have hd : decide (24 ≤ total t) = true := decide_eq_true hfull
            have HFL : Hid (24 ≤ sizeOfAll t.view) := by show _ ≤ _; rw [← total_view]; exact hfull
            rw [hd] at HFU
            clear hd hfull
            go_wp2_with fail
            refine HFU.out.mono ?_
            rintro e w7 ⟨rfl, rfl⟩
            go_wp2
            go_ret
            exact ⟨t, _, rfl, .same HH.out HO1.out G6, Or.inr (Or.inr ⟨HERR.out, _, _, _, view_split HE.out, HNM.out, Or.inr (Or.inr (Or.inl ⟨HTK.out, HNF.out, HFL.out, rfl, rfl⟩))⟩)⟩
          · have hd : decide (24 ≤ total t) = false := decide_eq_false hfull
            have HFL : Hid (sizeOfAll t.view < 24) := by show _ < _; rw [← total_view]; omega
            have HTL : Hid (total t < 24) := by show _ < _; omega
            rw [hd] at HFU
            have h24 : g.ser.length < 24 := by
              have := HTL.out
              unfold total at this
              rw [HE.out, sum_split] at this
              omega
            clear hd hfull
            have hat6 := HH.out.gb G6
            have hgat6 := hat6.each g HGM.out
            have HA6 : Hid (GT.At w6 t) := hat6
            have HAD : Hid (Calls Tryz.prog 59 #[.pointer (some ⟨g.b, 0, none⟩), .string (B p)] w6 _) := gAdd g p m w6 hgat6 HGOK.out HFD.out h24
            obtain ⟨i, hi⟩ : ∃ i, kplace lt p (g.ser.map fun c => c.x.plain) = i := ⟨_, rfl⟩
            have hil : i ≤ g.ser.length := by rw [← hi]; have := kplace_le lt p (g.ser.map fun c => c.x.plain); simpa using this
            rw [hi] at HAD ⊢
            clear hi hat6 hgat6
            go_wp2_with fail
            refine HFU.out.mono ?_
            rintro e w7 ⟨rfl, rfl⟩
            go_wp2_with fail
            refine HAD.out.mono ?_
            rintro e w8 ⟨rfl, g', hg', hat8, hok8, hk8, hs8⟩
            have hser : g'.ser = g.ser.take i ++ (⟨w7.heap.size, zeroCnt p⟩ : GC) :: g.ser.drop i := by rw [hg']; rfl
            have HSER : Hid (g'.ser = g.ser.take i ++ (⟨w7.heap.size, zeroCnt p⟩ : GC) :: g.ser.drop i) := hser
            have hgb : g'.b = g.b := by rw [hg']
            have hgnm : g'.nm = g.nm := by rw [hg']
            have hgk : g'.kind = g.kind := by rw [hg']
            have hgl : g'.ls = g.ls := by rw [hg']
            obtain ⟨gb_, cap, hsv, hcell, hlt⟩ := serPtr hat8 _ _ _ hser
            have c3 := (fam_cells hat8.blk).2.2.2.1
            rw [hsv, hgb] at c3
            have hti : (g.ser.take i).length = i := by simp; omega
            rw [hti] at hcell hlt
            have hlti : (i : Int) < (g'.ser.length : Int) := by omega
            have hC := gCount g' n _ _ _ m w8 hat8 hok8 hser HIN.out hm
            rw [hgb] at hC
            have HC : Hid (Calls Tryz.prog 60 #[.pointer (some ⟨g.b, 0, none⟩), .pointer (some ⟨w7.heap.size, 0, none⟩), .int .i64 n] w8 _) := hC
            have HSUM : Hid (g'.ser.length = g.ser.length + 1) := by show _ = _; rw [hser]; simp; omega
            have HGS : Hid (g'.b = g.b ∧ g'.nm = g.nm ∧ g'.kind = g.kind ∧ g'.ls = g.ls) := ⟨hgb, hgnm, hgk, hgl⟩
            have HK8 : Hid (Kept g.own w7 w8) := hk8
            have HS8 : Hid (∀ b ∈ g'.own, b ∈ g.own ∨ w7.heap.size ≤ b) := hs8
            clear hC hsv hti hser hgb hgnm hgk hgl hat8 hok8 hg' hk8 hs8
            go_wp2_with fail
            refine HC.out.mono ?_
            rintro e w9 ⟨rfl, g2', hg2, hat9, hok9, hk9, hs9⟩
            go_wp2
            go_ret
            have hk89 : Kept g.own w7 w9 := HK8.out.then hk9 HS8.out
            obtain ⟨q1, q2, q3, q4⟩ := HGS.out
            have hs89 : ∀ b ∈ g2'.own, b ∈ g.own ∨ w7.heap.size ≤ b := fun b hb => by
              rcases hs9 b hb with h1 | h1
              · exact HS8.out b h1
              · exact Or.inr (Nat.le_trans HK8.out.size h1)
            have hser2 : g2'.ser = g.ser.take i ++ (⟨w7.heap.size, countP g.kind g.ls n (zeroCnt p)⟩ : GC) :: g.ser.drop i := by rw [hg2, q3, q4]
            have hb2 : g2'.b = g.b := by rw [hg2]; try exact q1
            have hn2 : g2'.nm = g.nm := by rw [hg2]; try exact q2
            have hl2 : g2'.ser.length = g.ser.length + 1 := by rw [hser2]; simp; omega
            have hu := Out.upd (g' := g2') HA6.out HO.out (Nat.le_succ m) HE.out hb2 hn2 hat9 hok9 hk89 hs89 (by
              have := HTL.out
              unfold total at this
              rw [HE.out, sum_split] at this
              rw [sum_split, hl2]; omega)
            refine ⟨_, 0, rfl, .from G6 hu, Or.inr (Or.inr ⟨HERR.out, _, _, _, view_split HE.out, HNM.out, Or.inr (Or.inr (Or.inr ⟨HTK.out, HNF.out, HFL.out, rfl, (g.ser.take i).map GC.x, (g.ser.drop i).map GC.x, ?_, ?_⟩))⟩)⟩
            · rw [← List.map_append, List.take_append_drop]; rfl
            · have ev : g2'.view = ({ g.view with ser := (g.ser.take i).map GC.x ++ countP g.view.kind g.view.ls n (zeroCnt (plainP s.data.toList)) :: (g.ser.drop i).map GC.x } : Fam) := by
                rw [HPP.out]
                unfold GF.view
                rw [hser2, hn2]
                have k1 : g2'.kind = g.kind := by rw [hg2]; exact q3
                have k2 : g2'.ls = g.ls := by rw [hg2]; exact q4
                rw [k1, k2]
                simp
              rw [← ev]
              simp [GT.view]
  · have HE : Hid ((readP s.data.toList).err ≠ 0 ∧ (err : Int) = ((readP s.data.toList).err : Int)) := by rw [HT.out]; exact ⟨h0, rfl⟩
    have h0' : ((err : Int) != 0) = true := by simp; omega
    go_wp2
    go_ret
    exact ⟨t, _, rfl, .same HH.out HO1.out (gb_alloc g1 _), Or.inl ⟨HE.out.1, HE.out.2, rfl⟩⟩

end Go.Proofs.YtecmkooiaghgcaaGreatDoor
