/-
  Tally.Drop, walked.
-/
import Derived.Test.YtcfdemhokbddiaaGreatDoorQNa
import Derived.Shelf.Strconv.Itoa3
import Derived.Lib.ItoaLen

namespace Go.Proofs.YtcfdemhokbddiaaGreatDoor
open Go.RowKit

set_option maxRecDepth 100000 in
set_option maxHeartbeats 2000000 in
theorem tallyDrop_any (t : GT) (s : ByteArray) (m : Nat) (w : World) (h : GT.At w t) (ho : GT.Ok m t) :
    Calls Tryz.prog 41 #[.pointer (some ⟨t.b, 0, none⟩), .string s] w fun e w' => ∃ t' code, e = .returned (.int .i64 code) ∧ Out m t t' w w' ∧ t'.rds = t.rds ∧ (code, t'.view) = drpP t.view s.data.toList := by
  have HH : Hid (GT.At w t) := h
  have HO : Hid (GT.Ok m t) := ho
  have hg := readP_good s.data.toList
  have hr := read_any s w
  have HPE : Hid ((readP s.data.toList).err = 0 → plainP s.data.toList = plainB (readP s.data.toList).name (readP s.data.toList).labs) := plainP_eq
  obtain ⟨T, hT⟩ : ∃ T, readP s.data.toList = T := ⟨_, rfl⟩
  have HT : Hid (readP s.data.toList = T) := hT
  rw [hT] at hg hr HPE
  obtain ⟨err, at_, nm, ls⟩ := T
  simp only at hg hr HPE
  have HR : Hid (Calls Tryz.prog 39 #[.string s] w _) := hr
  clear h ho hr hT
  go_enter Tryz.func41, Tryz.ntmps41
  go_wp2_with fail
  refine HR.out.mono ?_
  rintro e w1 ⟨v, rfl, own, g1⟩
  obtain ⟨va, vc, rfl⟩ := own_shape own
  by_cases h0 : err = 0
  · subst h0
    have HP := HPE.out rfl
    have HPH : Hid (plainP s.data.toList = plainB nm ls) := HP
    obtain ⟨p, hp⟩ : ∃ p, plainP s.data.toList = p := ⟨_, rfl⟩
    have HPP : Hid (plainP s.data.toList = p) := hp
    rw [hp] at HPH
    have HCH : Hid (∀ q, (kfnd lt nm (t.fams.map GF.nm) = false → q = ((6 : Int), t.view) → q = drpP t.view s.data.toList) ∧ (kfnd lt nm (t.fams.map GF.nm) = true → q = drpAt t.view (kplace lt nm (t.fams.map GF.nm)) p → q = drpP t.view s.data.toList)) := by
      intro q
      unfold drpP
      rw [HT.out]
      simp only [ne_eq, not_true_eq_false, if_false]
      rw [view_nm, hp]
      exact ⟨fun h1 h2 => by rw [if_pos h1, h2], fun h1 h2 => by rw [if_neg (by rw [h1]; simp), h2]⟩
    clear HP HPE hp
    have ga := gb_alloc (gb_refl w1 none) (.cells #[.string (B nm), .slice va ls.length vc] 81)
    have bx := alloc_new w1 (.cells #[.string (B nm), .slice va ls.length vc] 81) _ rfl
    have own1 := own.alloc (.cells #[.string (B nm), .slice va ls.length vc] 81)
    have hbl : w1.heap.size < (w1.alloc (.cells #[.string (B nm), .slice va ls.length vc] 81)).heap.size := by simp
    have G1 := gb_trans g1 ga
    clear ga g1 own
    go_wp2_with fail
    refine (name55_any _ _ _ ⟨_, _, _, rfl⟩).mono ?_
    rintro e w2 ⟨rfl, g2⟩
    have G2 := gb_trans G1 g2
    have bx2 := (g2.block _ hbl (by simp)).trans bx
    have own2 := own1.kept g2 (ownNe _)
    have hbl2 := lt_of bx2
    clear own1 bx hbl g2 G1
    by_cases hno : ∀ g ∈ t.fams, g.nm ≠ nm
    · have HNO : Hid (∀ g ∈ t.fams, g.nm ≠ nm) := hno
      clear hno
      go_wp2_with fail
      refine (tFamily_no t nm m _ (HH.out.gb G2) HO.out HNO.out).mono ?_
      rintro e w3 ⟨rfl, g3⟩
      have G3 := gb_trans G2 g3
      go_wp2
      go_ret
      exact ⟨t, _, rfl, .same HH.out HO.out G3, rfl, (HCH.out _).1 (no_split HO.out HNO.out) rfl⟩
    · obtain ⟨A, g, B', he, hgn⟩ := find_split hno
      have HE : Hid (t.fams = A ++ g :: B') := he
      have HGM : Hid (g ∈ t.fams) := by show _ ∈ _; rw [he]; simp
      subst hgn
      obtain ⟨hp1, hp2⟩ := place_split HO.out he
      have HC2 : Hid (∀ q, q = drpAt t.view A.length p → q = drpP t.view s.data.toList) := by
        intro q hq
        rw [← hp1] at hq
        exact (HCH.out q).2 hp2 hq
      have HVA : Hid (t.view.getD A.length default = g.view) := view_at he
      clear hno he hp1 hp2 HCH
      go_wp2_with fail
      refine (tFamily_yes t A B' g m _ (HH.out.gb G2) HO.out HE.out).mono ?_
      rintro e w3 ⟨rfl, g3⟩
      have G3 := gb_trans G2 g3
      have bx3 := (g3.block _ hbl2 (by simp)).trans bx2
      have own3 := own2.kept g3 (ownNe _)
      have x0 : w3.cell? ⟨w1.heap.size, 0, none⟩ = some (.string (B g.nm)) := by unfold World.cell?; simp only [bx3]; rfl
      have x1 : w3.cell? ⟨w1.heap.size, 1, none⟩ = some (.slice va ls.length vc) := by unfold World.cell?; simp only [bx3]; rfl
      clear bx2 own2 g3 G2
      go_wp2_with fail
      refine (plainS_any g.nm va vc _ ls _ (by exact own3) hg.2.2.1 hg.1 hg.2.1).mono ?_
      rintro e w5 ⟨rfl, k5⟩
      have g5 := gb_of_below k5
      have G5 := gb_trans G3 g5
      rw [← HPH.out]
      have hgat5 := (HH.out.gb G5).each g HGM.out
      have hgok := HO.out.each g HGM.out
      have HGOK : Hid (GF.Ok m g) := hgok
      clear k5 g5 own3 bx3 x0 x1 G3
      cases hfd : kfnd lt p (g.ser.map fun c => c.x.plain) with
      | true =>
        have hF := gFind g p m w5 hgat5 hgok
        rw [hfd] at hF
        have hk1 : kplace lt p (g.ser.map fun c => c.x.plain) < (g.ser.map fun c => c.x.plain).length := (kfnd_get p _ hfd).1
        obtain ⟨i, hi⟩ : ∃ i, kplace lt p (g.ser.map fun c => c.x.plain) = i := ⟨_, rfl⟩
        have hil : i < g.ser.length := by rw [← hi]; simpa using hk1
        rw [hi] at hF
        have HF : Hid (Calls Tryz.prog 65 #[.pointer (some ⟨g.b, 0, none⟩), .string (B p)] w5 _) := hF
        have HQ : Hid (((0 : Int), t.view.set A.length { g.view with ser := cut1 (g.ser.map GC.x) i }) = drpAt t.view A.length p) := by
          show _ = _
          unfold drpAt
          rw [HVA.out, ser_plain, hfd, if_neg (by simp), hi]
          rfl
        clear hF hfd hgok hgat5 hk1 hi
        go_wp2_with fail
        refine HF.out.mono ?_
        rintro e w6 ⟨rfl, g6⟩
        have G6 := gb_trans G5 g6
        have hat6 := HH.out.gb G6
        have HOW : Hid (Calls Tryz.prog 67 #[.pointer (some ⟨t.b, 0, none⟩), .pointer (some ⟨g.b, 0, none⟩)] w6 _) := tOwn t A B' g m w6 hat6 HO.out HE.out
        clear hat6 G5 g6
        go_wp2_with fail
        refine HOW.out.mono ?_
        rintro e w7 ⟨t1, gg, rfl, hgg, hu1⟩
        have hag : gg.age = t1.age := by rw [hgg]; exact hu1.age.symm
        have hnm : gg.nm = g.nm := by rw [hgg]
        have hser : gg.ser = g.ser := by rw [hgg]
        have hdist : ∀ k, k ∈ A ∨ k ∈ B' → k.nm ≠ gg.nm := by rw [hnm]; exact dist_split HO.out HE.out
        have hok7 : GF.Ok m gg := HGOK.out.aged hgg (HO.out.ages g HGM.out)
        have HRM : Hid (Calls Tryz.prog 79 #[.pointer (some ⟨gg.b, 0, none⟩), .int .i64 (i : Int)] w7 _) := gRemove t1 A B' gg i m w7 hu1.at_ hu1.fams hdist hag hok7 (by rw [hser]; exact hil)
        have HGG : Hid (gg = { g with b := gg.b, age := t.age, sv := gg.sv }) := hgg
        have HU1 : Hid (Upd t t1 w6 w7 (A ++ gg :: B')) := hu1
        have HNM : Hid (gg.nm = g.nm) := hnm
        have HSE : Hid (gg.ser = g.ser) := hser
        clear hgg hu1 hag hdist hok7 hser hnm
        go_wp2_with fail
        refine HRM.out.mono ?_
        rintro e w8 ⟨rfl, t2, g2', hg2, hu2, hok8⟩
        go_wp2
        go_ret
        have hu := HU1.out.trans hu2
        have htot := HO.out.total
        rw [HE.out, sum_split] at htot
        have hn2 : g2'.nm = g.nm := by rw [hg2]; exact HNM.out
        have hs2 : g2'.ser = cut1 g.ser i := by rw [hg2]; show cut1 gg.ser i = _; rw [HSE.out]
        have ha2 : g2'.age = t.age := by rw [hg2]; show gg.age = _; rw [HGG.out]
        have hv2 : g2'.view = { g.view with ser := cut1 (g.ser.map GC.x) i } := by
          rw [hg2, HGG.out]; simp [GF.view, cut1_map]
        refine ⟨t2, 0, rfl, .from G6 (hu.out HO.out (Nat.le_refl m) (mom_put HO.out.mom HE.out (Nat.le_refl m) hn2 hok8 (by rw [hs2, cut1_len _ _ hil]; omega)) (ages_put HO.out.ages HE.out (Nat.le_of_eq ha2))), hu.rds, HC2.out _ ?_⟩
        rw [← HQ.out, view_put HE.out hu _ hv2]
      | false =>
        have hF := gFind g p m w5 hgat5 hgok
        rw [hfd] at hF
        have HF : Hid (Calls Tryz.prog 65 #[.pointer (some ⟨g.b, 0, none⟩), .string (B p)] w5 _) := hF
        have HQ : Hid (((6 : Int), t.view) = drpAt t.view A.length p) := by
          show _ = _
          unfold drpAt
          rw [HVA.out, ser_plain, if_pos hfd]
        clear hF hfd hgok hgat5
        go_wp2_with fail
        refine HF.out.mono ?_
        rintro e w6 ⟨rfl, g6⟩
        have G6 := gb_trans G5 g6
        go_wp2
        go_ret
        exact ⟨t, _, rfl, .same HH.out HO.out G6, rfl, HC2.out _ HQ.out⟩
  · have HE : Hid (((err : Int), t.view) = drpP t.view s.data.toList) := by
      show _ = _; unfold drpP; rw [HT.out, if_pos (by exact h0)]
    have h0' : ((err : Int) != 0) = true := by simp; omega
    go_wp2
    go_ret
    exact ⟨t, _, rfl, .same HH.out HO.out (gb_alloc g1 _), rfl, HE.out⟩

end Go.Proofs.YtcfdemhokbddiaaGreatDoor

/-
  strconv.Itoa at every number; the words of a family and of its series' numbers.
-/
namespace Go.Proofs.YtcfdemhokbddiaaGreatDoor
open Go.RowKit

def laysIt_ren : Go.Shelf.Ren := ⟨fun | 129 => 140 | 171 => 24 | 243 => 38 | 246 => 71 | 283 => 106 | 284 => 107 | 285 => 108 | 286 => 109 | 317 => 139 | 318 => 141 | 319 => 142 | 320 => 143 | 337 => 162 | 338 => 163 | n => n, fun | 0 => 0 | 2 => 2 | 3 => 3 | 4 => 4 | 5 => 5 | 9 => 9 | 20 => 20 | 37 => 133 | 46 => 226 | 51 => 224 | 53 => 183 | 171 => 182 | 173 => 186 | 212 => 223 | 213 => 225 | 232 => 244 | 233 => 245 | n => n, fun | 17 => 0 | 18 => 1 | 19 => 2 | n => n⟩
theorem laysIt : Go.Proofs.LaysM.n171 Tryz.prog laysIt_ren := {
  mixed := by kernel_rfl
  f129 := Tryz.func140.trans (congrArg some (by kernel_rfl))
  f171 := Tryz.func24.trans (congrArg some (by kernel_rfl))
  f243 := Tryz.func38.trans (congrArg some (by kernel_rfl))
  f246 := Tryz.func71.trans (congrArg some (by kernel_rfl))
  f283 := Tryz.func106.trans (congrArg some (by kernel_rfl))
  f284 := Tryz.func107.trans (congrArg some (by kernel_rfl))
  f285 := Tryz.func108.trans (congrArg some (by kernel_rfl))
  f286 := Tryz.func109.trans (congrArg some (by kernel_rfl))
  f317 := Tryz.func139.trans (congrArg some (by kernel_rfl))
  f318 := Tryz.func141.trans (congrArg some (by kernel_rfl))
  f319 := Tryz.func142.trans (congrArg some (by kernel_rfl))
  f320 := Tryz.func143.trans (congrArg some (by kernel_rfl))
  f337 := Tryz.func162.trans (congrArg some (by kernel_rfl))
  f338 := Tryz.func163.trans (congrArg some (by kernel_rfl))
  t0 := Tryz.underlying0
  a0 := Tryz.isAgg0
  z0 := Tryz.sizeOf0
  v0 := Tryz.zeroValue0
  t2 := Tryz.underlying2
  a2 := Tryz.isAgg2
  z2 := Tryz.sizeOf2
  v2 := Tryz.zeroValue2
  t3 := Tryz.underlying3
  a3 := Tryz.isAgg3
  z3 := Tryz.sizeOf3
  v3 := Tryz.zeroValue3
  t4 := Tryz.underlying4
  a4 := Tryz.isAgg4
  z4 := Tryz.sizeOf4
  v4 := Tryz.zeroValue4
  t5 := Tryz.underlying5
  a5 := Tryz.isAgg5
  z5 := Tryz.sizeOf5
  v5 := Tryz.zeroValue5
  t9 := Tryz.underlying9
  a9 := Tryz.isAgg9
  z9 := Tryz.sizeOf9
  v9 := Tryz.zeroValue9
  t20 := Tryz.underlying20
  a20 := Tryz.isAgg20
  z20 := Tryz.sizeOf20
  v20 := Tryz.zeroValue20
  t37 := Tryz.underlying133
  a37 := Tryz.isAgg133
  z37 := Tryz.sizeOf133
  v37 := Tryz.zeroValue133
  t46 := Tryz.underlying226
  a46 := Tryz.isAgg226
  z46 := Tryz.sizeOf226
  v46 := Tryz.zeroValue226
  t51 := Tryz.underlying224
  a51 := Tryz.isAgg224
  z51 := Tryz.sizeOf224
  v51 := Tryz.zeroValue224
  t53 := Tryz.underlying183
  a53 := Tryz.isAgg183
  z53 := Tryz.sizeOf183
  v53 := Tryz.zeroValue183
  t171 := Tryz.underlying182
  a171 := Tryz.isAgg182
  z171 := Tryz.sizeOf182
  v171 := Tryz.zeroValue182
  t173 := Tryz.underlying186
  a173 := Tryz.isAgg186
  z173 := Tryz.sizeOf186
  v173 := Tryz.zeroValue186
  t212 := Tryz.underlying223
  a212 := Tryz.isAgg223
  z212 := Tryz.sizeOf223
  v212 := Tryz.zeroValue223
  t213 := Tryz.underlying225
  a213 := Tryz.isAgg225
  z213 := Tryz.sizeOf225
  t232 := Tryz.underlying244
  a232 := Tryz.isAgg244
  z232 := Tryz.sizeOf244
  v232 := Tryz.zeroValue244
  t233 := Tryz.underlying245
  a233 := Tryz.isAgg245
  z233 := Tryz.sizeOf245
  v233 := Tryz.zeroValue245
  g17 := by kernel_rfl
  g18 := by kernel_rfl
  g19 := by kernel_rfl
  i0 := by kernel_rfl
  i2 := by kernel_rfl
  i3 := by kernel_rfl
  i4 := by kernel_rfl
  i5 := by kernel_rfl
  i9 := by kernel_rfl
  i20 := by kernel_rfl
  i37 := by kernel_rfl
  i46 := by kernel_rfl
  i51 := by kernel_rfl
  i53 := by kernel_rfl
  i171 := by kernel_rfl
  i173 := by kernel_rfl
  i212 := by kernel_rfl
  i232 := by kernel_rfl
  i233 := by kernel_rfl
  m17 := by kernel_rfl
  m18 := by kernel_rfl
  m19 := by kernel_rfl }

/-- The table of powers of ten that strconv reads. -/
def Tab (w : World) : Prop := Lib.TabIs Tryz.prog w "internal/strconv.uint64pow10" .u64 Lib.pow10Tab
theorem Tab.lt {w : World} (h : Tab w) : 0 < w.heap.size := by
  unfold Tab Lib.TabIs World.var? at h
  rw [laysIt.m17] at h
  simp only [Option.bind_some, laysIt_ren] at h
  cases hq : w.heap[0]? with
  | none => rw [hq] at h; cases h
  | some o => exact (Array.getElem?_eq_some_iff.1 hq).1
theorem Tab.same {w w' : World} (h : Tab w) (hb : w'.heap[0]? = w.heap[0]?) : Tab w' := by
  unfold Tab Lib.TabIs World.var? at *
  rw [laysIt.m17] at *
  simp only [Option.bind_some, laysIt_ren] at *
  rw [hb]; exact h
theorem Tab.gb {w w' : World} (h : Tab w) (hg : w.grownBy w' none) : Tab w' := h.same (hg.block 0 h.lt (by simp))

theorem itoa_any (n : Int) (h : -9223372036854775808 ≤ n ∧ n ≤ 9223372036854775807) (w : World) (ht : Tab w) :
    Calls Tryz.prog 24 #[.int .i64 n] w fun e w' => e = .returned (.string (B (Lib.itoa n))) ∧ w.grownBy w' none :=
  (Any.strconv_Itoa laysIt n h.1 h.2 w ht).mono fun e w' ⟨h1, k, os, h2⟩ => ⟨h1, by
    rw [h2]
    exact ⟨rfl, rfl, rfl, by simp [Sort.grow], fun i hi _ => by
      show ((w.drewN k).heap ++ os)[i]? = _
      rw [Array.getElem?_append_left (by show i < w.heap.size; exact hi)]; rfl⟩⟩
theorem itoa_len {n : Int} (h : -9223372036854775808 ≤ n ∧ n ≤ 9223372036854775807) : (Lib.itoa n).length ≤ 21 := Lib.itoa_length_le n h.1 h.2

def kindW (k : Int) : List UInt8 := if k = 1 then [99, 111, 117, 110, 116, 101, 114] else if k = 2 then [103, 97, 117, 103, 101] else [104, 105, 115, 116, 111, 103, 114, 97, 109]
theorem kindW_len (k : Int) : (kindW k).length ≤ 9 := by unfold kindW; split <;> (try split) <;> simp
/-- A family's own line. -/
def titleP (nm : List UInt8) (kind : Int) : List UInt8 := [35, 32] ++ nm ++ [32] ++ kindW kind
/-- A series' line for a limit. -/
def uptoP (p : List UInt8) (lim u : Int) : List UInt8 := p ++ [32, 117, 112, 116, 111, 32] ++ Lib.itoa lim ++ [32] ++ Lib.itoa u
/-- A series' last line. -/
def lastP (kind : Int) (c : Cnt) : List UInt8 := if kind = 3 then c.plain ++ [32, 97, 108, 108, 32] ++ Lib.itoa c.all ++ [32, 115, 117, 109, 32] ++ Lib.itoa c.num else c.plain ++ [32] ++ Lib.itoa c.num

set_option maxHeartbeats 400000 in
theorem kindWord_any (k : Int) (w : World) : Calls Tryz.prog 157 #[.int .i64 k] w fun e w' => e = .returned (.string (B (kindW k))) ∧ w' = w := by
  by_cases h1 : k = 1
  · subst h1
    go_enter Tryz.func157, Tryz.ntmps157
    go_wp2
    go_ret
    exact ⟨rfl, rfl⟩
  · by_cases h2 : k = 2
    · subst h2
      go_enter Tryz.func157, Tryz.ntmps157
      go_wp2
      go_ret
      exact ⟨rfl, rfl⟩
    · have HE : Hid (kindW k = [104, 105, 115, 116, 111, 103, 114, 97, 109]) := by show _ = _; simp [kindW, h1, h2]
      have h1' : (k == 1) = false := by simpa using h1
      have h2' : (k == 2) = false := by simpa using h2
      go_enter Tryz.func157, Tryz.ntmps157
      go_wp2
      go_ret
      exact ⟨by rw [HE.out]; rfl, rfl⟩

set_option maxHeartbeats 1000000 in
theorem title_any (f ag : Nat) (nm : List UInt8) (kind : Int) (lv sv : Value) (w : World) (hf : w.heap[f]? = some (famObj ag nm kind lv sv)) (hn : nm.length ≤ 12) :
    Calls Tryz.prog 130 #[.pointer (some ⟨f, 0, none⟩)] w fun e w' => e = .returned (.string (B (titleP nm kind))) ∧ w.grownBy w' none := by
  obtain ⟨c0, c1, _, _, _⟩ := fam_cells hf
  have hkl := kindW_len kind
  have a1 : ∀ w, (Op.stringOp .add ⟨#[35, 32]⟩ (B nm)).run Tryz.prog w = .ok (.string (B ([35, 32] ++ nm))) w := add_lists [35, 32] nm (by simp) (by omega)
  have a2 : ∀ w, (Op.stringOp .add (B ([35, 32] ++ nm)) ⟨#[32]⟩).run Tryz.prog w = .ok (.string (B ([35, 32] ++ nm ++ [32]))) w := add_lists ([35, 32] ++ nm) [32] (by simp; omega) (by simp)
  have a3 : ∀ w, (Op.stringOp .add (B ([35, 32] ++ nm ++ [32])) (B (kindW kind))).run Tryz.prog w = .ok (.string (B (titleP nm kind))) w := add_lists ([35, 32] ++ nm ++ [32]) (kindW kind) (by simp; omega) (by omega)
  generalize [35, 32] ++ nm ++ [32] = O2 at a2 a3
  generalize [35, 32] ++ nm = O1 at a1 a2
  generalize titleP nm kind = O3 at a3 ⊢
  have HK : Hid (∀ q, Calls Tryz.prog 157 #[.int .i64 kind] (w.drewN q) fun e w' => e = .returned (.string (B (kindW kind))) ∧ w' = w.drewN q) := fun q => kindWord_any kind _
  generalize kindW kind = KW at a3 HK
  clear hf hkl
  go_enter Tryz.func130, Tryz.ntmps130
  go_wp2_with fail
  go_quiet ((go_at_call 157; exact Calls.quiet_of_same (HK.out _)))
  go_wp2
  go_ret
  exact ⟨rfl, gb_drewN _ _ _⟩

end Go.Proofs.YtcfdemhokbddiaaGreatDoor

/-
  A series' last line.
-/
namespace Go.Proofs.YtcfdemhokbddiaaGreatDoor
open Go.RowKit

theorem CntOk.num64 {m : Nat} {x : Cnt} (h : CntOk m x) : -9223372036854775808 ≤ x.num ∧ x.num ≤ 9223372036854775807 := by have := h.num; omega
theorem CntOk.all64 {m : Nat} {x : Cnt} (h : CntOk m x) (hm : m ≤ 4611686018427387904) : -9223372036854775808 ≤ x.all ∧ x.all ≤ 9223372036854775807 := by have := h.all; omega

set_option maxHeartbeats 1000000 in
theorem lastLine_any (f ag c ac : Nat) (nm : List UInt8) (kind : Int) (lv sv : Value) (x : Cnt) (m : Nat) (w : World) (hf : w.heap[f]? = some (famObj ag nm kind lv sv)) (hc : w.heap[c]? = some (cntObj ac x)) (hx : CntOk m x) (hm : m ≤ 4611686018427387904) (ht : Tab w) :
    Calls Tryz.prog 160 #[.pointer (some ⟨f, 0, none⟩), .pointer (some ⟨c, 0, none⟩)] w fun e w' => e = .returned (.string (B (lastP kind x))) ∧ w.grownBy w' none := by
  obtain ⟨_, c1, _, _, _⟩ := fam_cells hf
  obtain ⟨d0, d1, d2⟩ := cnt_cells hc
  have hpl := hx.pl
  have hn1 := itoa_len hx.num64
  have hn2 := itoa_len (hx.all64 hm)
  have HI1 : Hid (Calls Tryz.prog 24 #[.int .i64 x.num] w _) := itoa_any x.num hx.num64 w ht
  have HI2 : Hid (∀ W, w.grownBy W none → Calls Tryz.prog 24 #[.int .i64 x.all] W fun e w' => e = .returned (.string (B (Lib.itoa x.all))) ∧ W.grownBy w' none) := fun W gW => itoa_any x.all (hx.all64 hm) W (ht.gb gW)
  by_cases hk : kind = 3
  · subst hk
    have a1 : ∀ w, (Op.stringOp .add (B x.plain) ⟨#[32, 97, 108, 108, 32]⟩).run Tryz.prog w = .ok (.string (B (x.plain ++ [32, 97, 108, 108, 32]))) w := add_lists x.plain [32, 97, 108, 108, 32] (by omega) (by simp)
    have a2 : ∀ w, (Op.stringOp .add (B (x.plain ++ [32, 97, 108, 108, 32])) (B (Lib.itoa x.all))).run Tryz.prog w = .ok (.string (B (x.plain ++ [32, 97, 108, 108, 32] ++ Lib.itoa x.all))) w := add_lists _ _ (by simp; omega) (by omega)
    have a3 : ∀ w, (Op.stringOp .add (B (x.plain ++ [32, 97, 108, 108, 32] ++ Lib.itoa x.all)) ⟨#[32, 115, 117, 109, 32]⟩).run Tryz.prog w = .ok (.string (B (x.plain ++ [32, 97, 108, 108, 32] ++ Lib.itoa x.all ++ [32, 115, 117, 109, 32]))) w := add_lists (x.plain ++ [32, 97, 108, 108, 32] ++ Lib.itoa x.all) [32, 115, 117, 109, 32] (by simp; omega) (by simp)
    have a4 : ∀ w, (Op.stringOp .add (B (x.plain ++ [32, 97, 108, 108, 32] ++ Lib.itoa x.all ++ [32, 115, 117, 109, 32])) (B (Lib.itoa x.num))).run Tryz.prog w = .ok (.string (B (lastP 3 x))) w := add_lists (x.plain ++ [32, 97, 108, 108, 32] ++ Lib.itoa x.all ++ [32, 115, 117, 109, 32]) (Lib.itoa x.num) (by simp; omega) (by omega)
    generalize x.plain ++ [32, 97, 108, 108, 32] ++ Lib.itoa x.all ++ [32, 115, 117, 109, 32] = O3 at a3 a4
    generalize x.plain ++ [32, 97, 108, 108, 32] ++ Lib.itoa x.all = O2 at a2 a3
    generalize x.plain ++ [32, 97, 108, 108, 32] = O1 at a1 a2
    generalize lastP 3 x = O4 at a4 ⊢
    generalize Lib.itoa x.num = N1 at a4 HI1
    generalize Lib.itoa x.all = N2 at a2 HI2
    clear hf hc hx hpl hn1 hn2
    go_enter Tryz.func160, Tryz.ntmps160
    go_wp2_with fail
    refine HI1.out.mono ?_
    rintro e w1 ⟨rfl, g1⟩
    have e1 := gb_cell g1 c1 (by simp)
    have f0 := gb_cell g1 d0 (by simp)
    have f2 := gb_cell g1 d2 (by simp)
    have HI3 : Hid (Calls Tryz.prog 24 #[.int .i64 x.all] w1.drew fun e w' => e = .returned (.string (B N2)) ∧ w.grownBy w' none ∧ w'.cell? ⟨c, 1, none⟩ = some (.string (B x.plain)) ∧ w'.cell? ⟨c, 3, none⟩ = some (.int .i64 x.all)) :=
      (HI2.out w1.drew (gb_drew g1)).mono fun e w' ⟨q1, q2⟩ => ⟨q1, gb_trans (gb_drew g1) q2, gb_cell (gb_trans (gb_drew g1) q2) d0 (by simp), gb_cell (gb_trans (gb_drew g1) q2) d2 (by simp)⟩
    clear c1 d0 d1 d2 HI2 HI1
    go_wp2_with fail
    go_region_with (go_at_call 24; refine HI3.out.mono ?_; rintro e w2 ⟨rfl, g2, m1, m3⟩)
    all_goals
      go_wp2
      go_ret
      exact ⟨rfl, g2⟩
  · have hk' : (kind == 3) = false := by simpa using hk
    have a1 : ∀ w, (Op.stringOp .add (B x.plain) ⟨#[32]⟩).run Tryz.prog w = .ok (.string (B (x.plain ++ [32]))) w := add_lists x.plain [32] (by omega) (by simp)
    have a2 : ∀ w, (Op.stringOp .add (B (x.plain ++ [32])) (B (Lib.itoa x.num))).run Tryz.prog w = .ok (.string (B (lastP kind x))) w := by
      have := add_lists (x.plain ++ [32]) (Lib.itoa x.num) (by simp; omega) (by omega)
      unfold lastP
      rw [if_neg hk]
      exact this
    generalize x.plain ++ [32] = O1 at a1 a2
    generalize lastP kind x = O2 at a2 ⊢
    generalize Lib.itoa x.num = N1 at a2 HI1
    clear hf hc hx hpl hn1 hn2 HI2
    go_enter Tryz.func160, Tryz.ntmps160
    go_wp2_with fail
    refine HI1.out.mono ?_
    rintro e w1 ⟨rfl, g1⟩
    have e1 := gb_cell g1 c1 (by simp)
    have f0 := gb_cell g1 d0 (by simp)
    clear c1 d0 d1 d2 HI1
    go_wp2
    go_ret
    exact ⟨rfl, g1⟩

end Go.Proofs.YtcfdemhokbddiaaGreatDoor
