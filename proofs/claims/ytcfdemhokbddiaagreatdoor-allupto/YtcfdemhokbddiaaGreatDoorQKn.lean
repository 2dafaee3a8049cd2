/-
  The board: a family looked up by its name; whether all families together have as many series as may be; a family owned.
-/
import Derived.Test.YtcfdemhokbddiaaGreatDoorQKm

namespace Go.Proofs.YtcfdemhokbddiaaGreatDoor
open Go.RowKit

/-- A moment that stands. -/
structure MomOk (m : Nat) (fams : List GF) : Prop where
  srt : KSrt lt (fams.map GF.nm)
  len : fams.length ≤ 8
  each : ∀ g ∈ fams, GF.Ok m g
  names : ∀ g ∈ fams, g.nm.length ≤ 12
  total : (fams.map fun g => g.ser.length).sum ≤ 24
theorem MomOk.mono {m k : Nat} {F : List GF} (h : MomOk m F) (hk : m ≤ k) : MomOk k F := ⟨h.srt, h.len, fun g hg => (h.each g hg).mono hk, h.names, h.total⟩
/-- What the board keeps is as it may be, at most m calls behind. -/
structure GT.Ok (m : Nat) (t : GT) : Prop where
  srt : KSrt lt (t.fams.map GF.nm)
  len : t.fams.length ≤ 8
  each : ∀ g ∈ t.fams, GF.Ok m g
  names : ∀ g ∈ t.fams, g.nm.length ≤ 12
  total : (t.fams.map fun g => g.ser.length).sum ≤ 24
  age : t.age ≤ m
  lage : t.lage ≤ t.age
  ages : ∀ g ∈ t.fams, g.age ≤ t.age
  rlen : t.rds.length = 3
  rok : ∀ r, some r ∈ t.rds → MomOk m r.fams
theorem GT.Ok.mono {m k : Nat} {t : GT} (h : GT.Ok m t) (hk : m ≤ k) : GT.Ok k t :=
  ⟨h.srt, h.len, fun g hg => (h.each g hg).mono hk, h.names, h.total, Nat.le_trans h.age hk, h.lage, h.ages, h.rlen, fun r hr => (h.rok r hr).mono hk⟩

theorem tally_cells {w : World} {b age lage : Nat} {fv : Value} {rs : List Value} (h : w.heap[b]? = some (brdObj age lage fv rs)) :
    w.cell? ⟨b, 0, none⟩ = some (.int .i64 (age : Int)) ∧ w.cell? ⟨b, 1, none⟩ = some (.int .i64 (lage : Int)) ∧ w.cell? ⟨b, 2, none⟩ = some fv := by
  simp [World.cell?, h, brdObj]
theorem brd_froz {w : World} {b age lage : Nat} {fv : Value} {rs : List Value} (h : w.heap[b]? = some (brdObj age lage fv rs)) (o : Nat) : w.frozen? ⟨b, o, none⟩ = false := by
  simp [World.frozen?, h, brdObj]
theorem brd_set0 {w : World} {b age lage : Nat} {fv : Value} {rs : List Value} (h : w.heap[b]? = some (brdObj age lage fv rs)) (a : Nat) : (w.setCell ⟨b, 0, none⟩ (.int .i64 (a : Int))).heap[b]? = some (brdObj a lage fv rs) := by
  rw [text_set h]; congr 2; apply Array.ext'; simp
theorem brd_set1 {w : World} {b age lage : Nat} {fv : Value} {rs : List Value} (h : w.heap[b]? = some (brdObj age lage fv rs)) (a : Nat) : (w.setCell ⟨b, 1, none⟩ (.int .i64 (a : Int))).heap[b]? = some (brdObj age a fv rs) := by
  rw [text_set h]; congr 2; apply Array.ext'; simp
theorem brd_set2 {w : World} {b age lage : Nat} {fv : Value} {rs : List Value} (h : w.heap[b]? = some (brdObj age lage fv rs)) (v : Value) : (w.setCell ⟨b, 2, none⟩ v).heap[b]? = some (brdObj age lage v rs) := by
  rw [text_set h]; congr 2; apply Array.ext'; simp

set_option maxHeartbeats 400000 in
theorem tFamily_no (t : GT) (nm : List UInt8) (m : Nat) (w : World) (h : GT.At w t) (ho : GT.Ok m t) (hn : ∀ g ∈ t.fams, g.nm ≠ nm) :
    Calls Tryz.prog 62 #[.pointer (some ⟨t.b, 0, none⟩), .string (B nm)] w fun e w' => e = .returned (.pointer none) ∧ w.grownBy w' none := by
  obtain ⟨_, _, c0⟩ := tally_cells h.blk
  have hlen := ho.len
  have hf : kfnd lt nm (t.fams.map GF.nm) = false := by
    cases hq : kfnd lt nm (t.fams.map GF.nm) with
    | false => rfl
    | true =>
      have := (kfnd_iff ltB nm _ ho.srt).1 hq
      rw [List.mem_map] at this
      obtain ⟨g, hg, e⟩ := this
      exact absurd e (hn g hg)
  have hF := findF_any t.fv 0 (t.fams.map GF.b) (t.fams.map GF.nm) nm w (by simpa using h.rows) (keyedF h) (by simp; omega) ho.srt
  rw [hf] at hF
  have HF : Hid (Calls Tryz.prog 94 #[t.fv, .func (.func 91) #[] #[], .string (B nm)] w _) := hF
  clear hF hf h ho hn
  obtain ⟨v, hv⟩ : ∃ v, t.fv = v := ⟨_, rfl⟩
  rw [hv] at c0 HF
  clear hv
  go_enter Tryz.func62, Tryz.ntmps62
  go_wp2_with fail
  refine HF.out.mono ?_
  rintro e w1 ⟨rfl, g1⟩
  go_wp2
  go_ret
  exact ⟨rfl, g1⟩

set_option maxHeartbeats 400000 in
theorem tFamily_yes (t : GT) (A B' : List GF) (g : GF) (m : Nat) (w : World) (h : GT.At w t) (ho : GT.Ok m t) (e0 : t.fams = A ++ g :: B') :
    Calls Tryz.prog 62 #[.pointer (some ⟨t.b, 0, none⟩), .string (B g.nm)] w fun e w' => e = .returned (.pointer (some ⟨g.b, 0, none⟩)) ∧ w.grownBy w' none := by
  obtain ⟨_, _, c0⟩ := tally_cells h.blk
  have hlen := ho.len
  have hgm : g.nm ∈ t.fams.map GF.nm := List.mem_map_of_mem (by rw [e0]; simp)
  have hf : kfnd lt g.nm (t.fams.map GF.nm) = true := (kfnd_iff ltB g.nm _ ho.srt).2 hgm
  have hp : kplace lt g.nm (t.fams.map GF.nm) = A.length := by
    have hs := ho.srt
    refine kplace_of lt _ _ A.length (by rw [e0]; simp) (fun k hk hlt => ?_) (fun k hk hge => ?_)
    · have := hs.get _ k A.length (by rw [e0]; simp) hlt
      simpa [e0] using this
    · by_cases e : k = A.length
      · subst e; simp [e0, lt_irrefl]
      · have := hs.get _ A.length k hk (by omega)
        have h2 : (t.fams.map GF.nm)[A.length]'(by rw [e0]; simp) = g.nm := by simp [e0]
        rw [h2] at this
        exact lt_asymm _ _ this
  have hal : A.length < t.fams.length := by rw [e0]; simp
  obtain ⟨ga, cap, hfv⟩ : ∃ ga cap, t.fv = .slice (some ⟨ga, 0, none⟩) t.fams.length cap := by
    rcases h.rows.2 with ⟨_, h0⟩ | ⟨g', cap', cur, hv, _⟩
    · omega
    · exact ⟨g', cap', hv⟩
  have hrows := h.rows
  rw [hfv] at hrows
  have hcell := ptrsAt_of hrows A.length (by simpa using hal)
  have hget : (t.fams.map GF.b)[A.length]'(by simpa using hal) = g.b := by simp [e0]
  rw [hget] at hcell
  have hF := findF_any t.fv 0 (t.fams.map GF.b) (t.fams.map GF.nm) g.nm w (by simpa using h.rows) (keyedF h) (by simp; omega) ho.srt
  rw [hf, hp] at hF
  rw [hfv] at c0 hF
  have HF : Hid (Calls Tryz.prog 94 #[.slice (some ⟨ga, 0, none⟩) t.fams.length cap, .func (.func 91) #[] #[], .string (B g.nm)] w _) := hF
  have hali : (A.length : Int) < (t.fams.length : Int) := by omega
  clear hF hf h ho hgm hp hrows hfv hget e0
  go_enter Tryz.func62, Tryz.ntmps62
  go_wp2_with fail
  refine HF.out.mono ?_
  rintro e w1 ⟨rfl, g1⟩
  have d0 := gb_cell g1 c0 (by simp)
  have d1 := gb_cell g1 hcell (by simp)
  go_wp2
  go_ret
  exact ⟨rfl, g1⟩

def total (t : GT) : Nat := (t.fams.map fun g => g.ser.length).sum

set_option maxHeartbeats 400000 in
theorem tFull_any (t : GT) (m : Nat) (w : World) (h : GT.At w t) (ho : GT.Ok m t) :
    Calls Tryz.prog 66 #[.pointer (some ⟨t.b, 0, none⟩)] w fun e w' => e = .returned (.bool (decide (24 ≤ total t))) ∧ w' = w := by
  obtain ⟨_, _, c0⟩ := tally_cells h.blk
  have hlen := ho.len
  have htot := ho.total
  have HE : Hid (∀ k (hk : k < t.fams.length), ∃ sa sc, w.cell? ⟨(t.fams[k]).b, 4, none⟩ = some (.slice sa (t.fams[k]).ser.length sc)) := by
    intro k hk
    have hat := h.each _ (List.getElem_mem hk)
    obtain ⟨sa, sc, e, _⟩ := own_shape1 hat.rows
    exact ⟨sa, sc, by rw [(fam_cells hat.blk).2.2.2.1, e]⟩
  have HP : Hid (∀ ga cap, t.fv = .slice (some ⟨ga, 0, none⟩) t.fams.length cap → ∀ k (hk : k < t.fams.length), w.cell? ⟨ga, k, none⟩ = some (.pointer (some ⟨(t.fams[k]).b, 0, none⟩))) := by
    intro ga cap hfv k hk
    have hrows := h.rows
    rw [hfv] at hrows
    have := ptrsAt_of hrows k (by simpa using hk)
    simpa using this
  obtain ⟨sa, sc, hfv, _, hsa⟩ := own_shape1 h.rows
  rw [hfv] at c0 HP
  have HT : Hid (total t = (t.fams.map fun g => g.ser.length).sum) := rfl
  have HLE : Hid (∀ k, ((t.fams.take k).map fun g => g.ser.length).sum ≤ 24) := by
    intro k
    have h1 : (t.fams.map fun g => g.ser.length).sum = ((t.fams.take k).map fun g => g.ser.length).sum + ((t.fams.drop k).map fun g => g.ser.length).sum := by
      rw [← List.sum_append, ← List.map_append, List.take_append_drop]
    omega
  clear h ho hfv
  go_enter Tryz.func66, Tryz.ntmps66
  go_wp2_with fail
  go_loopw [3, 11] (fun s i wr => ∃ k : Nat, i = .int .i64 (k : Int) ∧ k ≤ t.fams.length ∧ wr = w ∧ s = .int .i64 ((((t.fams.take k).map fun g => g.ser.length).sum : Nat) : Int)) (fun _ i _ => 8 - (intOf i).toNat)
  case atStart => exact ⟨0, rfl, Nat.zero_le _, rfl, by simp⟩
  case round =>
    obtain ⟨k, rfl, hk, rfl, rfl⟩ := hrel
    by_cases hlt : k < t.fams.length
    · obtain ⟨ga, rfl⟩ : ∃ ga, sa = some ⟨ga, 0, none⟩ := by
        rcases hsa with ⟨_, h0, _⟩ | ⟨ga, h1, _⟩
        · omega
        · exact ⟨ga, h1⟩
      have d1 := HP.out ga sc rfl k hlt
      obtain ⟨xa, xc, d2⟩ := HE.out k hlt
      have hki : (k : Int) < (t.fams.length : Int) := by omega
      have HS : Hid (((t.fams.take (k + 1)).map fun g => g.ser.length).sum = ((t.fams.take k).map fun g => g.ser.length).sum + (t.fams[k]).ser.length) := by
        show _ = _
        rw [List.take_add_one, List.getElem?_eq_getElem hlt]
        simp only [List.map_append, List.sum_append, Option.toList_some, List.map_cons, List.map_nil, List.sum_cons, List.sum_nil, Nat.add_zero]
      have hb1 := HLE.out k
      have hb2 := HLE.out (k + 1)
      rw [HS.out] at hb2
      obtain ⟨S, hS⟩ : ∃ S, ((t.fams.take k).map fun g => g.ser.length).sum = S := ⟨_, rfl⟩
      rw [hS] at hb1 hb2 HS ⊢
      clear hS
      generalize (t.fams[k]).b = bk at d1 d2
      generalize hL : (t.fams[k]).ser.length = L at d2 HS hb2
      clear hL
      go_wp2
      go_roundw
      case rel => exact ⟨k + 1, by go_num, by omega, by simp, by rw [HS.out]; go_num⟩
      case measure => simp [intOf]; omega
    · have HK : Hid (k = t.fams.length) := by show _ = _; omega
      have hb1 := HLE.out k
      have HS : Hid (((t.fams.take k).map fun g => g.ser.length).sum = total t) := by
        show _ = _; rw [HK.out, List.take_length]; rfl
      rw [HS.out] at hb1 ⊢
      have hki : ¬ (k : Int) < (t.fams.length : Int) := by omega
      go_wp2
      go_ret
      refine ⟨ret_bool ?_, rfl⟩
      rw [Bool.eq_iff_iff]; simp; try omega


/-- The board has a list of families of its own. -/
structure OwnMid (t : GT) (w w' : World) (L cap : Nat) : Prop where
  blk : w'.heap[t.b]? = some (brdObj t.age t.age (.slice (some ⟨L, 0, none⟩) t.fams.length cap) (t.rds.map rdPtr))
  row : w'.ownsRow 0 112 1 (.slice (some ⟨L, 0, none⟩) t.fams.length cap) t.fams.length (ptrs (t.fams.map GF.b))
  kept : Kept [t.b] w w'
  fresh : t.lab L = .lst ∨ w.heap.size ≤ L
theorem OwnMid.gb {t : GT} {w w' w2 : World} {L cap : Nat} (h : OwnMid t w w' L cap) (hg : w'.grownBy w2 none) : OwnMid t w w2 L cap :=
  ⟨(hg.block _ (lt_of h.blk) (by simp)).trans h.blk, h.row.kept hg (ownNe _), h.kept.trans (Kept.of_none hg _), h.fresh⟩
theorem foot_far {w : World} {t : GT} (h : GT.At w t) {g : GF} (hg : g ∈ t.fams) : ∀ b ∈ g.foot, b ≠ t.b := fun b hb e => by
  rcases (h.labF g hg).nm b hb with h1 | h1 <;> rw [e, h.labB] at h1 <;> cases h1
theorem OwnMid.fam {t : GT} {w w' : World} {L cap : Nat} (h : OwnMid t w w' L cap) (ht : GT.At w t) {g : GF} (hg : g ∈ t.fams) : GF.At w' g :=
  (ht.each g hg).frame fun b hb => h.kept.block b ((ht.each g hg).lt b hb) (by simpa using foot_far ht hg b hb)

/-- A family has been copied, and its copy stands in its place. -/
theorem own_done {t : GT} {w w1 w2 w3 : World} {L cap : Nat} (h : GT.At w t) (hm : OwnMid t w w1 L cap) {A B' : List GF} {g : GF} (e0 : t.fams = A ++ g :: B') (hlt : g.age < t.age) (hgo : ∀ c ∈ g.ser, c.age ≤ g.age) (sv' : Value)
    (hb : w2.heap[w1.heap.size]? = some (famObj t.age g.nm g.kind g.lv sv')) (hr : w2.ownsRow (w1.heap.size + 1) 120 1 sv' g.ser.length (ptrs (g.ser.map GC.b))) (g2 : w1.grownBy w2 none) (h3 : w3 = w2.setCell ⟨L, A.length, none⟩ (.pointer (some ⟨w1.heap.size, 0, none⟩))) :
    ∃ t', Upd t t' w w3 (A ++ { g with b := w1.heap.size, age := t.age, sv := sv' } :: B') := by
  have hgm : g ∈ t.fams := by rw [e0]; simp
  have hg := hm.fam h hgm
  have hL1 : L < w1.heap.size := own_lt hm.row L (by simp [Value.ownBlock])
  have hLb : L ≠ t.b := fun e => by
    have hx := hm.blk
    rcases hm.row.2 with ⟨q1, _⟩ | ⟨g', cap', cur, q1, q2, q3, _⟩
    · simp at q1
    · simp at q1; obtain ⟨rfl, rfl⟩ := q1
      rw [e, hx] at q3; simp [brdObj] at q3
  have hsz1 := hm.kept.size
  have hsz2 := g2.size
  have hz3 : w3.heap.size = w2.heap.size := by rw [h3]; simp
  have hn : w1.heap.size < w2.heap.size := lt_of hb
  have hsame : ∀ b, b < w1.heap.size → b ≠ L → w3.heap[b]? = w1.heap[b]? := fun b hb' hne => by
    rw [h3, Below.heap_setCell _ _ _ _ (by show b ≠ L; exact hne)]; exact g2.block b hb' (by simp)
  have hfarL : ∀ k ∈ t.fams, ∀ b ∈ k.foot, b ≠ L := fun k hk b hb' e => by
    rcases hm.fresh with h5 | h5
    · rcases (h.labF k hk).nm b hb' with h1 | h1 <;> rw [e, h5] at h1 <;> cases h1
    · have := (h.each k hk).lt b hb'; omega
  have hlt0 : ∀ b ∈ g.foot, b < w.heap.size := (h.each g hgm).lt
  have hlabs : ∀ b ∈ g.foot, t.lab b = .shr := by
    have := h.labF g hgm
    unfold GF.Labd at this
    rw [if_neg (by omega)] at this
    exact this
  have hk3 : Kept [t.b, L] w w3 := by
    have k1 : Kept [t.b, L] w w1 := hm.kept.mono (fun b hb => Or.inl (by simp at hb; simp [hb]))
    have k2 : Kept [t.b, L] w1 w2 := Kept.of_none g2 _
    have k3 : Kept [t.b, L] w2 w3 := by rw [h3]; exact Kept.of_some (gb_setCell _ _ _ _) _ (Or.inl (by simp))
    exact (k1.trans k2).trans k3
  obtain ⟨M, hM, hkM⟩ : ∃ M : List Nat, (∀ b ∈ M, t.lab b = .brd ∨ t.lab b = .lst) ∧ Kept M w w3 := by
    rcases hm.fresh with h5 | h5
    · refine ⟨[t.b, L], fun b hb => ?_, hk3⟩
      simp only [List.mem_cons, List.not_mem_nil, or_false] at hb
      rcases hb with rfl | rfl
      · exact Or.inl h.labB
      · exact Or.inr h5
    · refine ⟨[t.b], fun b hb => ?_, hk3.mono (fun b hb => ?_)⟩
      · simp only [List.mem_cons, List.not_mem_nil, or_false] at hb
        rw [hb]; exact Or.inl h.labB
      · simp only [List.mem_cons, List.not_mem_nil, or_false] at hb
        rcases hb with rfl | rfl
        · exact Or.inl (by simp)
        · exact Or.inr h5
  have hrow3 : w3.ownsRow 0 112 1 (.slice (some ⟨L, 0, none⟩) t.fams.length cap) t.fams.length (ptrs ((t.fams.map GF.b).set A.length w1.heap.size)) := by
    rw [h3]
    have := row_set (i := A.length) (n := w1.heap.size) (ps := t.fams.map GF.b) (g := L) (cap := cap) (e := 112) (w := w2) (by simpa using hm.row.kept g2 (ownNe _))
    simpa using this
  have eF : (A ++ ({ g with b := w1.heap.size, age := t.age, sv := sv' } : GF) :: B').map GF.b = (t.fams.map GF.b).set A.length w1.heap.size := by rw [e0]; simp
  have hlenF : (A ++ ({ g with b := w1.heap.size, age := t.age, sv := sv' } : GF) :: B').length = t.fams.length := by rw [e0]; simp
  have hsv : ∀ b ∈ sv'.ownBlock.toList, w1.heap.size + 1 ≤ b ∧ b < w2.heap.size := fun b hb' => by
    have hb2 : sv'.ownBlock = some b := by simpa using hb'
    exact hr.lt b hb2
  have hcf : ∀ c ∈ g.ser, c.b ∈ g.foot := fun c hc => by simp only [GF.foot, List.mem_cons, List.mem_append, List.mem_map]; exact Or.inr (Or.inr (Or.inr ⟨c, hc, rfl⟩))
  have hlf : ∀ b ∈ g.lv.ownBlock.toList, b ∈ g.foot := fun b hb => by simp only [GF.foot, List.mem_cons, List.mem_append]; exact Or.inr (Or.inl hb)
  refine ⟨_, upd_list h (A ++ { g with b := w1.heap.size, age := t.age, sv := sv' } :: B') (.slice (some ⟨L, 0, none⟩) t.fams.length cap) (fun b => if b = L then .lst else if b = w1.heap.size then .fam g.nm else .arr g.nm) ?_ (by rw [eF, hlenF]; exact hrow3) ?_ ?_ M hkM hM⟩
  · exact (hsame t.b (lt_of hm.blk) (fun e => hLb e.symm)).trans hm.blk
  · intro b hb'
    have e : b = L := by simpa [Value.ownBlock] using hb'
    subst e
    rcases hm.fresh with h5 | h5
    · rw [patch_old (h.lt b (h.dom b (by rw [h5]; simp)))]; exact h5
    · rw [patch_new h5 (by omega), if_pos rfl]
  · intro k hk
    simp only [List.mem_append, List.mem_cons] at hk
    rcases hk with hk | rfl | hk
    · exact Or.inl (by rw [e0]; simp [hk])
    · right
      refine ⟨⟨?_, ?_, ?_, ?_⟩, rfl, ?_, ?_, ?_, ?_⟩
      · show w3.heap[w1.heap.size]? = some (famObj t.age g.nm g.kind g.lv sv')
        rw [h3, Below.heap_setCell _ _ _ _ (by show w1.heap.size ≠ L; omega)]; exact hb
      · exact own_frame hg.lims fun b hb' => hsame b (own_lt hg.lims b hb') (hfarL g hgm b (hlf b hb'))
      · exact own_base0 (own_frame hr fun b hb' => by rw [h3, Below.heap_setCell _ _ _ _ (by show b ≠ L; have := hsv b hb'; omega)])
      · intro c hc
        exact (hsame c.b (lt_of (hg.cnts c hc)) (hfarL g hgm _ (hcf c hc))).trans (hg.cnts c hc)
      · show patch _ _ _ _ w1.heap.size = .fam g.nm
        rw [patch_new hsz1 (by omega), if_neg (by omega), if_pos rfl]
      · intro b hb'
        rw [patch_old (hlt0 b (hlf b hb'))]; exact hlabs b (hlf b hb')
      · intro b hb'
        have := hsv b hb'
        rw [patch_new (by omega) (by omega), if_neg (by omega), if_neg (by omega)]
      · intro c hc
        rw [patch_old (hlt0 _ (hcf c hc)), hlabs _ (hcf c hc), if_neg (by have := hgo c hc; omega)]
    · exact Or.inl (by rw [e0]; simp [hk])

end Go.Proofs.YtcfdemhokbddiaaGreatDoor
