/-
  The board's memory when a reading begins, goes on, is over: what is shared, what stands.
-/
import Derived.Test.YtcfdemhokbddiaaGreatDoorQNg

namespace Go.Proofs.YtcfdemhokbddiaaGreatDoor
open Go.RowKit

/-- What may be turned is shared from now on. -/
def shrd : Role → Role
  | .fam _ => .shr
  | .arr _ => .shr
  | .cnt _ _ => .shr
  | .lst => .shr
  | r => r
theorem shrd_nm {r : Role} {n : List UInt8} (h : r.nm = some n) : shrd r = .shr := by cases r <;> simp [Role.nm] at h <;> rfl
theorem shrd_out {r : Role} (h : shrd r ≠ .out) : r ≠ .out := fun e => h (by rw [e]; rfl)

theorem MomOk.drop {m : Nat} {F : List GF} (h : MomOk m F) (k : Nat) : MomOk m (F.drop k) := by
  refine ⟨?_, ?_, fun g hg => h.each g (List.mem_of_mem_drop hg), fun g hg => h.names g (List.mem_of_mem_drop hg), ?_⟩
  · rw [List.map_drop]
    exact List.Pairwise.sublist (List.drop_sublist _ _) h.srt
  · have := h.len
    simp; omega
  · have := h.total
    rw [← List.take_append_drop k F] at this
    simp only [List.map_append, List.sum_append] at this
    omega

theorem GT.At.far_b {w : World} {t : GT} (h : GT.At w t) {b : Nat} (hb : t.lab b ≠ .brd) : b ≠ t.b := fun e => hb (by rw [e]; exact h.labB)
theorem GT.At.in_own {w : World} {t : GT} (h : GT.At w t) : t.b ∈ t.own := h.dom _ (by rw [h.labB]; simp)
theorem GT.At.foot_shr {w : World} {t : GT} (h : GT.At w t) {r : GR} (hr : some r ∈ t.rds) : ∀ b ∈ r.foot, t.lab b = .shr := (h.labR' hr).2

/-- A reading begins. -/
theorem open_upd {t : GT} {w w' : World} {m : Nat} (h : GT.At w t) (ho : GT.Ok m t) (i : Nat) (hi : t.rds[i]? = some none) (k : Nat) (rb : Nat) (v : Value) (hrb : w.heap.size ≤ rb)
    (hb : w'.heap[t.b]? = some (brdObj (t.age + 1) t.lage t.fv ((t.rds.set i (some ⟨rb, v, t.fams.drop k, ⟨0, 0, 0⟩, 0⟩)).map rdPtr)))
    (hr : w'.heap[rb]? = some (rdObj v ⟨0, 0, 0⟩ 0)) (hv : PtrSl w' v ((t.fams.drop k).map GF.b)) (hvb : ∀ b ∈ slBlk v, b ∈ t.fv.ownBlock.toList) (hk : Kept [t.b] w w') :
    ∃ t', Out (m + 1) t t' w w' ∧ t'.rds = t.rds.set i (some ⟨rb, v, t.fams.drop k, ⟨0, 0, 0⟩, 0⟩) ∧ t'.fams = t.fams := by
  have hsz := hk.size
  have hrl := lt_of hr
  have hsame : ∀ b, b < w.heap.size → t.lab b ≠ .brd → w'.heap[b]? = w.heap[b]? := fun b hb' hn => hk.block b hb' (by simpa using h.far_b hn)
  have hfoot : ∀ g ∈ t.fams, ∀ b ∈ g.foot, w'.heap[b]? = w.heap[b]? := fun g hg b hb' => hsame b ((h.each g hg).lt b hb') (fun e => by
    rcases (h.labF g hg).nm b hb' with h1 | h1 <;> rw [e] at h1 <;> cases h1)
  have hfshr : ∀ g ∈ t.fams, ∀ b ∈ g.foot, shrd (t.lab b) = .shr := fun g hg b hb' => by
    rcases (h.labF g hg).nm b hb' with h1 | h1
    · exact shrd_nm h1
    · rw [h1]; rfl
  have hlst : ∀ b ∈ t.fv.ownBlock.toList, shrd (t.lab b) = .shr := fun b hb' => by rw [h.labL b hb']; split <;> rfl
  have hil : i < t.rds.length := (List.getElem?_eq_some_iff.1 hi).1
  obtain ⟨n1, n2⟩ := own_came (w' := w') h.nodup h.lt hsz
  have hdropm : ∀ g ∈ t.fams.drop k, g ∈ t.fams := fun g hg => List.mem_of_mem_drop hg
  obtain ⟨lab', hlab⟩ : ∃ f, f = patch w.heap.size w'.heap.size (fun b => shrd (t.lab b)) (fun b => if b = rb then Role.rd i else .shr) := ⟨_, rfl⟩
  have pold : ∀ b, b < w.heap.size → lab' b = shrd (t.lab b) := fun b hb' => by rw [hlab]; exact patch_old hb'
  have pnew : lab' rb = .rd i := by rw [hlab, patch_new hrb hrl, if_pos rfl]
  have pdom : ∀ b, lab' b ≠ .out → b ∈ t.own ++ came w w' := fun b hb' => by
    rw [hlab] at hb'
    rw [List.mem_append]
    rcases patch_dom hb' with h1 | h1
    · exact Or.inl (h.dom b (shrd_out h1))
    · exact Or.inr (came_mem.2 h1)
  clear hlab
  refine ⟨{ t with age := t.age + 1, rds := t.rds.set i (some ⟨rb, v, t.fams.drop k, ⟨0, 0, 0⟩, 0⟩), lab := lab', own := t.own ++ came w w' }, ⟨⟨hb, ?_, ?_, ?_, ?_, ?_, ?_, ?_, pdom, n2, n1⟩, ⟨ho.srt, ho.len, fun g hg => (ho.each g hg).mono (Nat.le_succ m), ho.names, ho.total, Nat.succ_le_succ ho.age, Nat.le_succ_of_le ho.lage, fun g hg => Nat.le_succ_of_le (ho.ages g hg), ?_, ?_⟩, rfl, ⟨hk.os, hk.tape, hk.output, hk.size, fun b hb' hn => hk.block b hb' ?_⟩, sub_came⟩, rfl, rfl⟩
  · exact own_frame h.rows fun b hb' => hsame b (own_lt h.rows b hb') (by rw [h.labL b hb']; split <;> simp)
  · exact fun g hg => (h.each g hg).frame (hfoot g hg)
  · intro r hr'
    rcases List.mem_or_eq_of_mem_set hr' with hr' | e
    · obtain ⟨⟨j, e⟩, h2⟩ := h.labR' hr'
      exact (h.read r hr').frame hsz (hsame _ (lt_of (h.read r hr').blk) (by rw [e]; simp)) fun b hb' => hsame b ((h.read r hr').lt b hb') (by rw [h2 b hb']; simp)
    · obtain rfl := Option.some.inj e
      exact ⟨hr, hv, fun g hg => (h.each g (hdropm g hg)).frame (hfoot g (hdropm g hg))⟩
  · show lab' t.b = .brd
    rw [pold _ (lt_of h.blk), h.labB]; rfl
  · intro b hb'
    show lab' b = if t.lage = t.age + 1 then Role.lst else Role.shr
    rw [pold _ (own_lt h.rows b hb'), if_neg (by have := ho.lage; omega)]
    exact hlst b hb'
  · intro g hg
    show GF.Labd lab' (t.age + 1) g
    unfold GF.Labd
    rw [if_neg (by have := ho.ages g hg; omega)]
    intro b hb'
    rw [pold _ ((h.each g hg).lt b hb')]
    exact hfshr g hg b hb'
  · intro j r hr'
    have hj : (t.rds.set i (some ⟨rb, v, t.fams.drop k, ⟨0, 0, 0⟩, 0⟩))[j]? = some (some r) := hr'
    rw [List.getElem?_set] at hj
    split at hj
    · rename_i e
      subst e
      obtain rfl := Option.some.inj (Option.some.inj hj)
      refine ⟨?_, fun b hb' => ?_⟩
      · exact pnew
      · show lab' b = _
        simp only [GR.foot, List.mem_append, List.mem_flatMap] at hb'
        rcases hb' with hb' | ⟨g, hg, hb'⟩
        · have hb2 := hvb b hb'
          rw [pold _ (own_lt h.rows b hb2)]; exact hlst b hb2
        · rw [pold _ ((h.each g (hdropm g hg)).lt b hb')]; exact hfshr g (hdropm g hg) b hb'
    · have hm : some r ∈ t.rds := List.mem_of_getElem? hj
      obtain ⟨h1, h2⟩ := h.labR j r hj
      refine ⟨?_, fun b hb' => ?_⟩
      · show lab' r.b = _
        rw [pold _ (lt_of (h.read r hm).blk), h1]; rfl
      · show lab' b = _
        rw [pold _ ((h.read r hm).lt b hb'), h2 b hb']; rfl
  · show (t.rds.set i _).length = 3
    rw [List.length_set]; exact ho.rlen
  · intro r hr'
    rcases List.mem_or_eq_of_mem_set hr' with hr' | e
    · exact (ho.rok r hr').mono (Nat.le_succ m)
    · obtain rfl := Option.some.inj e
      exact (ho.mom.drop k).mono (Nat.le_succ m)
  · intro hm
    have e : b = t.b := by simpa using hm
    exact hn (by rw [e]; exact h.in_own)

/-- A reading's own block is turned. -/
theorem rd_upd {t : GT} {w w' : World} {m : Nat} (h : GT.At w t) (ho : GT.Ok m t) {i : Nat} {r : GR} (hi : t.rds[i]? = some (some r)) (pl : Pl) (idle : Nat) (hb : w'.heap[r.b]? = some (rdObj r.fv pl idle)) (hk : Kept [r.b] w w') :
    Out m t { t with rds := t.rds.set i (some { r with pl := pl, idle := idle }) } w w' := by
  have hsz := hk.size
  have hm : some r ∈ t.rds := List.mem_of_getElem? hi
  obtain ⟨hl1, hl2⟩ := h.labR i r hi
  have hil : i < t.rds.length := (List.getElem?_eq_some_iff.1 hi).1
  have hsame : ∀ b, b < w.heap.size → t.lab b ≠ .rd i → w'.heap[b]? = w.heap[b]? := fun b hb' hn => hk.block b hb' (fun hm' => hn (by
    have e : b = r.b := by simpa using hm'
    rw [e]; exact hl1))
  have hfoot : ∀ g ∈ t.fams, ∀ b ∈ g.foot, w'.heap[b]? = w.heap[b]? := fun g hg b hb' => hsame b ((h.each g hg).lt b hb') (fun e => by
    rcases (h.labF g hg).nm b hb' with h1 | h1 <;> rw [e] at h1 <;> cases h1)
  have hptr : (t.rds.set i (some { r with pl := pl, idle := idle })).map rdPtr = t.rds.map rdPtr := by
    rw [List.map_set]
    apply List.ext_getElem?
    intro j
    rw [List.getElem?_set]
    split
    · rename_i e
      subst e
      rw [if_pos (by simpa using hil), List.getElem?_map, hi]
      rfl
    · rfl
  refine ⟨⟨?_, ?_, ?_, ?_, h.labB, h.labL, h.labF, ?_, h.dom, fun b hb' => Nat.lt_of_lt_of_le (h.lt b hb') hsz, h.nodup⟩, ⟨ho.srt, ho.len, ho.each, ho.names, ho.total, ho.age, ho.lage, ho.ages, ?_, ?_⟩, rfl, ⟨hk.os, hk.tape, hk.output, hk.size, fun b hb' hn => hk.block b hb' ?_⟩, fun b hb' => Or.inl hb'⟩
  · show w'.heap[t.b]? = some (brdObj t.age t.lage t.fv ((t.rds.set i (some { r with pl := pl, idle := idle })).map rdPtr))
    rw [hptr, hsame t.b (lt_of h.blk) (by rw [h.labB]; simp)]
    exact h.blk
  · exact own_frame h.rows fun b hb' => hsame b (own_lt h.rows b hb') (by rw [h.labL b hb']; split <;> simp)
  · exact fun g hg => (h.each g hg).frame (hfoot g hg)
  · intro r' hr'
    obtain ⟨j, hj, e⟩ := List.getElem_of_mem hr'
    have hj' : (t.rds.set i (some { r with pl := pl, idle := idle }))[j]? = some (some r') := by rw [List.getElem?_eq_getElem hj, e]
    rw [List.getElem?_set] at hj'
    split at hj'
    · rename_i e'
      subst e'
      obtain rfl := Option.some.inj (Option.some.inj hj')
      have hro := h.read r hm
      refine ⟨hb, hro.rows.frame hsz fun b hb' => hsame b (hro.rows.lt b hb') ?_, fun g hg => (hro.each g hg).frame fun b hb' => hsame b ((hro.each g hg).lt b hb') ?_⟩
      · rw [hl2 b (by simp only [GR.foot, List.mem_append]; exact Or.inl hb')]; simp
      · rw [hl2 b (by simp only [GR.foot, List.mem_append, List.mem_flatMap]; exact Or.inr ⟨g, hg, hb'⟩)]; simp
    · rename_i e'
      have hm' : some r' ∈ t.rds := List.mem_of_getElem? hj'
      obtain ⟨h1, h2⟩ := h.labR j r' hj'
      exact (h.read r' hm').frame hsz (hsame _ (lt_of (h.read r' hm').blk) (by rw [h1]; simpa using fun e => e' e.symm)) fun b hb' => hsame b ((h.read r' hm').lt b hb') (by rw [h2 b hb']; simp)
  · intro j r' hr'
    have hj' : (t.rds.set i (some { r with pl := pl, idle := idle }))[j]? = some (some r') := hr'
    rw [List.getElem?_set] at hj'
    split at hj'
    · rename_i e'
      subst e'
      obtain rfl := Option.some.inj (Option.some.inj hj')
      exact ⟨hl1, hl2⟩
    · exact h.labR j r' hj'
  · show (t.rds.set i _).length = 3
    rw [List.length_set]; exact ho.rlen
  · intro r' hr'
    rcases List.mem_or_eq_of_mem_set hr' with hr' | e
    · exact ho.rok r' hr'
    · obtain rfl := Option.some.inj e
      exact ho.rok r hm
  · intro hm'
    have e : b = r.b := by simpa using hm'
    exact hn (by rw [e]; exact h.dom _ (by rw [hl1]; simp))

/-- A reading is over. -/
theorem rd_drop {t : GT} {w w' : World} {m : Nat} (h : GT.At w t) (ho : GT.Ok m t) (i : Nat) (hb : w'.heap[t.b]? = some (brdObj t.age t.lage t.fv ((t.rds.set i none).map rdPtr))) (hk : Kept [t.b] w w') :
    Out m t { t with rds := t.rds.set i none } w w' := by
  have hsz := hk.size
  have hsame : ∀ b, b < w.heap.size → t.lab b ≠ .brd → w'.heap[b]? = w.heap[b]? := fun b hb' hn => hk.block b hb' (by simpa using h.far_b hn)
  have hfoot : ∀ g ∈ t.fams, ∀ b ∈ g.foot, w'.heap[b]? = w.heap[b]? := fun g hg b hb' => hsame b ((h.each g hg).lt b hb') (fun e => by
    rcases (h.labF g hg).nm b hb' with h1 | h1 <;> rw [e] at h1 <;> cases h1)
  have hold : ∀ (r : GR), some r ∈ t.rds.set i none → some r ∈ t.rds := fun r hr => by
    rcases List.mem_or_eq_of_mem_set hr with hr | e
    · exact hr
    · cases e
  refine ⟨⟨hb, ?_, ?_, ?_, h.labB, h.labL, h.labF, ?_, h.dom, fun b hb' => Nat.lt_of_lt_of_le (h.lt b hb') hsz, h.nodup⟩, ⟨ho.srt, ho.len, ho.each, ho.names, ho.total, ho.age, ho.lage, ho.ages, ?_, fun r hr => ho.rok r (hold r hr)⟩, rfl, ⟨hk.os, hk.tape, hk.output, hk.size, fun b hb' hn => hk.block b hb' ?_⟩, fun b hb' => Or.inl hb'⟩
  · exact own_frame h.rows fun b hb' => hsame b (own_lt h.rows b hb') (by rw [h.labL b hb']; split <;> simp)
  · exact fun g hg => (h.each g hg).frame (hfoot g hg)
  · intro r hr
    have hr' := hold r hr
    obtain ⟨⟨j, e⟩, h2⟩ := h.labR' hr'
    exact (h.read r hr').frame hsz (hsame _ (lt_of (h.read r hr').blk) (by rw [e]; simp)) fun b hb' => hsame b ((h.read r hr').lt b hb') (by rw [h2 b hb']; simp)
  · intro j r hr
    have hj : (t.rds.set i none)[j]? = some (some r) := hr
    rw [List.getElem?_set] at hj
    split at hj
    · split at hj <;> cases hj
    · exact h.labR j r hj
  · show (t.rds.set i _).length = 3
    rw [List.length_set]; exact ho.rlen
  · intro hm
    have e : b = t.b := by simpa using hm
    exact hn (by rw [e]; exact h.in_own)

end Go.Proofs.YtcfdemhokbddiaaGreatDoor

/-
  Tally.Moment; the first place that no reading has.
-/
namespace Go.Proofs.YtcfdemhokbddiaaGreatDoor
open Go.RowKit

theorem keyed_gbs {w W : World} {t : GT} (h : GT.At w t) (hg : w.grownBy W (some t.b)) : Keyed W (t.fams.map GF.b) (t.fams.map GF.nm) := by
  have hk := keyedF h
  refine ⟨hk.1, fun k h1 h2 => gb_cell hg (hk.2 k h1 h2) ?_⟩
  have h1' : k < t.fams.length := by simpa using h1
  have := foot_far h (List.getElem_mem h1') (t.fams[k]).b (by simp [GF.foot])
  simpa using this

theorem fv_far {w : World} {t : GT} (h : GT.At w t) : ∀ b ∈ t.fv.ownBlock.toList, b ≠ t.b := fun b hb e => by
  have := h.labL b hb
  rw [e, h.labB] at this
  split at this <;> cases this

set_option maxRecDepth 100000 in
set_option maxHeartbeats 1000000 in
theorem moment_any (t : GT) (fr : List UInt8) (m : Nat) (w : World) (h : GT.At w t) (ho : GT.Ok m t) (hm : m ≤ 4611686018427387904) :
    Calls Tryz.prog 60 #[.pointer (some ⟨t.b, 0, none⟩), .string (B fr)] w fun e w' => ∃ sa n c, e = .returned (.agg #[.slice sa n c]) ∧ PtrSl w' (.slice sa n c) ((t.fams.drop (kplace lt fr (t.fams.map GF.nm))).map GF.b) ∧ (∀ b ∈ slBlk (.slice sa n c), b ∈ t.fv.ownBlock.toList) ∧
      w'.heap[t.b]? = some (brdObj (t.age + 1) t.lage t.fv (t.rds.map rdPtr)) ∧ w.grownBy w' (some t.b) := by
  obtain ⟨c0, _, c2⟩ := tally_cells h.blk
  have hbl := lt_of h.blk
  have hage : (t.age : Int) + 1 ≤ 9223372036854775807 := by have := ho.age; omega
  have fz := brd_froz h.blk 0
  obtain ⟨W, hW⟩ : ∃ W, (w.setCell ⟨t.b, 0, none⟩ (.int .i64 ((t.age : Int) + 1))).alloc (.cells #[.slice none 0 0] 105) = W := ⟨_, rfl⟩
  have gW : w.grownBy W (some t.b) := by rw [← hW]; exact gb_alloc (gb_setCell _ _ _ _) _
  have xW : W.heap[w.heap.size]? = some (.cells #[.slice none 0 0] 105) := by
    rw [← hW]; exact alloc_new _ _ _ (by simp)
  have bW : W.heap[t.b]? = some (brdObj (t.age + 1) t.lage t.fv (t.rds.map rdPtr)) := by
    rw [← hW]
    exact (Below.heap_alloc _ _ t.b (by simpa using hbl)).trans (brd_set0 h.blk (t.age + 1))
  have e2 := (tally_cells bW).2.2
  have hrow : W.ownsRow 0 112 1 t.fv t.fams.length (ptrs (t.fams.map GF.b)) := own_frame h.rows fun b hb => gW.block b (own_lt h.rows b hb) (by simpa using fv_far h b hb)
  have hlen := ho.len
  obtain ⟨k, hk⟩ : ∃ k, kplace lt fr (t.fams.map GF.nm) = k := ⟨_, rfl⟩
  have hkl : k ≤ t.fams.length := by rw [← hk]; have := kplace_le lt fr (t.fams.map GF.nm); simpa using this
  have hF := findF_any t.fv 0 (t.fams.map GF.b) (t.fams.map GF.nm) fr W (by simpa using hrow) (keyed_gbs h gW) (by simp; omega) ho.srt
  rw [hk] at hF ⊢
  obtain ⟨sa, sc, hv, hsc, hsn⟩ := own_shape1 hrow
  rw [hv] at hF e2
  have HF : Hid (Calls Tryz.prog 94 #[.slice sa t.fams.length sc, .func (.func 91) #[] #[], .string (B fr)] W _) := hF
  have HWE : Hid ((w.setCell ⟨t.b, 0, none⟩ (.int .i64 ((t.age : Int) + 1))).alloc (.cells #[.slice none 0 0] 105) = W) := hW
  have HB : Hid (W.heap[t.b]? = some (brdObj (t.age + 1) t.lage t.fv (t.rds.map rdPtr))) := bW
  have HX : Hid (W.heap[w.heap.size]? = some (.cells #[.slice none 0 0] 105)) := xW
  have HG : Hid (w.grownBy W (some t.b)) := gW
  have HV : Hid (t.fv = .slice sa t.fams.length sc) := hv
  have HR : Hid (W.ownsRow 0 112 1 t.fv t.fams.length (ptrs (t.fams.map GF.b))) := hrow
  have hk' : (k : Int) ≤ (t.fams.length : Int) := by omega
  have hk2 : (k : Int) ≤ (sc : Int) := by omega
  have HD : Hid (((t.fams.drop k).map GF.b).length = t.fams.length - k) := by show _ = _; simp
  clear hW bW xW gW hv hF hrow h hk c2
  go_enter Tryz.func60, Tryz.ntmps60
  go_upto_region 2 with fail
  rw [HWE.out]
  go_wp2_with fail
  refine HF.out.mono ?_
  rintro e w2 ⟨rfl, g2⟩
  have d2 := gb_cell g2 e2 (by simp)
  have x2 := (g2.block _ (lt_of HX.out) (by simp)).trans HX.out
  have b2 := (g2.block _ (lt_of HB.out) (by simp)).trans HB.out
  have HX2 : Hid (w2.heap[w.heap.size]? = some (.cells #[.slice none 0 0] 105)) := x2
  have HB2 : Hid (w2.heap[t.b]? = some (brdObj (t.age + 1) t.lage t.fv (t.rds.map rdPtr))) := b2
  have z2 : w2.cell? ⟨w.heap.size, 0, none⟩ = some (.slice none 0 0) := by unfold World.cell?; simp only [x2]; rfl
  have q2 : w2.frozen? ⟨w.heap.size, 0, none⟩ = false := by unfold World.frozen?; simp only [x2]; simp
  have HR2 : Hid (w2.ownsRow 0 112 1 t.fv t.fams.length (ptrs (t.fams.map GF.b))) := HR.out.kept g2 (ownNe _)
  have HG2 : Hid (w.grownBy w2 (some t.b)) := gb_row HG.out g2 (fun j e => by cases e)
  have hbw : t.b ≠ w.heap.size := by omega
  have fin : ∀ v, (w2.setCell ⟨w.heap.size, 0, none⟩ v).heap[t.b]? = some (brdObj (t.age + 1) t.lage t.fv (t.rds.map rdPtr)) ∧ w.grownBy (w2.setCell ⟨w.heap.size, 0, none⟩ v) (some t.b) := fun v =>
    ⟨(Below.heap_setCell _ _ _ _ (by show t.b ≠ w.heap.size; exact hbw)).trans b2, gb_o HG2.out (Nat.le_refl _)⟩
  have HFIN : Hid (∀ v, (w2.setCell ⟨w.heap.size, 0, none⟩ v).heap[t.b]? = some (brdObj (t.age + 1) t.lage t.fv (t.rds.map rdPtr)) ∧ w.grownBy (w2.setCell ⟨w.heap.size, 0, none⟩ v) (some t.b)) := fin
  have HC4 : Hid (∀ v, (w2.setCell ⟨w.heap.size, 0, none⟩ v).cell? ⟨w.heap.size, 0, none⟩ = some v) := fun v => by
    unfold World.cell?
    simp only [text_set x2]
    rfl
  clear x2 b2 g2 fin HF e2
  rcases hsn with ⟨rfl, hn0, rfl⟩ | ⟨g, rfl, hg⟩
  · have hk0 : k = 0 := by omega
    subst hk0
    have HNIL : Hid (t.fams = []) := List.eq_nil_of_length_eq_zero hn0
    rw [hn0] at d2
    go_wp2
    have c4 := HC4.out (.slice none 0 0)
    refine bodyPost_ret (v := .agg #[.slice none 0 0]) (by simp [results, Tryz.results60, go_sem, c4]) rfl ?_
    refine ⟨none, 0, 0, rfl, ⟨none, 0, by rw [HNIL.out]; rfl, by rw [HNIL.out]; simp, Or.inl (by rw [HNIL.out]; rfl)⟩, by simp [slBlk], (HFIN.out _).1, (HFIN.out _).2⟩
  · have HCL : Hid (∀ j (h : j < (t.fams.map GF.b).length), w2.cell? ⟨g, j, none⟩ = some (.pointer (some ⟨(t.fams.map GF.b)[j], 0, none⟩))) := fun j h => ptrsAt_of (by have := HR2.out; rw [HV.out] at this; exact this) j h
    have HOB : Hid (g ∈ t.fv.ownBlock.toList) := by show _ ∈ _; rw [HV.out]; simp [Value.ownBlock]
    have HGL : Hid (g < w2.heap.size) := own_lt HR2.out g HOB.out
    have hgw : g ≠ w.heap.size := fun e => by
      rcases HR2.out.2 with ⟨h1, _⟩ | ⟨g', cap', cur, h1, _, h3, _⟩
      · rw [HV.out] at h1; simp at h1
      · rw [HV.out] at h1
        simp at h1
        rw [← h1.1, e, HX2.out] at h3
        simp at h3
    by_cases hcap : sc = k
    · subst hcap
      have HE : Hid (t.fams.drop sc = []) := List.drop_of_length_le hsc
      go_wp2
      have c4 := HC4.out (.slice (some ⟨g, 0, none⟩) 0 0)
      refine bodyPost_ret (v := .agg #[.slice (some ⟨g, 0, none⟩) 0 0]) (by simp [results, Tryz.results60, go_sem, c4]) rfl ?_
      refine ⟨_, _, _, rfl, ⟨some ⟨g, 0, none⟩, 0, by rw [HE.out]; rfl, by rw [HE.out]; simp, Or.inl (by rw [HE.out]; rfl)⟩, ?_, (HFIN.out _).1, (HFIN.out _).2⟩
      intro b hb
      simp [slBlk] at hb
    · go_wp2
      have c4 := HC4.out (.slice (some ⟨g, k, none⟩) (t.fams.length - k) (sc - k))
      refine bodyPost_ret (v := .agg #[.slice (some ⟨g, k, none⟩) (t.fams.length - k) (sc - k)]) (by simp [results, Tryz.results60, go_sem, c4]) rfl ?_
      refine ⟨_, _, _, rfl, ⟨some ⟨g, k, none⟩, sc - k, by rw [HD.out], by rw [HD.out]; omega, Or.inr ⟨g, k, rfl, by simpa using HGL.out, fun j hj => ?_⟩⟩, ?_, (HFIN.out _).1, (HFIN.out _).2⟩
      · have hj' : k + j < (t.fams.map GF.b).length := by rw [HD.out] at hj; simp; omega
        have := gb_cell (gb_setCell w2 w.heap.size 0 (.slice (some ⟨g, k, none⟩) (t.fams.length - k) (sc - k))) (HCL.out (k + j) hj') (by simpa using hgw)
        rw [this]
        simp
      · intro b hb
        simp only [slBlk] at hb
        split at hb
        · simp at hb
        · have e : b = g := by simpa using hb
          rw [e]; exact HOB.out

/-- The first of the places that no reading has. -/
def freeP {α : Type} (R : List (Option α)) : Option Nat := R.findIdx? Option.isNone
def freeI {α : Type} (R : List (Option α)) : Int := match freeP R with
  | some i => (i : Int)
  | none => -1
theorem freeI_some {α : Type} {R : List (Option α)} {i : Nat} (h : freeP R = some i) : freeI R = (i : Int) := by unfold freeI; rw [h]
theorem freeI_none {α : Type} {R : List (Option α)} (h : freeP R = none) : freeI R = -1 := by unfold freeI; rw [h]

theorem ptr_nil_ne (a : Addr) (w : World) : (binOp .eql 71 (.pointer none) (.pointer (some a))).run Tryz.prog w = .ok (.bool false) w := by
  have h : ∀ d : Nat, (Op.equalIn (d + 1) 71 (.pointer none) (.pointer (some a))).run Tryz.prog w = .ok false w := fun d => by
    simp [Op.equalIn, run_underlying Tryz.underlying71]
  simp only [binOp]
  simp [Op.equal, Op.maxDepth, h 9999]
theorem brd_ptr {w : World} {b age lage : Nat} {fv : Value} {rs : List (Option GR)} (h : w.heap[b]? = some (brdObj age lage fv (rs.map rdPtr))) (j : Nat) (hj : j < rs.length) : w.cell? ⟨b, 3 + j, none⟩ = some (rdPtr rs[j]) := by
  unfold World.cell?
  simp only [h, brdObj]
  rw [Array.getElem?_append_right (by simp)]
  simp [hj]

set_option maxRecDepth 100000 in
set_option maxHeartbeats 400000 in
theorem index_any (b age lage : Nat) (fv : Value) (rs : List (Option GR)) (w : World) (h : w.heap[b]? = some (brdObj age lage fv (rs.map rdPtr))) (hl : rs.length = 3) :
    Calls Tryz.prog 59 #[.slice (some ⟨b, 3, none⟩) 3 3, .pointer none] w fun e w' => e = .returned (.int .i64 (freeI rs)) ∧ w' = w := by
  have HB : Hid (∀ j (hj : j < rs.length), w.cell? ⟨b, 3 + j, none⟩ = some (rdPtr rs[j])) := fun j hj => brd_ptr h j hj
  clear h
  go_enter Tryz.func59, Tryz.ntmps59
  go_wp2_with fail
  go_loopw [8] (fun v wr => ∃ i : Nat, v = .int .i64 (i : Int) ∧ i ≤ 3 ∧ wr = w ∧ Hid (∀ j (hj : j < rs.length), j < i → rs[j].isNone = false)) (fun v _ => 3 - (intOf v).toNat)
  case atStart => exact ⟨0, rfl, by omega, rfl, fun j hj h => by omega⟩
  case round =>
    obtain ⟨i, rfl, hi, rfl, HN⟩ := hrel
    by_cases hlt : i < 3
    · have hli : (i : Int) < 3 := by omega
      have hir : i < rs.length := by omega
      have c0 := HB.out i hir
      cases hr : rs[i] with
      | none =>
        rw [hr] at c0
        have HF : Hid (freeI rs = (i : Int)) := by
          show _ = _
          refine freeI_some ?_
          unfold freeP
          rw [List.findIdx?_eq_some_iff_getElem]
          exact ⟨hir, by rw [hr]; rfl, fun j hj => by rw [HN.out j (by omega) hj]; simp⟩
        simp only [rdPtr] at c0
        clear hr
        go_wp2
        go_ret
        exact ⟨by rw [HF.out]; rfl, rfl⟩
      | some r =>
        rw [hr] at c0
        simp only [rdPtr] at c0
        have HN' : Hid (∀ j (hj : j < rs.length), j < i + 1 → rs[j].isNone = false) := fun j hj h => by
          by_cases e : j = i
          · subst e; rw [hr]; rfl
          · exact HN.out j hj (by omega)
        have hq : ∀ w, Sem.run Tryz.prog (binOp BinOp.eql 71 (.pointer none) (.pointer (some ⟨r.b, 0, none⟩))) w = .ok (.bool false) w := fun w => by
          exact ptr_nil_ne _ w
        clear hr
        go_wp2
        go_roundw
        case rel => exact ⟨i + 1, by go_num, by omega, by trivial, HN'⟩
        case measure => simp [intOf]; omega
    · have hi3 : i = 3 := by omega
      subst hi3
      have HF : Hid (freeI rs = -1) := by
        show _ = _
        refine freeI_none ?_
        unfold freeP
        rw [List.findIdx?_eq_none_iff]
        intro x hx
        obtain ⟨j, hj, rfl⟩ := List.getElem_of_mem hx
        exact HN.out j hj (by omega)
      go_wp2
      go_ret
      exact ⟨by rw [HF.out]; rfl, rfl⟩

end Go.Proofs.YtcfdemhokbddiaaGreatDoor
