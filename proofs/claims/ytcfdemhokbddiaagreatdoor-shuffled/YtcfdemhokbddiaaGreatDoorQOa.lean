/-
  The board's memory when a reading begins, goes on, is over: what is shared, what stands.
-/
import Derived.Test.YtcfdemhokbddiaaGreatDoorQNg

namespace Go.Proofs.YtcfdemhokbddiaaGreatDoor
open Go.RowKit

/-- What may be turned is shared from now on. -/
def shrd : Role → Role
  | .fam _ => .shr
  | .arr _ => .shr
  | .cnt _ _ => .shr
  | .lst => .shr
  | r => r
theorem shrd_nm {r : Role} {n : List UInt8} (h : r.nm = some n) : shrd r = .shr := by cases r <;> simp [Role.nm] at h <;> rfl
theorem shrd_out {r : Role} (h : shrd r ≠ .out) : r ≠ .out := fun e => h (by rw [e]; rfl)

theorem MomOk.drop {m : Nat} {F : List GF} (h : MomOk m F) (k : Nat) : MomOk m (F.drop k) := by
  refine ⟨?_, ?_, fun g hg => h.each g (List.mem_of_mem_drop hg), fun g hg => h.names g (List.mem_of_mem_drop hg), ?_⟩
  · rw [List.map_drop]
    exact List.Pairwise.sublist (List.drop_sublist _ _) h.srt
  · have := h.len
    simp; omega
  · have := h.total
    rw [← List.take_append_drop k F] at this
    simp only [List.map_append, List.sum_append] at this
    omega

theorem GT.At.far_b {w : World} {t : GT} (h : GT.At w t) {b : Nat} (hb : t.lab b ≠ .brd) : b ≠ t.b := fun e => hb (by rw [e]; exact h.labB)
theorem GT.At.in_own {w : World} {t : GT} (h : GT.At w t) : t.b ∈ t.own := h.dom _ (by rw [h.labB]; simp)
theorem GT.At.foot_shr {w : World} {t : GT} (h : GT.At w t) {r : GR} (hr : some r ∈ t.rds) : ∀ b ∈ r.foot, t.lab b = .shr := (h.labR' hr).2

/-- A reading begins. -/
theorem open_upd {t : GT} {w w' : World} {m : Nat} (h : GT.At w t) (ho : GT.Ok m t) (i : Nat) (hi : t.rds[i]? = some none) (k : Nat) (rb : Nat) (v : Value) (hrb : w.heap.size ≤ rb)
    (hb : w'.heap[t.b]? = some (brdObj (t.age + 1) t.lage t.fv ((t.rds.set i (some ⟨rb, v, t.fams.drop k, ⟨0, 0, 0⟩, 0⟩)).map rdPtr)))
    (hr : w'.heap[rb]? = some (rdObj v ⟨0, 0, 0⟩ 0)) (hv : PtrSl w' v ((t.fams.drop k).map GF.b)) (hvb : ∀ b ∈ slBlk v, b ∈ t.fv.ownBlock.toList) (hk : Kept [t.b] w w') :
    ∃ t', Out (m + 1) t t' w w' ∧ t'.rds = t.rds.set i (some ⟨rb, v, t.fams.drop k, ⟨0, 0, 0⟩, 0⟩) ∧ t'.fams = t.fams := by
  have hsz := hk.size
  have hrl := lt_of hr
  have hsame : ∀ b, b < w.heap.size → t.lab b ≠ .brd → w'.heap[b]? = w.heap[b]? := fun b hb' hn => hk.block b hb' (by simpa using h.far_b hn)
  have hfoot : ∀ g ∈ t.fams, ∀ b ∈ g.foot, w'.heap[b]? = w.heap[b]? := fun g hg b hb' => hsame b ((h.each g hg).lt b hb') (fun e => by
    rcases (h.labF g hg).nm b hb' with h1 | h1 <;> rw [e] at h1 <;> cases h1)
  have hfshr : ∀ g ∈ t.fams, ∀ b ∈ g.foot, shrd (t.lab b) = .shr := fun g hg b hb' => by
    rcases (h.labF g hg).nm b hb' with h1 | h1
    · exact shrd_nm h1
    · rw [h1]; rfl
  have hlst : ∀ b ∈ t.fv.ownBlock.toList, shrd (t.lab b) = .shr := fun b hb' => by rw [h.labL b hb']; split <;> rfl
  have hil : i < t.rds.length := (List.getElem?_eq_some_iff.1 hi).1
  obtain ⟨n1, n2⟩ := own_came (w' := w') h.nodup h.lt hsz
  have hdropm : ∀ g ∈ t.fams.drop k, g ∈ t.fams := fun g hg => List.mem_of_mem_drop hg
  obtain ⟨lab', hlab⟩ : ∃ f, f = patch w.heap.size w'.heap.size (fun b => shrd (t.lab b)) (fun b => if b = rb then Role.rd i else .shr) := ⟨_, rfl⟩
  have pold : ∀ b, b < w.heap.size → lab' b = shrd (t.lab b) := fun b hb' => by rw [hlab]; exact patch_old hb'
  have pnew : lab' rb = .rd i := by rw [hlab, patch_new hrb hrl, if_pos rfl]
  have pdom : ∀ b, lab' b ≠ .out → b ∈ t.own ++ came w w' := fun b hb' => by
    rw [hlab] at hb'
    rw [List.mem_append]
    rcases patch_dom hb' with h1 | h1
    · exact Or.inl (h.dom b (shrd_out h1))
    · exact Or.inr (came_mem.2 h1)
  clear hlab
  refine ⟨{ t with age := t.age + 1, rds := t.rds.set i (some ⟨rb, v, t.fams.drop k, ⟨0, 0, 0⟩, 0⟩), lab := lab', own := t.own ++ came w w' }, ⟨⟨hb, ?_, ?_, ?_, ?_, ?_, ?_, ?_, pdom, n2, n1⟩, ⟨ho.srt, ho.len, fun g hg => (ho.each g hg).mono (Nat.le_succ m), ho.names, ho.total, Nat.succ_le_succ ho.age, Nat.le_succ_of_le ho.lage, fun g hg => Nat.le_succ_of_le (ho.ages g hg), ?_, ?_⟩, rfl, ⟨hk.os, hk.tape, hk.output, hk.size, fun b hb' hn => hk.block b hb' ?_⟩, sub_came⟩, rfl, rfl⟩
  · exact own_frame h.rows fun b hb' => hsame b (own_lt h.rows b hb') (by rw [h.labL b hb']; split <;> simp)
  · exact fun g hg => (h.each g hg).frame (hfoot g hg)
  · intro r hr'
    rcases List.mem_or_eq_of_mem_set hr' with hr' | e
    · obtain ⟨⟨j, e⟩, h2⟩ := h.labR' hr'
      exact (h.read r hr').frame hsz (hsame _ (lt_of (h.read r hr').blk) (by rw [e]; simp)) fun b hb' => hsame b ((h.read r hr').lt b hb') (by rw [h2 b hb']; simp)
    · obtain rfl := Option.some.inj e
      exact ⟨hr, hv, fun g hg => (h.each g (hdropm g hg)).frame (hfoot g (hdropm g hg))⟩
  · show lab' t.b = .brd
    rw [pold _ (lt_of h.blk), h.labB]; rfl
  · intro b hb'
    show lab' b = if t.lage = t.age + 1 then Role.lst else Role.shr
    rw [pold _ (own_lt h.rows b hb'), if_neg (by have := ho.lage; omega)]
    exact hlst b hb'
  · intro g hg
    show GF.Labd lab' (t.age + 1) g
    unfold GF.Labd
    rw [if_neg (by have := ho.ages g hg; omega)]
    intro b hb'
    rw [pold _ ((h.each g hg).lt b hb')]
    exact hfshr g hg b hb'
  · intro j r hr'
    have hj : (t.rds.set i (some ⟨rb, v, t.fams.drop k, ⟨0, 0, 0⟩, 0⟩))[j]? = some (some r) := hr'
    rw [List.getElem?_set] at hj
    split at hj
    · rename_i e
      subst e
      obtain rfl := Option.some.inj (Option.some.inj hj)
      refine ⟨?_, fun b hb' => ?_⟩
      · exact pnew
      · show lab' b = _
        simp only [GR.foot, List.mem_append, List.mem_flatMap] at hb'
        rcases hb' with hb' | ⟨g, hg, hb'⟩
        · have hb2 := hvb b hb'
          rw [pold _ (own_lt h.rows b hb2)]; exact hlst b hb2
        · rw [pold _ ((h.each g (hdropm g hg)).lt b hb')]; exact hfshr g (hdropm g hg) b hb'
    · have hm : some r ∈ t.rds := List.mem_of_getElem? hj
      obtain ⟨h1, h2⟩ := h.labR j r hj
      refine ⟨?_, fun b hb' => ?_⟩
      · show lab' r.b = _
        rw [pold _ (lt_of (h.read r hm).blk), h1]; rfl
      · show lab' b = _
        rw [pold _ ((h.read r hm).lt b hb'), h2 b hb']; rfl
  · show (t.rds.set i _).length = 3
    rw [List.length_set]; exact ho.rlen
  · intro r hr'
    rcases List.mem_or_eq_of_mem_set hr' with hr' | e
    · exact (ho.rok r hr').mono (Nat.le_succ m)
    · obtain rfl := Option.some.inj e
      exact (ho.mom.drop k).mono (Nat.le_succ m)
  · intro hm
    have e : b = t.b := by simpa using hm
    exact hn (by rw [e]; exact h.in_own)

/-- A reading's own block is turned. -/
theorem rd_upd {t : GT} {w w' : World} {m : Nat} (h : GT.At w t) (ho : GT.Ok m t) {i : Nat} {r : GR} (hi : t.rds[i]? = some (some r)) (pl : Pl) (idle : Nat) (hb : w'.heap[r.b]? = some (rdObj r.fv pl idle)) (hk : Kept [r.b] w w') :
    Out m t { t with rds := t.rds.set i (some { r with pl := pl, idle := idle }) } w w' := by
  have hsz := hk.size
  have hm : some r ∈ t.rds := List.mem_of_getElem? hi
  obtain ⟨hl1, hl2⟩ := h.labR i r hi
  have hil : i < t.rds.length := (List.getElem?_eq_some_iff.1 hi).1
  have hsame : ∀ b, b < w.heap.size → t.lab b ≠ .rd i → w'.heap[b]? = w.heap[b]? := fun b hb' hn => hk.block b hb' (fun hm' => hn (by
    have e : b = r.b := by simpa using hm'
    rw [e]; exact hl1))
  have hfoot : ∀ g ∈ t.fams, ∀ b ∈ g.foot, w'.heap[b]? = w.heap[b]? := fun g hg b hb' => hsame b ((h.each g hg).lt b hb') (fun e => by
    rcases (h.labF g hg).nm b hb' with h1 | h1 <;> rw [e] at h1 <;> cases h1)
  have hptr : (t.rds.set i (some { r with pl := pl, idle := idle })).map rdPtr = t.rds.map rdPtr := by
    rw [List.map_set]
    apply List.ext_getElem?
    intro j
    rw [List.getElem?_set]
    split
    · rename_i e
      subst e
      rw [if_pos (by simpa using hil), List.getElem?_map, hi]
      rfl
    · rfl
  refine ⟨⟨?_, ?_, ?_, ?_, h.labB, h.labL, h.labF, ?_, h.dom, fun b hb' => Nat.lt_of_lt_of_le (h.lt b hb') hsz, h.nodup⟩, ⟨ho.srt, ho.len, ho.each, ho.names, ho.total, ho.age, ho.lage, ho.ages, ?_, ?_⟩, rfl, ⟨hk.os, hk.tape, hk.output, hk.size, fun b hb' hn => hk.block b hb' ?_⟩, fun b hb' => Or.inl hb'⟩
  · show w'.heap[t.b]? = some (brdObj t.age t.lage t.fv ((t.rds.set i (some { r with pl := pl, idle := idle })).map rdPtr))
    rw [hptr, hsame t.b (lt_of h.blk) (by rw [h.labB]; simp)]
    exact h.blk
  · exact own_frame h.rows fun b hb' => hsame b (own_lt h.rows b hb') (by rw [h.labL b hb']; split <;> simp)
  · exact fun g hg => (h.each g hg).frame (hfoot g hg)
  · intro r' hr'
    obtain ⟨j, hj, e⟩ := List.getElem_of_mem hr'
    have hj' : (t.rds.set i (some { r with pl := pl, idle := idle }))[j]? = some (some r') := by rw [List.getElem?_eq_getElem hj, e]
    rw [List.getElem?_set] at hj'
    split at hj'
    · rename_i e'
      subst e'
      obtain rfl := Option.some.inj (Option.some.inj hj')
      have hro := h.read r hm
      refine ⟨hb, hro.rows.frame hsz fun b hb' => hsame b (hro.rows.lt b hb') ?_, fun g hg => (hro.each g hg).frame fun b hb' => hsame b ((hro.each g hg).lt b hb') ?_⟩
      · rw [hl2 b (by simp only [GR.foot, List.mem_append]; exact Or.inl hb')]; simp
      · rw [hl2 b (by simp only [GR.foot, List.mem_append, List.mem_flatMap]; exact Or.inr ⟨g, hg, hb'⟩)]; simp
    · rename_i e'
      have hm' : some r' ∈ t.rds := List.mem_of_getElem? hj'
      obtain ⟨h1, h2⟩ := h.labR j r' hj'
      exact (h.read r' hm').frame hsz (hsame _ (lt_of (h.read r' hm').blk) (by rw [h1]; simpa using fun e => e' e.symm)) fun b hb' => hsame b ((h.read r' hm').lt b hb') (by rw [h2 b hb']; simp)
  · intro j r' hr'
    have hj' : (t.rds.set i (some { r with pl := pl, idle := idle }))[j]? = some (some r') := hr'
    rw [List.getElem?_set] at hj'
    split at hj'
    · rename_i e'
      subst e'
      obtain rfl := Option.some.inj (Option.some.inj hj')
      exact ⟨hl1, hl2⟩
    · exact h.labR j r' hj'
  · show (t.rds.set i _).length = 3
    rw [List.length_set]; exact ho.rlen
  · intro r' hr'
    rcases List.mem_or_eq_of_mem_set hr' with hr' | e
    · exact ho.rok r' hr'
    · obtain rfl := Option.some.inj e
      exact ho.rok r hm
  · intro hm'
    have e : b = r.b := by simpa using hm'
    exact hn (by rw [e]; exact h.dom _ (by rw [hl1]; simp))

/-- A reading is over. -/
theorem rd_drop {t : GT} {w w' : World} {m : Nat} (h : GT.At w t) (ho : GT.Ok m t) (i : Nat) (hb : w'.heap[t.b]? = some (brdObj t.age t.lage t.fv ((t.rds.set i none).map rdPtr))) (hk : Kept [t.b] w w') :
    Out m t { t with rds := t.rds.set i none } w w' := by
  have hsz := hk.size
  have hsame : ∀ b, b < w.heap.size → t.lab b ≠ .brd → w'.heap[b]? = w.heap[b]? := fun b hb' hn => hk.block b hb' (by simpa using h.far_b hn)
  have hfoot : ∀ g ∈ t.fams, ∀ b ∈ g.foot, w'.heap[b]? = w.heap[b]? := fun g hg b hb' => hsame b ((h.each g hg).lt b hb') (fun e => by
    rcases (h.labF g hg).nm b hb' with h1 | h1 <;> rw [e] at h1 <;> cases h1)
  have hold : ∀ (r : GR), some r ∈ t.rds.set i none → some r ∈ t.rds := fun r hr => by
    rcases List.mem_or_eq_of_mem_set hr with hr | e
    · exact hr
    · cases e
  refine ⟨⟨hb, ?_, ?_, ?_, h.labB, h.labL, h.labF, ?_, h.dom, fun b hb' => Nat.lt_of_lt_of_le (h.lt b hb') hsz, h.nodup⟩, ⟨ho.srt, ho.len, ho.each, ho.names, ho.total, ho.age, ho.lage, ho.ages, ?_, fun r hr => ho.rok r (hold r hr)⟩, rfl, ⟨hk.os, hk.tape, hk.output, hk.size, fun b hb' hn => hk.block b hb' ?_⟩, fun b hb' => Or.inl hb'⟩
  · exact own_frame h.rows fun b hb' => hsame b (own_lt h.rows b hb') (by rw [h.labL b hb']; split <;> simp)
  · exact fun g hg => (h.each g hg).frame (hfoot g hg)
  · intro r hr
    have hr' := hold r hr
    obtain ⟨⟨j, e⟩, h2⟩ := h.labR' hr'
    exact (h.read r hr').frame hsz (hsame _ (lt_of (h.read r hr').blk) (by rw [e]; simp)) fun b hb' => hsame b ((h.read r hr').lt b hb') (by rw [h2 b hb']; simp)
  · intro j r hr
    have hj : (t.rds.set i none)[j]? = some (some r) := hr
    rw [List.getElem?_set] at hj
    split at hj
    · split at hj <;> cases hj
    · exact h.labR j r hj
  · show (t.rds.set i _).length = 3
    rw [List.length_set]; exact ho.rlen
  · intro hm
    have e : b = t.b := by simpa using hm
    exact hn (by rw [e]; exact h.in_own)

end Go.Proofs.YtcfdemhokbddiaaGreatDoor
