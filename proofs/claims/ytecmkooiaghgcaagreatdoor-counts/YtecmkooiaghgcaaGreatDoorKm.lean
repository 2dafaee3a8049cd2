/-
  Tally.Family: what it answers and what the board keeps behind it.
-/
import Derived.Test.YtecmkooiaghgcaaGreatDoorKl

namespace Go.Proofs.YtecmkooiaghgcaaGreatDoor
open Go.RowKit

/-- A family as it is told of: its name, kind, limits, series. -/
structure Fam where
  nm : List UInt8
  kind : Int
  ls : List Int
  ser : List Cnt
def GF.view (g : GF) : Fam := ⟨g.nm, g.kind, g.ls, g.ser.map GC.x⟩
def GT.view (t : GT) : List Fam := t.fams.map GF.view

/-- The board t has become t'. -/
structure Out (m : Nat) (t t' : GT) (w w' : World) : Prop where
  at_ : GT.At w' t'
  ok : GT.Ok m t'
  b : t'.b = t.b
  kept : Kept t.own w w'
  sub : ∀ x ∈ t'.own, x ∈ t.own ∨ w.heap.size ≤ x
theorem GT.At.gb {w w' : World} {t : GT} (h : GT.At w t) (hg : w.grownBy w' none) : GT.At w' t := h.frame fun b hb => hg.block b (h.lt b hb) (by simp)
theorem Out.same {m : Nat} {t : GT} {w w' : World} (h : GT.At w t) (ho : GT.Ok m t) (hg : w.grownBy w' none) : Out m t t w w' :=
  ⟨h.gb hg, ho, rfl, Kept.of_none hg _, fun _ hx => Or.inl hx⟩
theorem Out.from {m : Nat} {t t' : GT} {w w1 w' : World} (hg : w.grownBy w1 none) (h : Out m t t' w1 w') : Out m t t' w w' :=
  ⟨h.at_, h.ok, h.b, (Kept.of_none hg _).trans h.kept, fun x hx => by
    rcases h.sub x hx with h1 | h1
    · exact Or.inl h1
    · exact Or.inr (Nat.le_trans hg.size h1)⟩
theorem Out.to {m : Nat} {t t' : GT} {w w1 w' : World} (h : Out m t t' w w1) (hg : w1.grownBy w' none) : Out m t t' w w' :=
  ⟨h.at_.gb hg, h.ok, h.b, h.kept.trans (Kept.of_none hg _), h.sub⟩

theorem B_self (s : ByteArray) : B s.data.toList = s := by
  apply ByteArray.ext
  simp [B]
theorem data_B (l : List UInt8) : (B l).data.toList = l := by simp [B]

def FamOut (T : List Fam) (nm : List UInt8) (kind : Int) (xs : List Int) (code : Int) (T' : List Fam) : Prop :=
  (isNameB nm = false ∧ code = 2 ∧ T' = T) ∨
  (isNameB nm = true ∧ fitB kind xs = false ∧ code = 4 ∧ T' = T) ∨
  (isNameB nm = true ∧ fitB kind xs = true ∧ (∃ f ∈ T, f.nm = nm ∧ code = remP kind f.kind xs f.ls) ∧ T' = T) ∨
  (isNameB nm = true ∧ fitB kind xs = true ∧ (∀ f ∈ T, f.nm ≠ nm) ∧ 8 ≤ T.length ∧ code = 7 ∧ T' = T) ∨
  (isNameB nm = true ∧ fitB kind xs = true ∧ (∀ f ∈ T, f.nm ≠ nm) ∧ T.length < 8 ∧ code = 0 ∧ ∃ C D, T = C ++ D ∧ T' = C ++ ⟨nm, kind, xs, []⟩ :: D)

theorem fit_facts {kind : Int} {xs : List Int} (h : fitB kind xs = true) : (kind = 1 ∨ kind = 2 ∨ kind = 3) ∧ xs.length ≤ 4 ∧ KSrt ltI xs := by
  unfold fitB at h
  split at h
  · rename_i hk
    have e : xs = [] := of_decide_eq_true h
    subst e
    refine ⟨?_, by simp, List.Pairwise.nil⟩
    rcases hk with h | h
    · exact Or.inl h
    · exact Or.inr (Or.inl h)
  · split at h
    · rename_i hk
      simp only [Bool.and_eq_true, decide_eq_true_eq] at h
      exact ⟨Or.inr (Or.inr hk), h.1.2, (riseB_iff xs).1 h.2.1⟩
    · cases h
theorem isName_len {l : List UInt8} (h : isNameB l = true) : l.length ≤ 12 := by
  simp only [isNameB, Bool.and_eq_true, decide_eq_true_eq] at h
  have := nameLen_12 0 l (by omega)
  omega

/-- The board with one family more. -/
theorem made_out {m : Nat} {t : GT} {w w1 w4 : World} (h : GT.At w t) (ho : GT.Ok m t) (nm : List UInt8) (kind : Int) (xs : List Int) (hname : isNameB nm = true) (hfit : fitB kind xs = true) (hno : ∀ g ∈ t.fams, g.nm ≠ nm) (h8 : t.fams.length < 8)
    (f : Nat) (lv : Value) (hf : w.heap.size ≤ f) (hfb : w1.heap[f]? = some (famObj nm kind lv (.slice none 0 0))) (hlv : w1.ownsRow w.heap.size 3 1 lv xs.length (ints xs)) (g1 : w.grownBy w1 none)
    (nb cap : Nat) (hnb : w1.heap.size ≤ nb) (g4 : w1.grownBy w4 none)
    (hrow : w4.ownsRow nb 103 1 (.slice (some ⟨nb, 0, none⟩) (t.fams.length + 1) cap) (t.fams.length + 1) (ptrs (kins (t.fams.map GF.b) (kplace lt nm (t.fams.map GF.nm)) f))) :
    Out m t { t with fv := .slice (some ⟨nb, 0, none⟩) (t.fams.length + 1) cap, fams := kins t.fams (kplace lt nm (t.fams.map GF.nm)) ⟨f, nm, kind, lv, xs, .slice none 0 0, []⟩ } w (w4.setCell ⟨t.b, 0, none⟩ (.slice (some ⟨nb, 0, none⟩) (t.fams.length + 1) cap)) := by
  have g14 := gb_trans g1 g4
  have htl := lt_of h.blk
  have hfl := lt_of hfb
  obtain ⟨hk, hx4, hxs⟩ := fit_facts hfit
  obtain ⟨i, hi⟩ : ∃ i, kplace lt nm (t.fams.map GF.nm) = i := ⟨_, rfl⟩
  have hil : i ≤ t.fams.length := by rw [← hi]; have := kplace_le lt nm (t.fams.map GF.nm); simpa using this
  have hnf : kfnd lt nm (t.fams.map GF.nm) = false := by
    cases hq : kfnd lt nm (t.fams.map GF.nm) with
    | false => rfl
    | true =>
      have := (kfnd_iff ltB nm _ ho.srt).1 hq
      rw [List.mem_map] at this
      obtain ⟨g, hg, e⟩ := this
      exact absurd e (hno g hg)
  have hsrt := ksrt_ins ltB _ _ ho.srt hnf
  rw [hi] at hrow hsrt ⊢
  have h4b : (w4.setCell ⟨t.b, 0, none⟩ (.slice (some ⟨nb, 0, none⟩) (t.fams.length + 1) cap)).heap[t.b]? = some (.cells #[.slice (some ⟨nb, 0, none⟩) (t.fams.length + 1) cap] 80) := by
    rw [text_set ((g14.block t.b htl (by simp)).trans h.blk)]; rfl
  have hsame : ∀ b, b < w.heap.size → b ≠ t.b → (w4.setCell ⟨t.b, 0, none⟩ (.slice (some ⟨nb, 0, none⟩) (t.fams.length + 1) cap)).heap[b]? = w.heap[b]? := fun b hb hne => by
    rw [Below.heap_setCell _ _ _ _ (by show b ≠ t.b; exact hne)]; exact g14.block b hb (by simp)
  have hsame1 : ∀ b, w.heap.size ≤ b → b < w1.heap.size → (w4.setCell ⟨t.b, 0, none⟩ (.slice (some ⟨nb, 0, none⟩) (t.fams.length + 1) cap)).heap[b]? = w1.heap[b]? := fun b hb hb1 => by
    rw [Below.heap_setCell _ _ _ _ (by show b ≠ t.b; omega)]; exact g4.block b hb1 (by simp)
  have hnd := h.nodup
  have htb : ∀ g ∈ t.fams, ∀ b ∈ g.own, b ≠ t.b := by
    intro g hg b hb e
    unfold GT.own at hnd
    rw [List.nodup_cons] at hnd
    exact hnd.1 (by rw [← e]; simp only [List.mem_append, List.mem_flatMap]; exact Or.inr ⟨g, hg, hb⟩)
  have hlvlt : ∀ b ∈ lv.ownBlock.toList, w.heap.size ≤ b ∧ b < w1.heap.size := fun b hb => by
    have hb' : lv.ownBlock = some b := by simpa using hb
    exact ⟨(hlv.lt b hb').1, (hlv.lt b hb').2⟩
  have hflv : ∀ b ∈ lv.ownBlock.toList, b ≠ f := by
    intro b hb e
    have hb' : lv.ownBlock = some b := by simpa using hb
    rcases hlv.2 with ⟨e1, _⟩ | ⟨g', cap', cur, e1, _, e2, _⟩
    · rw [e1] at hb'; cases hb'
    · rw [e1] at hb'
      have : g' = b := by simpa [Value.ownBlock] using hb'
      rw [this, e, hfb] at e2
      simp [famObj] at e2
  have hGown : (⟨f, nm, kind, lv, xs, .slice none 0 0, []⟩ : GF).own = f :: lv.ownBlock.toList := by simp [GF.own, Value.ownBlock]
  have hGnd : (⟨f, nm, kind, lv, xs, .slice none 0 0, []⟩ : GF).own.Nodup := by
    rw [hGown, List.nodup_cons]
    refine ⟨fun hm => hflv f hm rfl, ?_⟩
    cases lv.ownBlock <;> simp
  have hGok : GF.Ok m (⟨f, nm, kind, lv, xs, .slice none 0 0, []⟩ : GF) := ⟨hk, ⟨hx4, hxs⟩, List.Pairwise.nil, by simp, by simp, hGnd⟩
  have hGat : GF.At (w4.setCell ⟨t.b, 0, none⟩ (.slice (some ⟨nb, 0, none⟩) (t.fams.length + 1) cap)) (⟨f, nm, kind, lv, xs, .slice none 0 0, []⟩ : GF) := by
    refine ⟨(hsame1 f hf hfl).trans hfb, own_base0 (own_frame hlv fun b hb => hsame1 b (hlvlt b hb).1 (hlvlt b hb).2), ?_, by simp⟩
    exact ⟨rfl, Or.inl ⟨rfl, rfl⟩⟩
  have hfl2 : t.fams.flatMap GF.own = (t.fams.take i).flatMap GF.own ++ (t.fams.drop i).flatMap GF.own := by
    rw [← List.flatMap_append, List.take_append_drop]
  have hlt := h.lt
  refine ⟨⟨h4b, ?_, ?_, ?_⟩, ⟨?_, ?_, ?_, ?_, ?_⟩, rfl, ?_, ?_⟩
  · have hr := own_base0 (own_frame hrow (w' := w4.setCell ⟨t.b, 0, none⟩ (.slice (some ⟨nb, 0, none⟩) (t.fams.length + 1) cap)) (fun b hb => by
      have hb' : b = nb := by simpa [Value.ownBlock] using hb
      rw [hb', Below.heap_setCell _ _ _ _ (by show nb ≠ t.b; have := g1.size; omega)]))
    have e3 : (kins t.fams i (⟨f, nm, kind, lv, xs, .slice none 0 0, []⟩ : GF)).length = t.fams.length + 1 := kins_len _ _ _ hil
    rw [← kins_map GF.b t.fams i (⟨f, nm, kind, lv, xs, .slice none 0 0, []⟩ : GF), ← e3] at hr
    rw [← e3]
    exact hr
  · intro g hg
    rcases kins_mem hg with rfl | hg
    · exact hGat
    · exact (h.each g hg).frame fun b hb => hsame b ((h.each g hg).lt b hb) (htb g hg b hb)
  · have e1 : ({ t with fv := .slice (some ⟨nb, 0, none⟩) (t.fams.length + 1) cap, fams := kins t.fams i ⟨f, nm, kind, lv, xs, .slice none 0 0, []⟩ } : GT).own = [t.b] ++ ([nb] ++ ((t.fams.take i).flatMap GF.own ++ ((⟨f, nm, kind, lv, xs, .slice none 0 0, []⟩ : GF).own ++ (t.fams.drop i).flatMap GF.own))) := by
      simp [GT.own, kins, Value.ownBlock]
    have e0 : t.own = (t.b :: (t.fv.ownBlock.toList ++ (t.fams.take i).flatMap GF.own)) ++ ([] ++ (t.fams.drop i).flatMap GF.own) := by
      simp only [GT.own, hfl2]; simp
    have hn1 := hnd
    rw [e0] at hn1
    have hold : ∀ b ∈ (t.b :: (t.fv.ownBlock.toList ++ (t.fams.take i).flatMap GF.own)) ++ (t.fams.drop i).flatMap GF.own, b < w.heap.size := fun b hb => hlt b (by rw [e0]; simpa using hb)
    have hGge : ∀ b ∈ (⟨f, nm, kind, lv, xs, .slice none 0 0, []⟩ : GF).own, b ∈ ([] : List Nat) ∨ w.heap.size ≤ b := fun b hb => by
      rw [hGown, List.mem_cons] at hb
      rcases hb with rfl | hb
      · exact Or.inr hf
      · exact Or.inr (hlvlt b hb).1
    have hn2 := nodup_swap hn1 hGnd hGge hold
    have e2 : (t.b :: (t.fv.ownBlock.toList ++ (t.fams.take i).flatMap GF.own)) ++ ((⟨f, nm, kind, lv, xs, .slice none 0 0, []⟩ : GF).own ++ (t.fams.drop i).flatMap GF.own) = [t.b] ++ (t.fv.ownBlock.toList ++ ((t.fams.take i).flatMap GF.own ++ ((⟨f, nm, kind, lv, xs, .slice none 0 0, []⟩ : GF).own ++ (t.fams.drop i).flatMap GF.own))) := by simp
    rw [e2] at hn2
    rw [e1]
    refine nodup_swap (n := nb) hn2 (by simp) (fun b hb => Or.inr (by simp at hb; omega)) (fun b hb => ?_)
    have hsz := g1.size
    simp only [List.mem_append] at hb
    have hold' : ∀ b, (b ∈ [t.b] ∨ b ∈ (t.fams.take i).flatMap GF.own ∨ b ∈ (t.fams.drop i).flatMap GF.own) → b < nb := fun b hb => by
      have : b < w.heap.size := hold b (by
        simp only [List.mem_append, List.mem_cons]
        rcases hb with hb | hb | hb
        · simp at hb; exact Or.inl (Or.inl hb)
        · exact Or.inl (Or.inr (Or.inr hb))
        · exact Or.inr hb)
      omega
    rcases hb with hb | hb | hb | hb
    · exact hold' b (Or.inl hb)
    · exact hold' b (Or.inr (Or.inl hb))
    · rw [hGown, List.mem_cons] at hb
      rcases hb with rfl | hb
      · omega
      · have := (hlvlt b hb).2; omega
    · exact hold' b (Or.inr (Or.inr hb))
  · show KSrt lt ((kins t.fams i _).map GF.nm)
    rw [kins_map]; exact hsrt
  · show (kins t.fams i _).length ≤ 8
    rw [kins_len _ _ _ hil]; omega
  · intro g hg
    rcases kins_mem hg with rfl | hg
    · exact hGok
    · exact ho.each g hg
  · intro g hg
    rcases kins_mem hg with rfl | hg
    · exact isName_len hname
    · exact ho.names g hg
  · show ((kins t.fams i _).map fun g => g.ser.length).sum ≤ 24
    have := ho.total
    rw [← List.take_append_drop i t.fams] at this
    simp only [kins, List.map_append, List.map_cons, List.sum_append, List.sum_cons] at this ⊢
    simpa using this
  · refine ⟨g14.os, g14.tape, g14.output, by simpa using g14.size, fun k hk hn => hsame k hk (fun e => hn (by rw [e]; simp [GT.own]))⟩
  · intro b hb
    simp only [GT.own, kins, Value.ownBlock, Option.toList_some, List.mem_cons, List.mem_append, List.not_mem_nil, or_false, List.flatMap_append, List.flatMap_cons] at hb ⊢
    rcases hb with hb | hb | hb | hb | hb
    · exact Or.inl (Or.inl hb)
    · have := g1.size; exact Or.inr (by omega)
    · exact Or.inl (Or.inr (Or.inr (by rw [hfl2]; simp only [List.mem_append]; exact Or.inl hb)))
    · rw [hGown, List.mem_cons] at hb
      rcases hb with rfl | hb
      · exact Or.inr hf
      · exact Or.inr (hlvlt b hb).1
    · exact Or.inl (Or.inr (Or.inr (by rw [hfl2]; simp only [List.mem_append]; exact Or.inr hb)))

end Go.Proofs.YtecmkooiaghgcaaGreatDoor
