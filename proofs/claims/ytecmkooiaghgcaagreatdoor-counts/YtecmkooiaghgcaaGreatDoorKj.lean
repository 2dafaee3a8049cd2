/-
  The board's memory: which blocks it owns, and that a call which turns nothing else leaves the rest as it was.
-/
import Derived.Test.YtecmkooiaghgcaaGreatDoorKi

namespace Go.Proofs.YtecmkooiaghgcaaGreatDoor
open Go.RowKit

/-- The blocks of L alone may have turned; new ones may have come. -/
structure Kept (L : List Nat) (w w' : World) : Prop where
  os : w'.os = w.os
  tape : w'.tape = w.tape
  output : w'.output = w.output
  size : w.heap.size ≤ w'.heap.size
  block : ∀ k, k < w.heap.size → k ∉ L → w'.heap[k]? = w.heap[k]?
theorem Kept.refl (L : List Nat) (w : World) : Kept L w w := ⟨rfl, rfl, rfl, Nat.le_refl _, fun _ _ _ => rfl⟩
theorem Kept.of_none {w w' : World} (h : w.grownBy w' none) (L : List Nat) : Kept L w w' := ⟨h.os, h.tape, h.output, h.size, fun k hk _ => h.block k hk (by simp)⟩
theorem Kept.of_some {w w' : World} {b : Nat} (h : w.grownBy w' (some b)) (L : List Nat) (hb : b ∈ L ∨ w.heap.size ≤ b) : Kept L w w' :=
  ⟨h.os, h.tape, h.output, h.size, fun k hk hn => h.block k hk (fun e => by
    have e' : k = b := by simpa using e
    rcases hb with hb | hb
    · exact hn (by rw [e']; exact hb)
    · omega)⟩
theorem Kept.trans {L : List Nat} {a b c : World} (h : Kept L a b) (k : Kept L b c) : Kept L a c :=
  ⟨k.os.trans h.os, k.tape.trans h.tape, k.output.trans h.output, Nat.le_trans h.size k.size, fun i hi hn => (k.block i (Nat.lt_of_lt_of_le hi h.size) hn).trans (h.block i hi hn)⟩
theorem Kept.mono {L M : List Nat} {w w' : World} (h : Kept L w w') (hs : ∀ b ∈ L, b ∈ M ∨ w.heap.size ≤ b) : Kept M w w' :=
  ⟨h.os, h.tape, h.output, h.size, fun k hk hn => h.block k hk (fun hl => by
    rcases hs k hl with h1 | h1
    · exact hn h1
    · omega)⟩

theorem own_lt {w : World} {base : Nat} {e : TypeId} {s : Nat} {v : Value} {n : Nat} {xs : List Value} (h : w.ownsRow base e s v n xs) : ∀ b ∈ v.ownBlock.toList, b < w.heap.size := by
  intro b hb
  have hb' : v.ownBlock = some b := by simpa using hb
  exact (h.lt b hb').2
theorem own_frame {w w' : World} {base : Nat} {e : TypeId} {s : Nat} {v : Value} {n : Nat} {xs : List Value} (h : w.ownsRow base e s v n xs) (hk : ∀ b ∈ v.ownBlock.toList, w'.heap[b]? = w.heap[b]?) : w'.ownsRow base e s v n xs := by
  refine ⟨h.1, ?_⟩
  rcases h.2 with h2 | ⟨g, cap, cur, rfl, hb, hg, rest⟩
  · exact Or.inl h2
  · exact Or.inr ⟨g, cap, cur, rfl, hb, (hk g (by simp [Value.ownBlock])).trans hg, rest⟩
theorem own_base0 {w : World} {base : Nat} {e : TypeId} {s : Nat} {v : Value} {n : Nat} {xs : List Value} (h : w.ownsRow base e s v n xs) : w.ownsRow 0 e s v n xs := own_mono h (Nat.zero_le _)

/-- A series in its block. -/
structure GC where
  b : Nat
  x : Cnt
/-- A family in its block, its rows. -/
structure GF where
  b : Nat
  nm : List UInt8
  kind : Int
  lv : Value
  ls : List Int
  sv : Value
  ser : List GC
/-- A board in its block. -/
structure GT where
  b : Nat
  fv : Value
  fams : List GF

def GF.own (g : GF) : List Nat := g.b :: (g.lv.ownBlock.toList ++ (g.sv.ownBlock.toList ++ g.ser.map GC.b))
structure GF.At (w : World) (g : GF) : Prop where
  blk : w.heap[g.b]? = some (famObj g.nm g.kind g.lv g.sv)
  lims : w.ownsRow 0 3 1 g.lv g.ls.length (ints g.ls)
  rows : w.ownsRow 0 115 1 g.sv g.ser.length (ptrs (g.ser.map GC.b))
  cnts : ∀ c ∈ g.ser, w.heap[c.b]? = some (cntObj c.x)
def GT.own (t : GT) : List Nat := t.b :: (t.fv.ownBlock.toList ++ t.fams.flatMap GF.own)
structure GT.At (w : World) (t : GT) : Prop where
  blk : w.heap[t.b]? = some (.cells #[t.fv] 80)
  rows : w.ownsRow 0 103 1 t.fv t.fams.length (ptrs (t.fams.map GF.b))
  each : ∀ g ∈ t.fams, GF.At w g
  nodup : t.own.Nodup

theorem GF.At.lt {w : World} {g : GF} (h : GF.At w g) : ∀ b ∈ g.own, b < w.heap.size := by
  intro b hb
  simp only [GF.own, List.mem_cons, List.mem_append, List.mem_map] at hb
  rcases hb with rfl | hb | hb | ⟨c, hc, rfl⟩
  · exact lt_of h.blk
  · exact own_lt h.lims b hb
  · exact own_lt h.rows b hb
  · exact lt_of (h.cnts c hc)
theorem GF.At.frame {w w' : World} {g : GF} (h : GF.At w g) (hk : ∀ b ∈ g.own, w'.heap[b]? = w.heap[b]?) : GF.At w' g := by
  refine ⟨(hk _ (by simp [GF.own])).trans h.blk, own_frame h.lims fun b hb => hk b ?_, own_frame h.rows fun b hb => hk b ?_, fun c hc => (hk _ ?_).trans (h.cnts c hc)⟩
  · simp only [GF.own, List.mem_cons, List.mem_append]; exact Or.inr (Or.inl hb)
  · simp only [GF.own, List.mem_cons, List.mem_append]; exact Or.inr (Or.inr (Or.inl hb))
  · simp only [GF.own, List.mem_cons, List.mem_append, List.mem_map]; exact Or.inr (Or.inr (Or.inr ⟨c, hc, rfl⟩))
theorem GT.At.lt {w : World} {t : GT} (h : GT.At w t) : ∀ b ∈ t.own, b < w.heap.size := by
  intro b hb
  simp only [GT.own, List.mem_cons, List.mem_append, List.mem_flatMap] at hb
  rcases hb with rfl | hb | ⟨g, hg, hb⟩
  · exact lt_of h.blk
  · exact own_lt h.rows b hb
  · exact (h.each g hg).lt b hb
theorem GT.At.frame {w w' : World} {t : GT} (h : GT.At w t) (hk : ∀ b ∈ t.own, w'.heap[b]? = w.heap[b]?) : GT.At w' t := by
  refine ⟨(hk _ (by simp [GT.own])).trans h.blk, own_frame h.rows fun b hb => hk b ?_, fun g hg => (h.each g hg).frame fun b hb => hk b ?_, h.nodup⟩
  · simp only [GT.own, List.mem_cons, List.mem_append]; exact Or.inr (Or.inl hb)
  · simp only [GT.own, List.mem_cons, List.mem_append, List.mem_flatMap]; exact Or.inr (Or.inr ⟨g, hg, hb⟩)
theorem GT.At.kept {w w' : World} {t : GT} {L : List Nat} (h : GT.At w t) (hk : Kept L w w') (hd : ∀ b ∈ t.own, b ∉ L) : GT.At w' t :=
  h.frame fun b hb => hk.block b (h.lt b hb) (hd b hb)

theorem nodup_swap {P G S G' : List Nat} {n : Nat} (h : (P ++ (G ++ S)).Nodup) (hg : G'.Nodup) (hs : ∀ b ∈ G', b ∈ G ∨ n ≤ b) (hl : ∀ b ∈ P ++ S, b < n) : (P ++ (G' ++ S)).Nodup := by
  simp only [List.nodup_append, List.mem_append] at h hl ⊢
  obtain ⟨h1, ⟨h2, h3, h4⟩, h5⟩ := h
  refine ⟨h1, ⟨hg, h3, fun a ha b hb e => ?_⟩, fun a ha b hb e => ?_⟩
  · subst e
    rcases hs a ha with h | h
    · exact h4 a h a hb rfl
    · have := hl a (Or.inr hb); omega
  · subst e
    rcases hb with hb | hb
    · rcases hs a hb with h | h
      · exact h5 a ha a (Or.inl h) rfl
      · have := hl a (Or.inl ha); omega
    · exact h5 a ha a (Or.inr hb) rfl

/-- One family is turned: the board stands, with that family turned. -/
theorem GT.upd {t : GT} {w w' : World} (h : GT.At w t) {A B : List GF} {g g' : GF} (e : t.fams = A ++ g :: B) (hb : g'.b = g.b) (hat : GF.At w' g') (hk : Kept g.own w w') (hsub : ∀ b ∈ g'.own, b ∈ g.own ∨ w.heap.size ≤ b) (hnd : g'.own.Nodup) :
    GT.At w' { t with fams := A ++ g' :: B } ∧ Kept t.own w w' ∧ (∀ b ∈ ({ t with fams := A ++ g' :: B } : GT).own, b ∈ t.own ∨ w.heap.size ≤ b) := by
  have eo : t.own = (t.b :: (t.fv.ownBlock.toList ++ A.flatMap GF.own)) ++ (g.own ++ B.flatMap GF.own) := by simp [GT.own, e]
  have eo' : ({ t with fams := A ++ g' :: B } : GT).own = (t.b :: (t.fv.ownBlock.toList ++ A.flatMap GF.own)) ++ (g'.own ++ B.flatMap GF.own) := by simp [GT.own]
  have hnd0 := h.nodup
  rw [eo] at hnd0
  have hlt : ∀ b ∈ (t.b :: (t.fv.ownBlock.toList ++ A.flatMap GF.own)) ++ B.flatMap GF.own, b < w.heap.size := by
    intro b hb
    refine h.lt b ?_
    rw [eo]
    simp only [List.mem_append] at hb ⊢
    rcases hb with hb | hb
    · exact Or.inl hb
    · exact Or.inr (Or.inr hb)
  have hdis : ∀ b ∈ (t.b :: (t.fv.ownBlock.toList ++ A.flatMap GF.own)) ++ B.flatMap GF.own, b ∉ g.own := by
    intro b hb hg
    simp only [List.nodup_append, List.mem_append] at hnd0 hb
    rcases hb with hb | hb
    · exact hnd0.2.2 b (by simpa using hb) b (Or.inl hg) rfl
    · exact hnd0.2.1.2.2 b hg b hb rfl
  have hsame : ∀ b ∈ (t.b :: (t.fv.ownBlock.toList ++ A.flatMap GF.own)) ++ B.flatMap GF.own, w'.heap[b]? = w.heap[b]? := fun b hb => hk.block b (hlt b hb) (hdis b hb)
  refine ⟨⟨?_, ?_, ?_, ?_⟩, ?_, ?_⟩
  · exact (hsame t.b (by simp)).trans h.blk
  · have hr := own_frame h.rows (w' := w') (fun b hb => hsame b (by simp only [List.mem_append, List.mem_cons]; exact Or.inl (Or.inr (Or.inl hb))))
    rw [e] at hr
    simpa [hb] using hr
  · intro k hk2
    simp only [List.mem_append, List.mem_cons] at hk2
    rcases hk2 with hk2 | rfl | hk2
    · exact (h.each k (by rw [e]; simp [hk2])).frame fun b hb => hsame b (by simp only [List.mem_append, List.mem_cons, List.mem_flatMap]; exact Or.inl (Or.inr (Or.inr ⟨k, hk2, hb⟩)))
    · exact hat
    · exact (h.each k (by rw [e]; simp [hk2])).frame fun b hb => hsame b (by simp only [List.mem_append, List.mem_flatMap]; exact Or.inr ⟨k, hk2, hb⟩)
  · rw [eo']; exact nodup_swap hnd0 hnd hsub hlt
  · exact hk.mono fun b hb => Or.inl (by rw [eo]; simp only [List.mem_append]; exact Or.inr (Or.inl hb))
  · intro b hb
    rw [eo'] at hb
    rw [eo]
    simp only [List.mem_append] at hb ⊢
    rcases hb with hb | hb | hb
    · exact Or.inl (Or.inl hb)
    · rcases hsub b hb with h1 | h1
      · exact Or.inl (Or.inr (Or.inl h1))
      · exact Or.inr h1
    · exact Or.inl (Or.inr (Or.inr hb))

theorem keyedF {w : World} {t : GT} (h : GT.At w t) : Keyed w (t.fams.map GF.b) (t.fams.map GF.nm) := by
  refine ⟨by simp, fun k hk hk' => ?_⟩
  simp only [List.length_map] at hk
  simp only [List.getElem_map]
  exact (fam_cells (h.each _ (List.getElem_mem hk)).blk).1
theorem keyedC {w : World} {g : GF} (h : GF.At w g) : Keyed w (g.ser.map GC.b) (g.ser.map fun c => c.x.plain) := by
  refine ⟨by simp, fun k hk hk' => ?_⟩
  simp only [List.length_map] at hk
  simp only [List.getElem_map]
  exact (cnt_cells (h.cnts _ (List.getElem_mem hk))).1

theorem split_at {α : Type} (l : List α) (i : Nat) (h : i < l.length) : l = l.take i ++ l[i] :: l.drop (i + 1) := by
  rw [← List.drop_eq_getElem_cons h, List.take_append_drop]

end Go.Proofs.YtecmkooiaghgcaaGreatDoor
