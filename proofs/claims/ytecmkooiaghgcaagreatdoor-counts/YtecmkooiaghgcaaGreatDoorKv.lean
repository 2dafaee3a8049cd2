/-
  The document's board: a series more; a number more to a series; a series less.
-/
import Derived.Test.YtecmkooiaghgcaaGreatDoorKu

namespace Go.Proofs.YtecmkooiaghgcaaGreatDoor
open Go.RowKit

theorem flat_len3 {α : Type} (f : α → List Value) (hf : ∀ x, (f x).length = 3) (xs : List α) : (xs.flatMap f).length = xs.length * 3 := by
  induction xs with
  | nil => rfl
  | cons x xs ih => rw [List.flatMap_cons, List.length_append, hf, ih, List.length_cons]; omega
theorem flat_set {α : Type} (f : α → List Value) (hf : ∀ x, (f x).length = 3) (A B' : List α) (x y : α) (v : Value) (hy : f y = (f x).set 2 v) : ((A ++ x :: B').flatMap f).set (A.length * 3 + 2) v = (A ++ y :: B').flatMap f := by
  rw [List.flatMap_append, List.flatMap_append, List.flatMap_cons, List.flatMap_cons, List.set_append, if_neg (by rw [flat_len3 f hf]; omega), flat_len3 f hf, show A.length * 3 + 2 - A.length * 3 = 2 from by omega, List.set_append, if_pos (by rw [hf]; omega), hy]

theorem rset_out {m : Nat} {r : RB} {w wa w2 : World} (h : RB.At w r) (ho : RB.Ok m r) (A B' : List RS) (x : RS) (e : r.ser = A ++ x :: B') (n : Int) (g1 : w.grownBy wa none) (nv' : Value) (g2 : wa.grownBy w2 x.nv.ownBlock)
    (hnv : w2.ownsRow 0 3 1 nv' (x.ns.length + 1) (ints (x.ns ++ [n]))) (hft : nv'.ownBlock = x.nv.ownBlock ∨ nv'.ownBlock = some wa.heap.size) (ga sc : Nat) (hsv : r.sv = .slice (some ⟨ga, 0, none⟩) r.ser.length sc) :
    ROut (m + 1) r { r with ser := A ++ { x with nv := nv', ns := x.ns ++ [n] } :: B' } w (w2.setCell ⟨ga, A.length * 3 + 2, none⟩ nv') := by
  obtain ⟨n1, n2, n3, n4⟩ := rb_nodup h.nodup
  have hxm : x ∈ r.ser := by rw [e]; simp
  have hlt := h.lt
  have hgs : ga ∈ r.sv.ownBlock.toList := by rw [hsv]; simp [Value.ownBlock]
  have hgal : ga < w.heap.size := own_lt h.srows ga hgs
  have hnotnv : ∀ b, b < w.heap.size → b ∉ x.nv.ownBlock.toList → w2.heap[b]? = w.heap[b]? := fun b hb hn => by
    rw [g2.block b (by have := g1.size; omega) (fun e => hn (by rw [← e]; simp)), g1.block b hb (by simp)]
  have hsame : ∀ b, b < w.heap.size → b ≠ ga → b ∉ x.nv.ownBlock.toList → (w2.setCell ⟨ga, A.length * 3 + 2, none⟩ nv').heap[b]? = w.heap[b]? := fun b hb hne hn => by
    rw [Below.heap_setCell _ _ _ _ (by show b ≠ ga; exact hne)]; exact hnotnv b hb hn
  have hn := h.nodup
  have e0 : r.own = (r.b :: (r.fv.ownBlock.toList ++ (r.sv.ownBlock.toList ++ (r.fams.flatMap (fun f => f.lv.ownBlock.toList) ++ A.flatMap (fun x => x.nv.ownBlock.toList))))) ++ (x.nv.ownBlock.toList ++ B'.flatMap (fun x => x.nv.ownBlock.toList)) := by simp [RB.own, e]
  have hn0 := hn
  rw [e0] at hn0
  have hxx : ∀ y, y ∈ A ∨ y ∈ B' → ∀ b ∈ y.nv.ownBlock.toList, b ∉ x.nv.ownBlock.toList := by
    intro y hy b hb hx
    simp only [List.nodup_append, List.mem_append, List.mem_flatMap, List.mem_cons] at hn0
    rcases hy with hy | hy
    · exact hn0.2.2 b (Or.inr (Or.inr (Or.inr (Or.inr ⟨y, hy, hb⟩)))) b (Or.inl hx) rfl
    · exact hn0.2.1.2.2 b hx b ⟨y, hy, hb⟩ rfl
  have hnv'ne : ∀ b ∈ nv'.ownBlock.toList, b ≠ ga := fun b hb => by
    rcases hft with e | e
    · rw [e] at hb
      intro e2
      exact (n4 x hxm b hb).2.2.1 (by rw [e2]; exact hgs)
    · rw [e] at hb
      have : b = wa.heap.size := by simpa using hb
      have := g1.size; omega
  obtain ⟨cur, hcur, hnc, hcm, hcs, htake⟩ : ∃ cur, w.heap[ga]? = some (.cells cur 85) ∧ r.ser.length ≤ sc ∧ sc ≤ maxLen ∧ cur.size = sc * 3 ∧ cur.toList.take (r.ser.length * 3) = r.ser.flatMap rsCells := by
    have hr := h.srows
    rw [hsv] at hr
    rcases hr.2 with ⟨h1, _⟩ | ⟨g', cap', cur, h1, h2, h3, h4, h5, h6, h7⟩
    · simp at h1
    · simp at h1; obtain ⟨rfl, rfl⟩ := h1; exact ⟨cur, h3, h4, h5, h6, h7⟩
  have h2ga : w2.heap[ga]? = some (.cells cur 85) := (hnotnv ga hgal (fun hm => (n4 x hxm ga hm).2.2.1 hgs)).trans hcur
  have hset := text_set (o := A.length * 3 + 2) h2ga nv'
  have hlen : (A ++ ({ x with nv := nv', ns := x.ns ++ [n] } : RS) :: B').length = r.ser.length := by rw [e]; simp
  have hAl : A.length < r.ser.length := by rw [e]; simp
  refine ⟨⟨?_, ?_, ?_, ?_, ?_, ?_⟩, ⟨ho.flen, ?_, ?_, ho.flim⟩, rfl, rfl, ?_, ?_⟩
  · exact (hsame r.b (lt_of h.blk) (fun e => (n2 ga hgs).1 e.symm) (fun hm => (n4 x hxm _ hm).1 rfl)).trans h.blk
  · exact own_frame h.frows fun b hb => hsame b (own_lt h.frows b hb) (fun e => (n2 ga hgs).2 (by rw [← e]; exact hb)) (fun hm => (n4 x hxm _ hm).2.1 hb)
  · show World.ownsRow _ 0 85 3 r.sv (A ++ ({ x with nv := nv', ns := x.ns ++ [n] } : RS) :: B').length _
    rw [hlen, hsv]
    refine ⟨?_, Or.inr ⟨ga, sc, cur.setIfInBounds (A.length * 3 + 2) nv', rfl, Nat.zero_le _, hset, hnc, hcm, by simpa using hcs, ?_⟩⟩
    · rw [flat_len3 rsCells (fun _ => rfl), hlen]
    · rw [Array.toList_setIfInBounds, List.take_set, htake, e]
      exact flat_set rsCells (fun _ => rfl) A B' x _ nv' rfl
  · intro f hf
    exact own_frame (h.lims f hf) fun b hb => hsame b (own_lt (h.lims f hf) b hb) (fun e => (n3 f hf b hb).2.2 (by rw [e]; exact hgs)) (fun hm => (n4 x hxm b hm).2.2.2 f hf hb)
  · intro y hy
    simp only [List.mem_append, List.mem_cons] at hy
    have hold : ∀ y, y ∈ A ∨ y ∈ B' → World.ownsRow (w2.setCell ⟨ga, A.length * 3 + 2, none⟩ nv') 0 3 1 y.nv y.ns.length (ints y.ns) := fun y hy => by
      have hym : y ∈ r.ser := by
        rw [e]; simp only [List.mem_append, List.mem_cons]
        rcases hy with hy | hy
        · exact Or.inl hy
        · exact Or.inr (Or.inr hy)
      exact own_frame (h.nums y hym) fun b hb => hsame b (own_lt (h.nums y hym) b hb) (fun e => (n4 y hym b hb).2.2.1 (by rw [e]; exact hgs)) (hxx y hy b hb)
    rcases hy with hy | rfl | hy
    · exact hold y (Or.inl hy)
    · have := own_frame hnv (w' := w2.setCell ⟨ga, A.length * 3 + 2, none⟩ nv') (fun b hb => by rw [Below.heap_setCell _ _ _ _ (by show b ≠ ga; exact hnv'ne b hb)])
      simpa using this
    · exact hold y (Or.inr hy)
  · have e2 : ({ r with ser := A ++ { x with nv := nv', ns := x.ns ++ [n] } :: B' } : RB).own = (r.b :: (r.fv.ownBlock.toList ++ (r.sv.ownBlock.toList ++ (r.fams.flatMap (fun f => f.lv.ownBlock.toList) ++ A.flatMap (fun x => x.nv.ownBlock.toList))))) ++ (nv'.ownBlock.toList ++ B'.flatMap (fun x => x.nv.ownBlock.toList)) := by simp [RB.own]
    rw [e2]
    refine nodup_swap (n := wa.heap.size) hn0 (opt_nodup _) (fun b hb => ?_) (fun b hb => ?_)
    · rcases hft with e | e
      · rw [e] at hb; exact Or.inl hb
      · rw [e] at hb
        have : b = wa.heap.size := by simpa using hb
        exact Or.inr (by omega)
    · have hb' : b ∈ r.own := by
        rw [e0]
        simp only [List.mem_append] at hb ⊢
        rcases hb with hb | hb
        · exact Or.inl hb
        · exact Or.inr (Or.inr hb)
      have := hlt b hb'
      have := g1.size
      omega
  · show (A ++ ({ x with nv := nv', ns := x.ns ++ [n] } : RS) :: B').length ≤ 24
    rw [hlen]; exact ho.slen
  · intro y hy
    simp only [List.mem_append, List.mem_cons] at hy
    rcases hy with hy | rfl | hy
    · have := ho.each y (by rw [e]; simp [hy]); omega
    · have := ho.each x hxm; simp; omega
    · have := ho.each y (by rw [e]; simp [hy]); omega
  · refine ⟨g2.os.trans g1.os, g2.tape.trans g1.tape, g2.output.trans g1.output, ?_, fun k hk hn => hsame k hk (fun e => hn (by rw [e]; simp only [RB.own, List.mem_cons, List.mem_append]; exact Or.inr (Or.inr (Or.inl hgs)))) (fun hm => hn (by rw [e0]; simp only [List.mem_append]; exact Or.inr (Or.inl hm)))⟩
    have := g2.size
    have := g1.size
    simp; omega
  · intro b hb
    have e2 : ({ r with ser := A ++ { x with nv := nv', ns := x.ns ++ [n] } :: B' } : RB).own = (r.b :: (r.fv.ownBlock.toList ++ (r.sv.ownBlock.toList ++ (r.fams.flatMap (fun f => f.lv.ownBlock.toList) ++ A.flatMap (fun x => x.nv.ownBlock.toList))))) ++ (nv'.ownBlock.toList ++ B'.flatMap (fun x => x.nv.ownBlock.toList)) := by simp [RB.own]
    rw [e2] at hb
    rw [e0]
    simp only [List.mem_append] at hb ⊢
    rcases hb with hb | hb | hb
    · exact Or.inl (Or.inl hb)
    · rcases hft with e | e
      · rw [e] at hb; exact Or.inl (Or.inr (Or.inl hb))
      · rw [e] at hb
        have : b = wa.heap.size := by simpa using hb
        have := g1.size
        exact Or.inr (by omega)
    · exact Or.inl (Or.inr (Or.inr hb))

/-- The row of series is laid anew: some of the old ones, or all and one without numbers. -/
theorem rrow_out {m : Nat} {r : RB} {w w2 : World} (h : RB.At w r) (ho : RB.Ok m r) (ser' : List RS) (hs : ∀ y ∈ ser', y ∈ r.ser ∨ (y.nv = .slice none 0 0 ∧ y.ns = [])) (hl : ser'.length ≤ 24) (hnd : (ser'.flatMap (fun x => x.nv.ownBlock.toList)).Nodup)
    (g2 : Kept (r.sv.ownBlock.toList) w w2) (sv' : Value) (hsv : w2.ownsRow 0 85 3 sv' ser'.length (ser'.flatMap rsCells)) (hft : sv'.ownBlock = r.sv.ownBlock ∨ (∀ b ∈ sv'.ownBlock.toList, w.heap.size ≤ b)) :
    ROut m r { r with sv := sv', ser := ser' } w (w2.setCell ⟨r.b, 1, none⟩ sv') := by
  obtain ⟨n1, n2, n3, n4⟩ := rb_nodup h.nodup
  have hlt := h.lt
  have hbl := lt_of h.blk
  have hnot : ∀ b, b < w.heap.size → b ∉ r.sv.ownBlock.toList → w2.heap[b]? = w.heap[b]? := fun b hb hn => g2.block b hb hn
  have hsame : ∀ b, b < w.heap.size → b ≠ r.b → b ∉ r.sv.ownBlock.toList → (w2.setCell ⟨r.b, 1, none⟩ sv').heap[b]? = w.heap[b]? := fun b hb hne hn => by
    rw [Below.heap_setCell _ _ _ _ (by show b ≠ r.b; exact hne)]; exact hnot b hb hn
  have hsv'ne : ∀ b ∈ sv'.ownBlock.toList, b ≠ r.b := fun b hb => by
    rcases hft with e | e
    · rw [e] at hb; exact (n2 b hb).1
    · have := e b hb; omega
  have hsub : ∀ b ∈ ser'.flatMap (fun x => x.nv.ownBlock.toList), ∃ x ∈ r.ser, b ∈ x.nv.ownBlock.toList := by
    intro b hb
    rw [List.mem_flatMap] at hb
    obtain ⟨y, hy, hb⟩ := hb
    rcases hs y hy with h1 | ⟨h1, _⟩
    · exact ⟨y, h1, hb⟩
    · rw [h1] at hb; simp [Value.ownBlock] at hb
  refine ⟨⟨?_, ?_, ?_, ?_, ?_, ?_⟩, ⟨ho.flen, hl, ?_, ho.flim⟩, rfl, rfl, ?_, ?_⟩
  · rw [text_set ((hnot r.b hbl (fun hm => (n2 r.b hm).1 rfl)).trans h.blk)]; simp
  · exact own_frame h.frows fun b hb => hsame b (own_lt h.frows b hb) (n1 b hb) (fun hm => (n2 b hm).2 hb)
  · exact own_frame hsv (w' := w2.setCell ⟨r.b, 1, none⟩ sv') (fun b hb => by rw [Below.heap_setCell _ _ _ _ (by show b ≠ r.b; exact hsv'ne b hb)])
  · intro f hf
    exact own_frame (h.lims f hf) fun b hb => hsame b (own_lt (h.lims f hf) b hb) (n3 f hf b hb).1 (n3 f hf b hb).2.2
  · intro y hy
    rcases hs y hy with h1 | ⟨h1, h2⟩
    · exact own_frame (h.nums y h1) fun b hb => hsame b (own_lt (h.nums y h1) b hb) (n4 y h1 b hb).1 (n4 y h1 b hb).2.2.1
    · rw [h1, h2]; exact World.ownsRow_nil _ _ _ _
  · have hn := h.nodup
    have e0 : r.own = (r.b :: r.fv.ownBlock.toList) ++ (r.sv.ownBlock.toList ++ (r.fams.flatMap (fun f => f.lv.ownBlock.toList) ++ r.ser.flatMap (fun x => x.nv.ownBlock.toList))) := by simp [RB.own]
    rw [e0] at hn
    have hn1 := nodup_swap (n := w.heap.size) (G' := sv'.ownBlock.toList) hn (opt_nodup _) (fun b hb => by
      rcases hft with e | e
      · rw [e] at hb; exact Or.inl hb
      · exact Or.inr (e b hb)) (fun b hb => hlt b (by
        rw [e0]; simp only [List.mem_append] at hb ⊢
        rcases hb with hb | hb
        · exact Or.inl hb
        · exact Or.inr (Or.inr hb)))
    have e1 : (r.b :: r.fv.ownBlock.toList) ++ (sv'.ownBlock.toList ++ (r.fams.flatMap (fun f => f.lv.ownBlock.toList) ++ r.ser.flatMap (fun x => x.nv.ownBlock.toList))) = (r.b :: (r.fv.ownBlock.toList ++ (sv'.ownBlock.toList ++ r.fams.flatMap (fun f => f.lv.ownBlock.toList)))) ++ (r.ser.flatMap (fun x => x.nv.ownBlock.toList) ++ []) := by simp
    rw [e1] at hn1
    have e2 : ({ r with sv := sv', ser := ser' } : RB).own = (r.b :: (r.fv.ownBlock.toList ++ (sv'.ownBlock.toList ++ r.fams.flatMap (fun f => f.lv.ownBlock.toList)))) ++ (ser'.flatMap (fun x => x.nv.ownBlock.toList) ++ []) := by simp [RB.own]
    rw [e2]
    simp only [List.append_nil] at hn1 ⊢
    rw [List.nodup_append] at hn1 ⊢
    refine ⟨hn1.1, hnd, fun a ha b hb e => ?_⟩
    obtain ⟨x, hx, hbx⟩ := hsub b hb
    exact hn1.2.2 a ha b (by rw [List.mem_flatMap]; exact ⟨x, hx, hbx⟩) e
  · intro y hy
    rcases hs y hy with h1 | ⟨_, h2⟩
    · exact ho.each y h1
    · rw [h2]; exact Nat.zero_le _
  · refine ⟨g2.os, g2.tape, g2.output, by simpa using g2.size, fun k hk hn => hsame k hk (fun e => hn (by rw [e]; simp [RB.own])) (fun hm => hn (by simp only [RB.own, List.mem_cons, List.mem_append]; exact Or.inr (Or.inr (Or.inl hm))))⟩
  · intro b hb
    simp only [RB.own, List.mem_cons, List.mem_append] at hb ⊢
    rcases hb with hb | hb | hb | hb | hb
    · exact Or.inl (Or.inl hb)
    · exact Or.inl (Or.inr (Or.inl hb))
    · rcases hft with e | e
      · rw [e] at hb; exact Or.inl (Or.inr (Or.inr (Or.inl hb)))
      · exact Or.inr (e b hb)
    · exact Or.inl (Or.inr (Or.inr (Or.inr (Or.inl hb))))
    · obtain ⟨x, hx, hbx⟩ := hsub b hb
      exact Or.inl (Or.inr (Or.inr (Or.inr (Or.inr (by rw [List.mem_flatMap]; exact ⟨x, hx, hbx⟩)))))

end Go.Proofs.YtecmkooiaghgcaaGreatDoor
