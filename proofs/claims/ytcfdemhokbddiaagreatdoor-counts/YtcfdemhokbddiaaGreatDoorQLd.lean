/-
  The law's world: its boards, each with the document's own; a board more; no lists have come out.
-/
import Derived.Test.YtcfdemhokbddiaaGreatDoorQLa

namespace Go.Proofs.YtcfdemhokbddiaaGreatDoor
open Go.RowKit

/-- A list of texts that lies wherever it lies. -/
def StrSl (w : World) (v : Value) (ls : List (List UInt8)) : Prop := ∃ sa cap, v = .slice sa ls.length cap ∧ ls.length ≤ cap ∧ (ls = [] ∨ ∃ b off, sa = some ⟨b, off, none⟩ ∧ b < w.heap.size ∧ ∀ k (h : k < ls.length), w.cell? ⟨b, off + k, none⟩ = some (.string (B ls[k])))
theorem StrSl.lt {w : World} {v : Value} {ls : List (List UInt8)} (h : StrSl w v ls) : ∀ b ∈ slBlk v, b < w.heap.size := by
  obtain ⟨sa, cap, rfl, _, hp⟩ := h
  intro b hb
  rcases hp with rfl | ⟨g, off, rfl, hg, _⟩
  · cases sa <;> simp [slBlk] at hb
  · simp only [slBlk] at hb
    split at hb
    · simp at hb
    · simp at hb; rw [hb]; exact hg
theorem StrSl.frame {w w' : World} {v : Value} {ls : List (List UInt8)} (h : StrSl w v ls) (hs : w.heap.size ≤ w'.heap.size) (hk : ∀ b ∈ slBlk v, w'.heap[b]? = w.heap[b]?) : StrSl w' v ls := by
  obtain ⟨sa, cap, rfl, hc, hp⟩ := h
  refine ⟨sa, cap, rfl, hc, ?_⟩
  rcases hp with rfl | ⟨g, off, rfl, hg, hcell⟩
  · exact Or.inl rfl
  · refine Or.inr ⟨g, off, rfl, by omega, fun k hk' => ?_⟩
    have hb : w'.heap[g]? = w.heap[g]? := hk g (by simp only [slBlk]; rw [if_neg (by omega)]; simp)
    rw [World.cell?_of_block (a := ⟨g, off + k, none⟩) hb]
    exact hcell k hk'

/-- One of the document's readings: its lines' row, when it was asked last, whether there is one. -/
structure RD where
  lv : Value
  last : Int
  there : Bool
def rdCells (d : RD) : List Value := [d.lv, .int .i64 d.last, .bool d.there]
/-- It is as the program's. -/
structure RdIs (w : World) (time : Nat) (x : Option (List (List UInt8) × Nat)) (d : RD) : Prop where
  there : d.there = x.isSome
  row : ∃ L, StrSl w d.lv L ∧ ∀ L' k, x = some (L', k) → L' = L ∧ (time : Int) - d.last = k
  last : 0 ≤ d.last ∧ d.last ≤ time
/-- The document's readings and its time, as they stand in its board. -/
structure RdsIs (m : Nat) (w : World) (R : RdV) (rest : List Value) : Prop where
  ex : ∃ d0 d1 d2 time, rest = rdCells d0 ++ (rdCells d1 ++ (rdCells d2 ++ [.int .i64 ((time : Nat) : Int)])) ∧ time ≤ m ∧ ∃ x0 x1 x2, R = [x0, x1, x2] ∧ RdIs w time x0 d0 ∧ RdIs w time x1 d1 ∧ RdIs w time x2 d2
def rdBlks (rest : List Value) : List Nat := rest.flatMap slBlk
theorem rdBlks_eq (d0 d1 d2 : RD) (t : Int) : rdBlks (rdCells d0 ++ (rdCells d1 ++ (rdCells d2 ++ [.int .i64 t]))) = slBlk d0.lv ++ (slBlk d1.lv ++ slBlk d2.lv) := by
  simp [rdBlks, rdCells, slBlk]
theorem RdIs.frame {w w' : World} {time : Nat} {x : Option (List (List UInt8) × Nat)} {d : RD} (h : RdIs w time x d) (hs : w.heap.size ≤ w'.heap.size) (hk : ∀ b ∈ slBlk d.lv, w'.heap[b]? = w.heap[b]?) : RdIs w' time x d := by
  obtain ⟨L, h1, h2⟩ := h.row
  exact ⟨h.there, ⟨L, h1.frame hs hk, h2⟩, h.last⟩
theorem RdIs.lt {w : World} {time : Nat} {x : Option (List (List UInt8) × Nat)} {d : RD} (h : RdIs w time x d) : ∀ b ∈ slBlk d.lv, b < w.heap.size := by
  obtain ⟨L, h1, _⟩ := h.row
  exact h1.lt
theorem RdsIs.frame {m : Nat} {w w' : World} {R : RdV} {rest : List Value} (h : RdsIs m w R rest) (hs : w.heap.size ≤ w'.heap.size) (hk : ∀ b ∈ rdBlks rest, w'.heap[b]? = w.heap[b]?) : RdsIs m w' R rest := by
  obtain ⟨d0, d1, d2, time, e, ht, x0, x1, x2, eR, h0, h1, h2⟩ := h.ex
  rw [e, rdBlks_eq] at hk
  exact ⟨d0, d1, d2, time, e, ht, x0, x1, x2, eR, h0.frame hs fun b hb => hk b (by simp [hb]), h1.frame hs fun b hb => hk b (by simp [hb]), h2.frame hs fun b hb => hk b (by simp [hb])⟩
theorem RdsIs.lt {m : Nat} {w : World} {R : RdV} {rest : List Value} (h : RdsIs m w R rest) : ∀ b ∈ rdBlks rest, b < w.heap.size := by
  obtain ⟨d0, d1, d2, time, e, ht, x0, x1, x2, eR, h0, h1, h2⟩ := h.ex
  intro b hb
  rw [e, rdBlks_eq] at hb
  simp only [List.mem_append] at hb
  rcases hb with hb | hb | hb
  · exact h0.lt b hb
  · exact h1.lt b hb
  · exact h2.lt b hb
theorem RdsIs.mono {m k : Nat} {w : World} {R : RdV} {rest : List Value} (h : RdsIs m w R rest) (hk : m ≤ k) : RdsIs k w R rest := by
  obtain ⟨d0, d1, d2, time, e, ht, hx⟩ := h.ex
  exact ⟨d0, d1, d2, time, e, Nat.le_trans ht hk, hx⟩

def pairCells (q : GT × RB) : List Value := [.pointer (some ⟨q.1.b, 0, none⟩), .pointer (some ⟨q.2.b, 0, none⟩)]
def pairOwn (q : GT × RB) : List Nat := q.1.own ++ (q.2.own ++ rdBlks q.2.rest)
def pwOwn (wb : Nat) (lv : Value) (ps : List (GT × RB)) : List Nat := wb :: (lv.ownBlock.toList ++ ps.flatMap pairOwn)
structure PairAt (m : Nat) (w : World) (q : GT × RB) : Prop where
  px : GT.At w q.1
  ox : GT.Ok m q.1
  rx : RdOk q.1
  py : RB.At w q.2
  oy : RB.Ok m q.2
  rel : Rel q.1.view q.2.view
  rds : RdsIs m w q.1.rview q.2.rest
  nodup : (pairOwn q).Nodup
/-- The law's world: its boards; sk: the lists that came out, their marks. -/
structure PW (base m : Nat) (w : World) (wb : Nat) (sk : Value × Value) (lv : Value) (ps : List (GT × RB)) : Prop where
  blk : w.heap[wb]? = some (.cells #[lv, sk.1, sk.2] 62)
  row : w.ownsRow 0 88 2 lv ps.length (ps.flatMap pairCells)
  each : ∀ q ∈ ps, PairAt m w q
  nodup : (pwOwn wb lv ps).Nodup
  above : ∀ b ∈ pwOwn wb lv ps, base ≤ b
  len : ps.length ≤ m
  low : base ≤ w.heap.size
  tab : Tab w
  pos : 0 < base
/-- What a step leaves as it was. -/
structure Kpt (wb : Nat) (lv : Value) (ps : List (GT × RB)) (w : World) (lv' : Value) (ps' : List (GT × RB)) (w' : World) : Prop where
  kept : Kept (pwOwn wb lv ps) w w'
  sub : ∀ b ∈ pwOwn wb lv' ps', b ∈ pwOwn wb lv ps ∨ w.heap.size ≤ b
theorem Kpt.from {wb : Nat} {lv lv' : Value} {ps ps' : List (GT × RB)} {w w1 w' : World} (hg : w.grownBy w1 none) (h : Kpt wb lv ps w1 lv' ps' w') : Kpt wb lv ps w lv' ps' w' :=
  ⟨(Kept.of_none hg _).trans h.kept, fun b hb => by
    rcases h.sub b hb with h1 | h1
    · exact Or.inl h1
    · exact Or.inr (Nat.le_trans hg.size h1)⟩
theorem Kpt.to {wb : Nat} {lv lv' : Value} {ps ps' : List (GT × RB)} {w w1 w' : World} (h : Kpt wb lv ps w lv' ps' w1) (hg : w1.grownBy w' none) : Kpt wb lv ps w lv' ps' w' :=
  ⟨h.kept.trans (Kept.of_none hg _), h.sub⟩
theorem Kpt.same {wb : Nat} {lv : Value} {ps : List (GT × RB)} {w w' : World} (hg : w.grownBy w' none) : Kpt wb lv ps w lv ps w' := ⟨Kept.of_none hg _, fun _ hb => Or.inl hb⟩
theorem Kpt.trans {wb : Nat} {lv lv1 lv2 : Value} {ps ps1 ps2 : List (GT × RB)} {w w1 w2 : World} (h : Kpt wb lv ps w lv1 ps1 w1) (k : Kpt wb lv1 ps1 w1 lv2 ps2 w2) : Kpt wb lv ps w lv2 ps2 w2 :=
  ⟨h.kept.then k.kept h.sub, fun b hb => by
    rcases k.sub b hb with h1 | h1
    · exact h.sub b h1
    · exact Or.inr (Nat.le_trans h.kept.size h1)⟩

theorem PairAt.lt {m : Nat} {w : World} {q : GT × RB} (h : PairAt m w q) : ∀ b ∈ pairOwn q, b < w.heap.size := by
  intro b hb
  simp only [pairOwn, List.mem_append] at hb
  rcases hb with hb | hb | hb
  · exact h.px.lt b hb
  · exact h.py.lt b hb
  · exact h.rds.lt b hb
theorem PairAt.frame {m : Nat} {w w' : World} {q : GT × RB} (h : PairAt m w q) (hs : w.heap.size ≤ w'.heap.size) (hk : ∀ b ∈ pairOwn q, w'.heap[b]? = w.heap[b]?) : PairAt m w' q :=
  ⟨h.px.frame hs fun b hb => hk b (by simp [pairOwn, hb]), h.ox, h.rx, h.py.frame fun b hb => hk b (by simp [pairOwn, hb]), h.oy, h.rel, h.rds.frame hs fun b hb => hk b (by simp [pairOwn, hb]), h.nodup⟩
theorem RB.Ok.mono {m k : Nat} {r : RB} (h : RB.Ok m r) (hk : m ≤ k) : RB.Ok k r := ⟨h.flen, h.slen, fun x hx => Nat.le_trans (h.each x hx) hk, h.flim⟩
theorem PairAt.mono {m k : Nat} {w : World} {q : GT × RB} (h : PairAt m w q) (hk : m ≤ k) : PairAt k w q := ⟨h.px, h.ox.mono hk, h.rx, h.py, h.oy.mono hk, h.rel, h.rds.mono hk, h.nodup⟩
section
variable {base m : Nat} {w : World} {wb : Nat} {sk : Value × Value} {lv : Value} {ps : List (GT × RB)}
theorem PW.lt (h : PW base m w wb sk lv ps) : ∀ b ∈ pwOwn wb lv ps, b < w.heap.size := by
  intro b hb
  simp only [pwOwn, List.mem_cons, List.mem_append, List.mem_flatMap] at hb
  rcases hb with rfl | hb | ⟨q, hq, hb⟩
  · exact lt_of h.blk
  · exact own_lt h.row b hb
  · exact (h.each q hq).lt b hb
theorem PW.ne0 (h : PW base m w wb sk lv ps) : ∀ b ∈ pwOwn wb lv ps, b ≠ 0 := fun b hb e => by have := h.above b hb; have := h.pos; omega
theorem PW.frame {w' : World} (h : PW base m w wb sk lv ps) (hs : w.heap.size ≤ w'.heap.size) (h0 : w'.heap[0]? = w.heap[0]?) (hk : ∀ b ∈ pwOwn wb lv ps, w'.heap[b]? = w.heap[b]?) : PW base m w' wb sk lv ps := by
  refine ⟨(hk _ (by simp [pwOwn])).trans h.blk, own_frame h.row fun b hb => hk b ?_, fun q hq => (h.each q hq).frame hs fun b hb => hk b ?_, h.nodup, h.above, h.len, Nat.le_trans h.low hs, h.tab.same h0, h.pos⟩
  · simp only [pwOwn, List.mem_cons, List.mem_append]; exact Or.inr (Or.inl hb)
  · simp only [pwOwn, List.mem_cons, List.mem_append, List.mem_flatMap]; exact Or.inr (Or.inr ⟨q, hq, hb⟩)
theorem PW.gb {w' : World} (h : PW base m w wb sk lv ps) (hg : w.grownBy w' none) : PW base m w' wb sk lv ps :=
  h.frame hg.size (hg.block 0 h.tab.lt (by simp)) fun b hb => hg.block b (h.lt b hb) (by simp)
theorem PW.mono {k : Nat} (h : PW base m w wb sk lv ps) (hk : m ≤ k) : PW base k w wb sk lv ps :=
  ⟨h.blk, h.row, fun q hq => (h.each q hq).mono hk, h.nodup, h.above, Nat.le_trans h.len hk, h.low, h.tab, h.pos⟩
theorem below_kept {L : List Nat} {w' : World} (h : Kept L w w') (hb : ∀ b ∈ L, base ≤ b) (hl : base ≤ w.heap.size) : Below base w w' :=
  ⟨h.os, h.tape, h.output, h.size, fun k hk => h.block k (by omega) (fun hm => by have := hb k hm; omega)⟩
theorem Kpt.below {lv' : Value} {ps' : List (GT × RB)} {w' : World} (k : Kpt wb lv ps w lv' ps' w') (h : PW base m w wb sk lv ps) : Below base w w' := below_kept k.kept h.above h.low
end

theorem pair_out {m : Nat} {t t' : GT} {r r' : RB} {w w1 w2 : World} (hnd : (pairOwn (t, r)).Nodup) (hr : RB.At w r) (hrd : RdsIs m w t.rview r.rest) (h1 : Out m t t' w w1) (hro : RdOk t') (hrv : t'.rview = t.rview) (h2 : ROut m r r' w1 w2) (hrel : Rel t'.view r'.view) :
    PairAt m w2 (t', r') ∧ Kept (pairOwn (t, r)) w w2 ∧ (∀ b ∈ pairOwn (t', r'), b ∈ pairOwn (t, r) ∨ w.heap.size ≤ b) := by
  simp only [pairOwn, List.nodup_append] at hnd
  obtain ⟨_, ⟨_, n3, n4⟩, n5⟩ := hnd
  have hd1 : ∀ b ∈ t'.own, b ∉ r.own := fun b hb hm => by
    rcases h1.sub b hb with h | h
    · exact n5 b h b (by simp [hm]) rfl
    · have := hr.lt b hm; omega
  have hd2 : ∀ b ∈ t'.own, b ∉ rdBlks r.rest := fun b hb hm => by
    rcases h1.sub b hb with h | h
    · exact n5 b h b (by simp [hm]) rfl
    · have := hrd.lt b hm; omega
  have hd3 : ∀ b ∈ r'.own, b ∉ rdBlks r.rest := fun b hb hm => by
    rcases h2.sub b hb with h | h
    · exact n4 b h b hm rfl
    · have := hrd.lt b hm; have := h1.kept.size; omega
  have hkr : ∀ b ∈ rdBlks r.rest, w2.heap[b]? = w.heap[b]? := fun b hb => by
    have hl := hrd.lt b hb
    exact (h2.kept.block b (by have := h1.kept.size; omega) (fun hm => n4 b hm b hb rfl)).trans (h1.kept.block b hl (fun hm => n5 b hm b (by simp [hb]) rfl))
  refine ⟨⟨h1.at_.kept h2.kept hd1, h1.ok, hro, h2.at_, h2.ok, hrel, ?_, ?_⟩, ?_, ?_⟩
  · show RdsIs m w2 t'.rview r'.rest
    rw [hrv, h2.rest]
    exact hrd.frame (Nat.le_trans h1.kept.size h2.kept.size) hkr
  · show (t'.own ++ (r'.own ++ rdBlks r'.rest)).Nodup
    rw [h2.rest, List.nodup_append, List.nodup_append]
    refine ⟨h1.at_.nodup, ⟨h2.at_.nodup, n3, fun a ha b hb e => hd3 a ha (by rw [e]; exact hb)⟩, fun a ha b hb e => ?_⟩
    subst e
    simp only [List.mem_append] at hb
    rcases hb with hb | hb
    · rcases h2.sub a hb with h | h
      · exact hd1 a ha h
      · have := h1.at_.lt a ha; omega
    · exact hd2 a ha hb
  · exact (h1.kept.mono fun b hb => Or.inl (by simp [pairOwn, hb])).then (h2.kept.mono (M := pairOwn (t, r)) fun b hb => Or.inl (by simp [pairOwn, hb])) (fun b hb => Or.inl hb)
  · intro b hb
    simp only [pairOwn, List.mem_append, h2.rest] at hb ⊢
    rcases hb with hb | hb | hb
    · rcases h1.sub b hb with h | h
      · exact Or.inl (Or.inl h)
      · exact Or.inr h
    · rcases h2.sub b hb with h | h
      · exact Or.inl (Or.inr (Or.inl h))
      · exact Or.inr (Nat.le_trans h1.kept.size h)
    · exact Or.inl (Or.inr (Or.inr hb))

theorem PW.upd {base m m' : Nat} {w w' : World} {wb : Nat} {sk : Value × Value} {lv : Value} {ps A B' : List (GT × RB)} {q q' : GT × RB} (h : PW base m w wb sk lv ps) (hm : m ≤ m') (e : ps = A ++ q :: B') (hb1 : q'.1.b = q.1.b) (hb2 : q'.2.b = q.2.b)
    (hat : PairAt m' w' q') (hk : Kept (pairOwn q) w w') (hsub : ∀ b ∈ pairOwn q', b ∈ pairOwn q ∨ w.heap.size ≤ b) : PW base m' w' wb sk lv (A ++ q' :: B') ∧ Kpt wb lv ps w lv (A ++ q' :: B') w' := by
  have eo : pwOwn wb lv ps = (wb :: (lv.ownBlock.toList ++ A.flatMap pairOwn)) ++ (pairOwn q ++ B'.flatMap pairOwn) := by simp [pwOwn, e]
  have eo' : pwOwn wb lv (A ++ q' :: B') = (wb :: (lv.ownBlock.toList ++ A.flatMap pairOwn)) ++ (pairOwn q' ++ B'.flatMap pairOwn) := by simp [pwOwn]
  have hnd0 := h.nodup
  rw [eo] at hnd0
  have hlt : ∀ b ∈ (wb :: (lv.ownBlock.toList ++ A.flatMap pairOwn)) ++ B'.flatMap pairOwn, b < w.heap.size := by
    intro b hb
    refine h.lt b ?_
    rw [eo]
    simp only [List.mem_append] at hb ⊢
    rcases hb with hb | hb
    · exact Or.inl hb
    · exact Or.inr (Or.inr hb)
  have hdis : ∀ b ∈ (wb :: (lv.ownBlock.toList ++ A.flatMap pairOwn)) ++ B'.flatMap pairOwn, b ∉ pairOwn q := by
    intro b hb hg
    simp only [List.nodup_append, List.mem_append] at hnd0 hb
    rcases hb with hb | hb
    · exact hnd0.2.2 b (by simpa using hb) b (Or.inl hg) rfl
    · exact hnd0.2.1.2.2 b hg b hb rfl
  have hsame : ∀ b ∈ (wb :: (lv.ownBlock.toList ++ A.flatMap pairOwn)) ++ B'.flatMap pairOwn, w'.heap[b]? = w.heap[b]? := fun b hb => hk.block b (hlt b hb) (hdis b hb)
  have hqb : ∀ b ∈ pairOwn q, base ≤ b := fun b hb => h.above b (by rw [eo]; simp only [List.mem_append]; exact Or.inr (Or.inl hb))
  have h0 : w'.heap[0]? = w.heap[0]? := hk.block 0 h.tab.lt fun hm => by have := hqb 0 hm; have := h.pos; omega
  refine ⟨⟨?_, ?_, ?_, ?_, ?_, ?_, ?_, h.tab.same h0, h.pos⟩, hk.mono fun b hb => Or.inl (by rw [eo]; simp only [List.mem_append]; exact Or.inr (Or.inl hb)), fun b hb => ?_⟩
  · exact (hsame wb (by simp)).trans h.blk
  · have hr := own_frame h.row (w' := w') (fun b hb => hsame b (by simp only [List.mem_append, List.mem_cons]; exact Or.inl (Or.inr (Or.inl hb))))
    rw [e] at hr
    have e2 : pairCells q' = pairCells q := by simp [pairCells, hb1, hb2]
    simpa [e2] using hr
  · intro k hk2
    simp only [List.mem_append, List.mem_cons] at hk2
    rcases hk2 with hk2 | rfl | hk2
    · exact ((h.each k (by rw [e]; simp [hk2])).mono hm).frame hk.size fun b hb => hsame b (by simp only [List.mem_append, List.mem_cons, List.mem_flatMap]; exact Or.inl (Or.inr (Or.inr ⟨k, hk2, hb⟩)))
    · exact hat
    · exact ((h.each k (by rw [e]; simp [hk2])).mono hm).frame hk.size fun b hb => hsame b (by simp only [List.mem_append, List.mem_flatMap]; exact Or.inr ⟨k, hk2, hb⟩)
  · rw [eo']; exact nodup_swap hnd0 hat.nodup hsub hlt
  · intro b hb
    rw [eo'] at hb
    simp only [List.mem_append] at hb
    rcases hb with hb | hb | hb
    · exact h.above b (by rw [eo]; simp only [List.mem_append]; exact Or.inl hb)
    · rcases hsub b hb with h1 | h1
      · exact hqb b h1
      · have := h.low; omega
    · exact h.above b (by rw [eo]; simp only [List.mem_append]; exact Or.inr (Or.inr hb))
  · have := h.len
    rw [e] at this
    simp only [List.length_append, List.length_cons] at this ⊢
    omega
  · exact Nat.le_trans h.low hk.size
  · rw [eo'] at hb
    rw [eo]
    simp only [List.mem_append] at hb ⊢
    rcases hb with hb | hb | hb
    · exact Or.inl (Or.inl hb)
    · rcases hsub b hb with h1 | h1
      · exact Or.inl (Or.inr (Or.inl h1))
      · exact Or.inr h1
    · exact Or.inl (Or.inr (Or.inr hb))

theorem names_nodup {m : Nat} {t : GT} (h : GT.Ok m t) : (t.view.map Fam.nm).Nodup := by
  have e : t.view.map Fam.nm = t.fams.map GF.nm := by simp [GT.view, GF.view]
  rw [e]
  have hs := h.srt
  unfold KSrt at hs
  refine List.Pairwise.imp ?_ hs
  intro a b hab e
  rw [e, lt_irrefl] at hab
  cases hab

theorem own_shape2 {w : World} {base : Nat} {e : TypeId} {v : Value} {n : Nat} {xs : List Value} (h : w.ownsRow base e 2 v n xs) :
    ∃ sa sc, v = .slice sa n sc ∧ n ≤ sc ∧ ((sa = none ∧ n = 0 ∧ sc = 0) ∨ ∃ g, sa = some ⟨g, 0, none⟩ ∧ g < w.heap.size) := by
  rcases h.2 with ⟨rfl, rfl⟩ | ⟨g, cap, cur, rfl, _, hg, hn, _⟩
  · exact ⟨none, 0, rfl, Nat.le_refl _, Or.inl ⟨rfl, rfl, rfl⟩⟩
  · exact ⟨_, _, rfl, hn, Or.inr ⟨g, rfl, lt_of hg⟩⟩

set_option maxRecDepth 100000 in
set_option maxHeartbeats 400000 in
theorem looks_any (base m wb : Nat) (lv : Value) (ps : List (GT × RB)) (w : World) (h : PW base m w wb (.slice none 0 0, .slice none 0 0) lv ps) :
    Calls Tryz.prog 31 #[.pointer (some ⟨wb, 0, none⟩)] w fun e w' => e = .returned (.bool true) ∧ w' = w := by
  have c1 : w.cell? ⟨wb, 1, none⟩ = some (.slice none 0 0) := by unfold World.cell?; simp only [h.blk]; rfl
  clear h
  go_enter Tryz.func31, Tryz.ntmps31
  go_wp2_with fail
  refine wp_loop_rounds 1 ?_
  rw [rounds_succ]
  go_wp2
  go_ret
  exact ⟨rfl, rfl⟩

end Go.Proofs.YtcfdemhokbddiaaGreatDoor

/-
  A board more.
-/
namespace Go.Proofs.YtcfdemhokbddiaaGreatDoor
open Go.RowKit

def zeroRest : List Value := [.slice none 0 0, .int .i64 0, .bool false, .slice none 0 0, .int .i64 0, .bool false, .slice none 0 0, .int .i64 0, .bool false, .int .i64 0]
def refZero : Obj := .cells #[.slice none 0 0, .slice none 0 0, .slice none 0 0, .int .i64 0, .bool false, .slice none 0 0, .int .i64 0, .bool false, .slice none 0 0, .int .i64 0, .bool false, .int .i64 0] 149
def newR (y : Nat) : RB := ⟨y, .slice none 0 0, [], .slice none 0 0, [], zeroRest⟩
theorem newR_own (y : Nat) : (newR y).own ++ rdBlks (newR y).rest = [y] := by
  simp [newR, RB.own, Value.ownBlock, rdBlks, zeroRest, slBlk]

theorem newPair_at {w : World} {t : GT} {y m : Nat} (ht : GT.At w t) (ho : GT.Ok 0 t) (hr : RdOk t) (hv : t.view = []) (hrv : t.rview = [none, none, none]) (hy : w.heap[y]? = some refZero) (hne : y ∉ t.own) : PairAt m w (t, newR y) := by
  have z : RdIs w 0 none ⟨.slice none 0 0, 0, false⟩ := ⟨rfl, ⟨[], ⟨none, 0, rfl, Nat.le_refl _, Or.inl rfl⟩, fun _ _ h => by cases h⟩, by simp⟩
  refine ⟨ht, ho.mono (Nat.zero_le _), hr, ⟨hy, World.ownsRow_nil _ _ _ _, World.ownsRow_nil _ _ _ _, by simp [newR], by simp [newR], by simp [newR, RB.own, Value.ownBlock]⟩, ⟨by simp [newR], by simp [newR], by simp [newR], by simp [newR]⟩, ?_, ?_, ?_⟩
  · show Rel t.view (newR y).view
    rw [hv]; exact Rel.start
  · show RdsIs m w t.rview (newR y).rest
    rw [hrv]
    exact ⟨⟨.slice none 0 0, 0, false⟩, ⟨.slice none 0 0, 0, false⟩, ⟨.slice none 0 0, 0, false⟩, 0, rfl, Nat.zero_le _, none, none, none, rfl, z, z, z⟩
  · show (t.own ++ ((newR y).own ++ rdBlks (newR y).rest)).Nodup
    rw [newR_own, List.nodup_append]
    exact ⟨ht.nodup, by simp, fun a ha b hb e => hne (by simp at hb; rw [← hb, ← e]; exact ha)⟩

theorem pw_more {base m : Nat} {w w1 w3 : World} {wb : Nat} {sk : Value × Value} {lv lv' : Value} {ps : List (GT × RB)} (h : PW base m w wb sk lv ps) (q0 : GT × RB) (hq0 : PairAt (m + 1) w1 q0) (hnew : ∀ b ∈ pairOwn q0, w.heap.size ≤ b) (g1 : w.grownBy w1 none)
    (g3 : w1.grownBy w3 lv.ownBlock) (hrow : w3.ownsRow 0 88 2 lv' (ps.length + 1) (ps.flatMap pairCells ++ pairCells q0)) (hft : lv'.ownBlock = lv.ownBlock ∨ lv'.ownBlock = some w1.heap.size) :
    PW base (m + 1) (w3.setCell ⟨wb, 0, none⟩ lv') wb sk lv' (ps ++ [q0]) ∧ Kpt wb lv ps w lv' (ps ++ [q0]) (w3.setCell ⟨wb, 0, none⟩ lv') := by
  have hnd := h.nodup
  unfold pwOwn at hnd
  simp only [List.nodup_cons, List.nodup_append, List.mem_append] at hnd
  obtain ⟨n1, n2, n3, n4⟩ := hnd
  have hlt := h.lt
  have hwb := lt_of h.blk
  have hlow := h.low
  have hql := hq0.lt
  have hsz1 := g1.size
  have hsz3 := g3.size
  have hnot : ∀ b, b < w1.heap.size → b ∉ lv.ownBlock.toList → w3.heap[b]? = w1.heap[b]? := fun b hb hn => g3.block b hb (fun e => hn (by rw [← e]; simp))
  have hlvlt : ∀ b ∈ lv.ownBlock.toList, b < w.heap.size := own_lt h.row
  have hsame : ∀ b, b < w.heap.size → b ≠ wb → b ∉ lv.ownBlock.toList → (w3.setCell ⟨wb, 0, none⟩ lv').heap[b]? = w.heap[b]? := fun b hb hne hn => by
    rw [Below.heap_setCell _ _ _ _ (by show b ≠ wb; exact hne), hnot b (by omega) hn]; exact g1.block b hb (by simp)
  have hlv'ne : ∀ b ∈ lv'.ownBlock.toList, b ≠ wb := fun b hb e => by
    rcases hft with e2 | e2
    · rw [e2] at hb; exact n1 (Or.inl (by rw [← e]; exact hb))
    · rw [e2] at hb
      have : b = w1.heap.size := by simpa using hb
      omega
  have hnewb : ∀ b, w.heap.size ≤ b → b < w1.heap.size → (w3.setCell ⟨wb, 0, none⟩ lv').heap[b]? = w1.heap[b]? := fun b hb hb1 => by
    rw [Below.heap_setCell _ _ _ _ (by show b ≠ wb; omega)]
    exact hnot b hb1 (fun hm => by have := hlvlt b hm; omega)
  have hb0 : (w3.setCell ⟨wb, 0, none⟩ lv').heap[wb]? = some (.cells #[lv', sk.1, sk.2] 62) := by
    rw [text_set (((hnot wb (by omega) (fun hm => n1 (Or.inl hm))).trans (g1.block wb hwb (by simp))).trans h.blk)]; rfl
  have h0 : (w3.setCell ⟨wb, 0, none⟩ lv').heap[0]? = w.heap[0]? := hsame 0 h.tab.lt (fun e => h.ne0 wb (by simp [pwOwn]) e.symm) (fun hm => h.ne0 0 (by simp only [pwOwn, List.mem_cons, List.mem_append]; exact Or.inr (Or.inl hm)) rfl)
  refine ⟨⟨hb0, ?_, ?_, ?_, ?_, ?_, ?_, h.tab.same h0, h.pos⟩, ⟨⟨g3.os.trans g1.os, g3.tape.trans g1.tape, g3.output.trans g1.output, by simp; omega, fun k hk hn => hsame k hk (fun e => hn (by simp [pwOwn, e])) (fun hm => hn (by simp only [pwOwn, List.mem_cons, List.mem_append]; exact Or.inr (Or.inl hm)))⟩, ?_⟩⟩
  · have := own_frame hrow (w' := w3.setCell ⟨wb, 0, none⟩ lv') (fun b hb => by rw [Below.heap_setCell _ _ _ _ (by show b ≠ wb; exact hlv'ne b hb)])
    simpa using this
  · intro q hq
    simp only [List.mem_append, List.mem_cons, List.not_mem_nil, or_false] at hq
    rcases hq with hq | rfl
    · exact ((h.each q hq).mono (Nat.le_succ m)).frame (by simp; omega) fun b hb => hsame b ((h.each q hq).lt b hb) (fun e => n1 (Or.inr (by rw [List.mem_flatMap]; exact ⟨q, hq, by rw [← e]; exact hb⟩))) (fun hm => n4 b hm b (by rw [List.mem_flatMap]; exact ⟨q, hq, hb⟩) rfl)
    · exact hq0.frame (by simp; omega) fun b hb => hnewb b (hnew b hb) (hql b hb)
  · have hn := h.nodup
    have e1 : pwOwn wb lv ps = (wb :: (lv.ownBlock.toList ++ ps.flatMap pairOwn)) ++ ([] ++ []) := by simp [pwOwn]
    rw [e1] at hn
    have hs1 := nodup_swap (G' := pairOwn q0) (n := w.heap.size) hn hq0.nodup (fun b hb => Or.inr (hnew b hb)) (fun b hb => hlt b (by rw [e1]; simpa using hb))
    have e2 : (wb :: (lv.ownBlock.toList ++ ps.flatMap pairOwn)) ++ (pairOwn q0 ++ []) = [wb] ++ (lv.ownBlock.toList ++ (ps.flatMap pairOwn ++ pairOwn q0)) := by simp
    rw [e2] at hs1
    have e3 : pwOwn wb lv' (ps ++ [q0]) = [wb] ++ (lv'.ownBlock.toList ++ (ps.flatMap pairOwn ++ pairOwn q0)) := by simp [pwOwn]
    rw [e3]
    refine nodup_swap (n := w1.heap.size) hs1 (opt_nodup _) (fun b hb => ?_) (fun b hb => ?_)
    · rcases hft with e | e
      · rw [e] at hb; exact Or.inl hb
      · rw [e] at hb
        have : b = w1.heap.size := by simpa using hb
        exact Or.inr (by omega)
    · simp only [List.mem_append, List.mem_cons, List.not_mem_nil, or_false] at hb
      rcases hb with rfl | hb | hb
      · omega
      · have := hlt b (by simp only [pwOwn, List.mem_cons, List.mem_append]; exact Or.inr (Or.inr hb)); omega
      · exact hql b hb
  · intro b hb
    simp only [pwOwn, List.mem_cons, List.mem_append, List.flatMap_append, List.flatMap_cons, List.flatMap_nil, List.append_nil] at hb
    have hold : ∀ b ∈ pwOwn wb lv ps, base ≤ b := h.above
    rcases hb with hb | hb | hb | hb
    · exact hold b (by simp [pwOwn, hb])
    · rcases hft with e | e
      · rw [e] at hb; exact hold b (by simp only [pwOwn, List.mem_cons, List.mem_append]; exact Or.inr (Or.inl hb))
      · rw [e] at hb
        have : b = w1.heap.size := by simpa using hb
        omega
    · exact hold b (by simp only [pwOwn, List.mem_cons, List.mem_append]; exact Or.inr (Or.inr hb))
    · have := hnew b hb; omega
  · have := h.len; simp; omega
  · simp; omega
  · intro b hb
    simp only [pwOwn, List.mem_cons, List.mem_append, List.flatMap_append, List.flatMap_cons, List.flatMap_nil, List.append_nil] at hb ⊢
    rcases hb with hb | hb | hb | hb
    · exact Or.inl (Or.inl hb)
    · rcases hft with e | e
      · rw [e] at hb; exact Or.inl (Or.inr (Or.inl hb))
      · rw [e] at hb
        have : b = w1.heap.size := by simpa using hb
        exact Or.inr (by omega)
    · exact Or.inl (Or.inr (Or.inr hb))
    · exact Or.inr (hnew b hb)

theorem Tryz.info39 : (Tryz.prog.info? 88).map (fun i => (i.zero, i.size, i.bytes)) = some (some (.agg #[.pointer none, .pointer none]), 2, 16) := by kernel_rfl

set_option maxRecDepth 100000 in
set_option maxHeartbeats 1000000 in
theorem more_any (base m wb : Nat) {sk : Value × Value} (lv : Value) (ps : List (GT × RB)) (w : World) (h : PW base m w wb sk lv ps) (hm : m ≤ 4398046511104) :
    Calls Tryz.prog 42 #[.pointer (some ⟨wb, 0, none⟩)] w fun e w' => e = .returned (.bool true) ∧ ∃ lv' ps', PW base (m + 1) w' wb sk lv' ps' ∧ ps' ≠ [] ∧ Kpt wb lv ps w lv' ps' w' := by
  have hlen := h.len
  have c0 : w.cell? ⟨wb, 0, none⟩ = some lv := by unfold World.cell?; simp only [h.blk]; rfl
  have z0 : w.frozen? ⟨wb, 0, none⟩ = false := by unfold World.frozen?; simp only [h.blk]; simp
  have hwl := lt_of h.blk
  obtain ⟨sa, sc, hlv, _, _⟩ := own_shape2 h.row
  have hrow := h.row
  have hnb : some wb ≠ lv.ownBlock := fun e => by
    have hn := h.nodup
    unfold pwOwn at hn
    rw [List.nodup_cons] at hn
    exact hn.1 (by rw [← e]; simp)
  have HH : Hid (PW base m w wb sk lv ps) := h
  have HLV : Hid (lv = .slice sa ps.length sc) := hlv
  rw [hlv] at c0 hrow hnb
  obtain ⟨i9, hi9, hz90, hz91, hz92⟩ := info_parts Tryz.info39
  have HI : Hid (Tryz.prog.info? 88 = some i9 ∧ i9.zero = some (.agg #[.pointer none, .pointer none]) ∧ i9.size = 2 ∧ i9.bytes = 16) := ⟨hi9, hz90, hz91, hz92⟩
  have HNW : Hid (Calls Tryz.prog 32 #[] w _) := bNew_any w
  have HRW : Hid (w.ownsRow 0 88 2 (.slice sa ps.length sc) ps.length (ps.flatMap pairCells)) := hrow
  clear hi9 hz90 hz91 hz92 h hlv hrow
  go_enter Tryz.func42, Tryz.ntmps42
  go_wp2_with fail
  refine HNW.out.mono ?_
  rintro e w1 ⟨t, rfl, hz1, g1, at1, ok1, rd1, v1, rv1, own1⟩
  obtain ⟨tb, htb⟩ : ∃ tb, t.b = tb := ⟨_, rfl⟩
  have htw : tb = w.heap.size := by
    have := at1.dom t.b (by rw [at1.labB]; simp)
    rw [own1] at this
    rw [← htb]; simpa using this
  have HT : Hid (t.b = tb) := htb
  rw [htb]
  have ga2 := gb_alloc g1 refZero
  have ga3 := gb_alloc ga2 (.cells #[.pointer (some ⟨tb, 0, none⟩), .pointer (some ⟨w1.heap.size, 0, none⟩)] 88)
  have c01 := gb_cell g1 c0 (by simp)
  have c02 := gb_cell ga2 c0 (by simp)
  have c03 := gb_cell ga3 c0 (by simp)
  have z03 := gb_froz ga3 hwl z0 (by simp)
  have bn : ((w1.alloc refZero).alloc (.cells #[.pointer (some ⟨tb, 0, none⟩), .pointer (some ⟨w1.heap.size, 0, none⟩)] 88)).heap[w1.heap.size + 1]? = some (.cells #[.pointer (some ⟨tb, 0, none⟩), .pointer (some ⟨w1.heap.size, 0, none⟩)] 88) := alloc_new _ _ _ (by simp)
  have hY : ((w1.alloc refZero).alloc (.cells #[.pointer (some ⟨tb, 0, none⟩), .pointer (some ⟨w1.heap.size, 0, none⟩)] 88)).heap[w1.heap.size]? = some refZero := by
    rw [Below.heap_alloc _ _ _ (by simp)]; exact alloc_new _ _ _ rfl
  have gT : w1.grownBy ((w1.alloc refZero).alloc (.cells #[.pointer (some ⟨tb, 0, none⟩), .pointer (some ⟨w1.heap.size, 0, none⟩)] 88)) none := gb_alloc (gb_alloc (gb_refl _ _) _) _
  have HQ : Hid (PairAt (m + 1) ((w1.alloc refZero).alloc (.cells #[.pointer (some ⟨tb, 0, none⟩), .pointer (some ⟨w1.heap.size, 0, none⟩)] 88)) (t, newR w1.heap.size) ∧ ∀ b ∈ pairOwn (t, newR w1.heap.size), w.heap.size ≤ b) := by
    refine ⟨newPair_at (at1.gb gT) ok1 rd1 v1 rv1 hY (by rw [own1]; simp; omega), fun b hb => ?_⟩
    have hb' : b ∈ t.own ++ ((newR w1.heap.size).own ++ rdBlks (newR w1.heap.size).rest) := hb
    rw [newR_own, own1] at hb'
    simp at hb'
    omega
  have hrow3 : ((w1.alloc refZero).alloc (.cells #[.pointer (some ⟨tb, 0, none⟩), .pointer (some ⟨w1.heap.size, 0, none⟩)] 88)).ownsRow 0 88 2 (.slice sa ps.length sc) ps.length (ps.flatMap pairCells) := own_frame HRW.out fun b hb => ga3.block b (own_lt HRW.out b hb) (by simp)
  have HGA : Hid (w.grownBy ((w1.alloc refZero).alloc (.cells #[.pointer (some ⟨tb, 0, none⟩), .pointer (some ⟨w1.heap.size, 0, none⟩)] 88)) none) := ga3
  have hwl1 : wb < w1.heap.size := by omega
  clear at1 ok1 rd1 v1 rv1 own1 g1 ga2 ga3 hY gT htb htw z0 hz1
  go_wp2_with (at_builtin; refine wpList_append_foot _ rfl _ _ 59 rfl 88 i9 (.agg #[.pointer none, .pointer none]) 2 16 Tryz.underlying59 HI.out.1 HI.out.2.1 HI.out.2.2.1 HI.out.2.2.2 rfl (by decide) (.slice sa ps.length sc) ps.length (ps.flatMap pairCells) rfl (by exact hrow3) ⟨w1.heap.size + 1, 0, none⟩ 1 1 (by omega) [.pointer (some ⟨tb, 0, none⟩), .pointer (some ⟨w1.heap.size, 0, none⟩)] rfl rfl (cells_blk _ bn) (fun v hv => by simp at hv; rcases hv with rfl | rfl <;> rfl) (by unfold maxLen; omega) (by omega) ?_; intro lv' w3 own3 g3 hft; obtain ⟨xa, xc, rfl, _, _⟩ := own_shape2 own3; have z3 := gb_froz g3 (by simp; omega) (by exact z03) hnb; have c3 := gb_cell g3 (by exact c03) hnb)
  go_ret
  rw [← HLV.out] at g3 hft
  have own3' : w3.ownsRow 0 88 2 (.slice xa (ps.length + 1) xc) (ps.length + 1) (ps.flatMap pairCells ++ pairCells (t, newR w1.heap.size)) := by
    unfold pairCells
    rw [show (t, newR w1.heap.size).1.b = tb from HT.out]
    exact own3
  obtain ⟨k1, k2⟩ := pw_more HH.out (t, newR w1.heap.size) HQ.out.1 HQ.out.2 HGA.out g3 own3' hft
  exact ⟨rfl, _, _, k1, by simp, k2⟩

end Go.Proofs.YtcfdemhokbddiaaGreatDoor
