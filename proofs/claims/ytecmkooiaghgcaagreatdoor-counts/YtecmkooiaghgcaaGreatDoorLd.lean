/-
  The law's world: its boards, each with the document's own; a board more; no lists have come out.
-/
import Derived.Test.YtecmkooiaghgcaaGreatDoorLb

namespace Go.Proofs.YtecmkooiaghgcaaGreatDoor
open Go.RowKit

def pairCells (q : GT × RB) : List Value := [.pointer (some ⟨q.1.b, 0, none⟩), .pointer (some ⟨q.2.b, 0, none⟩)]
def pairOwn (q : GT × RB) : List Nat := q.1.own ++ q.2.own
def pwOwn (wb : Nat) (lv : Value) (ps : List (GT × RB)) : List Nat := wb :: (lv.ownBlock.toList ++ ps.flatMap pairOwn)
structure PairAt (m : Nat) (w : World) (q : GT × RB) : Prop where
  px : GT.At w q.1
  ox : GT.Ok m q.1
  py : RB.At w q.2
  oy : RB.Ok m q.2
  rel : Rel q.1.view q.2.view
  nodup : (pairOwn q).Nodup
structure PW (base m : Nat) (w : World) (wb : Nat) (lv : Value) (ps : List (GT × RB)) : Prop where
  blk : w.heap[wb]? = some (.cells #[lv, .slice none 0 0, .slice none 0 0] 30)
  row : w.ownsRow 0 39 2 lv ps.length (ps.flatMap pairCells)
  each : ∀ q ∈ ps, PairAt m w q
  nodup : (pwOwn wb lv ps).Nodup
  above : ∀ b ∈ pwOwn wb lv ps, base ≤ b
  len : ps.length ≤ m
  low : base ≤ w.heap.size

theorem PairAt.lt {m : Nat} {w : World} {q : GT × RB} (h : PairAt m w q) : ∀ b ∈ pairOwn q, b < w.heap.size := by
  intro b hb
  simp only [pairOwn, List.mem_append] at hb
  rcases hb with hb | hb
  · exact h.px.lt b hb
  · exact h.py.lt b hb
theorem PairAt.frame {m : Nat} {w w' : World} {q : GT × RB} (h : PairAt m w q) (hk : ∀ b ∈ pairOwn q, w'.heap[b]? = w.heap[b]?) : PairAt m w' q :=
  ⟨h.px.frame fun b hb => hk b (by simp [pairOwn, hb]), h.ox, h.py.frame fun b hb => hk b (by simp [pairOwn, hb]), h.oy, h.rel, h.nodup⟩
theorem RB.Ok.mono {m k : Nat} {r : RB} (h : RB.Ok m r) (hk : m ≤ k) : RB.Ok k r := ⟨h.flen, h.slen, fun x hx => Nat.le_trans (h.each x hx) hk, h.flim⟩
theorem PairAt.mono {m k : Nat} {w : World} {q : GT × RB} (h : PairAt m w q) (hk : m ≤ k) : PairAt k w q := ⟨h.px, h.ox.mono hk, h.py, h.oy.mono hk, h.rel, h.nodup⟩
theorem PW.lt {base m : Nat} {w : World} {wb : Nat} {lv : Value} {ps : List (GT × RB)} (h : PW base m w wb lv ps) : ∀ b ∈ pwOwn wb lv ps, b < w.heap.size := by
  intro b hb
  simp only [pwOwn, List.mem_cons, List.mem_append, List.mem_flatMap] at hb
  rcases hb with rfl | hb | ⟨q, hq, hb⟩
  · exact lt_of h.blk
  · exact own_lt h.row b hb
  · exact (h.each q hq).lt b hb
theorem PW.frame {base m : Nat} {w w' : World} {wb : Nat} {lv : Value} {ps : List (GT × RB)} (h : PW base m w wb lv ps) (hs : w.heap.size ≤ w'.heap.size) (hk : ∀ b ∈ pwOwn wb lv ps, w'.heap[b]? = w.heap[b]?) : PW base m w' wb lv ps := by
  refine ⟨(hk _ (by simp [pwOwn])).trans h.blk, own_frame h.row fun b hb => hk b ?_, fun q hq => (h.each q hq).frame fun b hb => hk b ?_, h.nodup, h.above, h.len, Nat.le_trans h.low hs⟩
  · simp only [pwOwn, List.mem_cons, List.mem_append]; exact Or.inr (Or.inl hb)
  · simp only [pwOwn, List.mem_cons, List.mem_append, List.mem_flatMap]; exact Or.inr (Or.inr ⟨q, hq, hb⟩)
theorem PW.gb {base m : Nat} {w w' : World} {wb : Nat} {lv : Value} {ps : List (GT × RB)} (h : PW base m w wb lv ps) (hg : w.grownBy w' none) : PW base m w' wb lv ps :=
  h.frame hg.size fun b hb => hg.block b (h.lt b hb) (by simp)
theorem PW.mono {base m k : Nat} {w : World} {wb : Nat} {lv : Value} {ps : List (GT × RB)} (h : PW base m w wb lv ps) (hk : m ≤ k) : PW base k w wb lv ps :=
  ⟨h.blk, h.row, fun q hq => (h.each q hq).mono hk, h.nodup, h.above, Nat.le_trans h.len hk, h.low⟩
theorem below_kept {base : Nat} {L : List Nat} {w w' : World} (h : Kept L w w') (hb : ∀ b ∈ L, base ≤ b) (hl : base ≤ w.heap.size) : Below base w w' :=
  ⟨h.os, h.tape, h.output, h.size, fun k hk => h.block k (by omega) (fun hm => by have := hb k hm; omega)⟩

theorem pair_out {m : Nat} {t t' : GT} {r r' : RB} {w w1 w2 : World} (hnd : (pairOwn (t, r)).Nodup) (hr : RB.At w r) (h1 : Out m t t' w w1) (h2 : ROut m r r' w1 w2) (hrel : Rel t'.view r'.view) :
    PairAt m w2 (t', r') ∧ Kept (pairOwn (t, r)) w w2 ∧ (∀ b ∈ pairOwn (t', r'), b ∈ pairOwn (t, r) ∨ w.heap.size ≤ b) := by
  simp only [pairOwn, List.nodup_append] at hnd
  have hd1 : ∀ b ∈ t'.own, b ∉ r.own := fun b hb hm => by
    rcases h1.sub b hb with h | h
    · exact hnd.2.2 b h b hm rfl
    · have := hr.lt b hm; omega
  refine ⟨⟨h1.at_.kept h2.kept hd1, h1.ok, h2.at_, h2.ok, hrel, ?_⟩, ?_, ?_⟩
  · show (t'.own ++ r'.own).Nodup
    rw [List.nodup_append]
    refine ⟨h1.at_.nodup, h2.at_.nodup, fun a ha b hb e => ?_⟩
    subst e
    rcases h2.sub a hb with h | h
    · exact hd1 a ha h
    · have := h1.at_.lt a ha; omega
  · exact (h1.kept.mono fun b hb => Or.inl (by simp [pairOwn, hb])).then h2.kept (fun b hb => Or.inl (by simp [pairOwn, hb]))
  · intro b hb
    simp only [pairOwn, List.mem_append] at hb ⊢
    rcases hb with hb | hb
    · rcases h1.sub b hb with h | h
      · exact Or.inl (Or.inl h)
      · exact Or.inr h
    · rcases h2.sub b hb with h | h
      · exact Or.inl (Or.inr h)
      · exact Or.inr (Nat.le_trans h1.kept.size h)

theorem PW.upd {base m m' : Nat} {w w' : World} {wb : Nat} {lv : Value} {ps A B' : List (GT × RB)} {q q' : GT × RB} (h : PW base m w wb lv ps) (hm : m ≤ m') (e : ps = A ++ q :: B') (hb1 : q'.1.b = q.1.b) (hb2 : q'.2.b = q.2.b)
    (hat : PairAt m' w' q') (hk : Kept (pairOwn q) w w') (hsub : ∀ b ∈ pairOwn q', b ∈ pairOwn q ∨ w.heap.size ≤ b) : PW base m' w' wb lv (A ++ q' :: B') ∧ Below base w w' := by
  have eo : pwOwn wb lv ps = (wb :: (lv.ownBlock.toList ++ A.flatMap pairOwn)) ++ (pairOwn q ++ B'.flatMap pairOwn) := by simp [pwOwn, e]
  have eo' : pwOwn wb lv (A ++ q' :: B') = (wb :: (lv.ownBlock.toList ++ A.flatMap pairOwn)) ++ (pairOwn q' ++ B'.flatMap pairOwn) := by simp [pwOwn]
  have hnd0 := h.nodup
  rw [eo] at hnd0
  have hlt : ∀ b ∈ (wb :: (lv.ownBlock.toList ++ A.flatMap pairOwn)) ++ B'.flatMap pairOwn, b < w.heap.size := by
    intro b hb
    refine h.lt b ?_
    rw [eo]
    simp only [List.mem_append] at hb ⊢
    rcases hb with hb | hb
    · exact Or.inl hb
    · exact Or.inr (Or.inr hb)
  have hdis : ∀ b ∈ (wb :: (lv.ownBlock.toList ++ A.flatMap pairOwn)) ++ B'.flatMap pairOwn, b ∉ pairOwn q := by
    intro b hb hg
    simp only [List.nodup_append, List.mem_append] at hnd0 hb
    rcases hb with hb | hb
    · exact hnd0.2.2 b (by simpa using hb) b (Or.inl hg) rfl
    · exact hnd0.2.1.2.2 b hg b hb rfl
  have hsame : ∀ b ∈ (wb :: (lv.ownBlock.toList ++ A.flatMap pairOwn)) ++ B'.flatMap pairOwn, w'.heap[b]? = w.heap[b]? := fun b hb => hk.block b (hlt b hb) (hdis b hb)
  have hqb : ∀ b ∈ pairOwn q, base ≤ b := fun b hb => h.above b (by rw [eo]; simp only [List.mem_append]; exact Or.inr (Or.inl hb))
  refine ⟨⟨?_, ?_, ?_, ?_, ?_, ?_, ?_⟩, below_kept hk hqb h.low⟩
  · exact (hsame wb (by simp)).trans h.blk
  · have hr := own_frame h.row (w' := w') (fun b hb => hsame b (by simp only [List.mem_append, List.mem_cons]; exact Or.inl (Or.inr (Or.inl hb))))
    rw [e] at hr
    have e2 : pairCells q' = pairCells q := by simp [pairCells, hb1, hb2]
    simpa [e2] using hr
  · intro k hk2
    simp only [List.mem_append, List.mem_cons] at hk2
    rcases hk2 with hk2 | rfl | hk2
    · exact ((h.each k (by rw [e]; simp [hk2])).mono hm).frame fun b hb => hsame b (by simp only [List.mem_append, List.mem_cons, List.mem_flatMap]; exact Or.inl (Or.inr (Or.inr ⟨k, hk2, hb⟩)))
    · exact hat
    · exact ((h.each k (by rw [e]; simp [hk2])).mono hm).frame fun b hb => hsame b (by simp only [List.mem_append, List.mem_flatMap]; exact Or.inr ⟨k, hk2, hb⟩)
  · rw [eo']; exact nodup_swap hnd0 hat.nodup hsub hlt
  · intro b hb
    rw [eo'] at hb
    simp only [List.mem_append] at hb
    rcases hb with hb | hb | hb
    · exact h.above b (by rw [eo]; simp only [List.mem_append]; exact Or.inl hb)
    · rcases hsub b hb with h1 | h1
      · exact hqb b h1
      · have := h.low; omega
    · exact h.above b (by rw [eo]; simp only [List.mem_append]; exact Or.inr (Or.inr hb))
  · have := h.len
    rw [e] at this
    simp only [List.length_append, List.length_cons] at this ⊢
    omega
  · exact Nat.le_trans h.low hk.size

theorem names_nodup {m : Nat} {t : GT} (h : GT.Ok m t) : (t.view.map Fam.nm).Nodup := by
  have e : t.view.map Fam.nm = t.fams.map GF.nm := by simp [GT.view, GF.view]
  rw [e]
  have hs := h.srt
  unfold KSrt at hs
  refine List.Pairwise.imp ?_ hs
  intro a b hab e
  rw [e, lt_irrefl] at hab
  cases hab

theorem own_shape2 {w : World} {base : Nat} {e : TypeId} {v : Value} {n : Nat} {xs : List Value} (h : w.ownsRow base e 2 v n xs) :
    ∃ sa sc, v = .slice sa n sc ∧ n ≤ sc ∧ ((sa = none ∧ n = 0 ∧ sc = 0) ∨ ∃ g, sa = some ⟨g, 0, none⟩ ∧ g < w.heap.size) := by
  rcases h.2 with ⟨rfl, rfl⟩ | ⟨g, cap, cur, rfl, _, hg, hn, _⟩
  · exact ⟨none, 0, rfl, Nat.le_refl _, Or.inl ⟨rfl, rfl, rfl⟩⟩
  · exact ⟨_, _, rfl, hn, Or.inr ⟨g, rfl, lt_of hg⟩⟩

set_option maxHeartbeats 400000 in
theorem looks_any (base m wb : Nat) (lv : Value) (ps : List (GT × RB)) (w : World) (h : PW base m w wb lv ps) :
    Calls Tryz.prog 7 #[.pointer (some ⟨wb, 0, none⟩)] w fun e w' => e = .returned (.bool true) ∧ w' = w := by
  have c1 : w.cell? ⟨wb, 1, none⟩ = some (.slice none 0 0) := by unfold World.cell?; simp only [h.blk]; rfl
  clear h
  go_enter Tryz.func7, Tryz.ntmps7
  go_wp2_with fail
  refine wp_loop_rounds 1 ?_
  rw [rounds_succ]
  go_wp2
  go_ret
  exact ⟨rfl, rfl⟩

end Go.Proofs.YtecmkooiaghgcaaGreatDoor
