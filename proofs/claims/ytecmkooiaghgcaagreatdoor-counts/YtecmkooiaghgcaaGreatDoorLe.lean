/-
  A board more.
-/
import Derived.Test.YtecmkooiaghgcaaGreatDoorLd

namespace Go.Proofs.YtecmkooiaghgcaaGreatDoor
open Go.RowKit

def zeroRest : List Value := [.slice none 0 0, .int .i64 0, .bool false, .slice none 0 0, .int .i64 0, .bool false, .slice none 0 0, .int .i64 0, .bool false, .int .i64 0]
def refZero : Obj := .cells #[.slice none 0 0, .slice none 0 0, .slice none 0 0, .int .i64 0, .bool false, .slice none 0 0, .int .i64 0, .bool false, .slice none 0 0, .int .i64 0, .bool false, .int .i64 0] 71
def newT (x : Nat) : GT := ⟨x, .slice none 0 0, []⟩
def newR (y : Nat) : RB := ⟨y, .slice none 0 0, [], .slice none 0 0, [], zeroRest⟩

theorem newPair_at {w : World} {x y m : Nat} (hx : w.heap[x]? = some (.cells #[.slice none 0 0] 80)) (hy : w.heap[y]? = some refZero) (hne : x ≠ y) : PairAt m w (newT x, newR y) := by
  refine ⟨⟨hx, World.ownsRow_nil _ _ _ _, by simp [newT], by simp [newT, GT.own, Value.ownBlock]⟩, ⟨List.Pairwise.nil, by simp [newT], by simp [newT], by simp [newT], by simp [newT]⟩,
    ⟨hy, World.ownsRow_nil _ _ _ _, World.ownsRow_nil _ _ _ _, by simp [newR], by simp [newR], by simp [newR, RB.own, Value.ownBlock]⟩, ⟨by simp [newR], by simp [newR], by simp [newR], by simp [newR]⟩, ?_, ?_⟩
  · exact Rel.start
  · simp [pairOwn, newT, newR, GT.own, RB.own, Value.ownBlock, hne]

theorem pw_more {base m : Nat} {w w1 w3 : World} {wb : Nat} {lv lv' : Value} {ps : List (GT × RB)} (h : PW base m w wb lv ps) (x y : Nat) (hx : w.heap.size ≤ x) (hxy : x < y) (hy : y < w1.heap.size) (g1 : w.grownBy w1 none) (hbx : w1.heap[x]? = some (.cells #[.slice none 0 0] 80)) (hby : w1.heap[y]? = some refZero)
    (g3 : w1.grownBy w3 lv.ownBlock) (hrow : w3.ownsRow 0 39 2 lv' (ps.length + 1) (ps.flatMap pairCells ++ pairCells (newT x, newR y))) (hft : lv'.ownBlock = lv.ownBlock ∨ lv'.ownBlock = some w1.heap.size) :
    PW base (m + 1) (w3.setCell ⟨wb, 0, none⟩ lv') wb lv' (ps ++ [(newT x, newR y)]) ∧ Below base w (w3.setCell ⟨wb, 0, none⟩ lv') := by
  have hnd := h.nodup
  unfold pwOwn at hnd
  simp only [List.nodup_cons, List.nodup_append, List.mem_append] at hnd
  obtain ⟨n1, n2, n3, n4⟩ := hnd
  have hlt := h.lt
  have hwb := lt_of h.blk
  have hlow := h.low
  have hnot : ∀ b, b < w1.heap.size → b ∉ lv.ownBlock.toList → w3.heap[b]? = w1.heap[b]? := fun b hb hn => g3.block b hb (fun e => hn (by rw [← e]; simp))
  have hlvlt : ∀ b ∈ lv.ownBlock.toList, b < w.heap.size := own_lt h.row
  have hsame : ∀ b, b < w.heap.size → b ≠ wb → b ∉ lv.ownBlock.toList → (w3.setCell ⟨wb, 0, none⟩ lv').heap[b]? = w.heap[b]? := fun b hb hne hn => by
    rw [Below.heap_setCell _ _ _ _ (by show b ≠ wb; exact hne), hnot b (by have := g1.size; omega) hn]; exact g1.block b hb (by simp)
  have hlv'ne : ∀ b ∈ lv'.ownBlock.toList, b ≠ wb := fun b hb e => by
    rcases hft with e2 | e2
    · rw [e2] at hb; exact n1 (Or.inl (by rw [← e]; exact hb))
    · rw [e2] at hb
      have : b = w1.heap.size := by simpa using hb
      have := g1.size; omega
  have hnew : ∀ b, w.heap.size ≤ b → b < w1.heap.size → (w3.setCell ⟨wb, 0, none⟩ lv').heap[b]? = w1.heap[b]? := fun b hb hb1 => by
    rw [Below.heap_setCell _ _ _ _ (by show b ≠ wb; omega)]
    exact hnot b hb1 (fun hm => by have := hlvlt b hm; omega)
  have hpo : pairOwn (newT x, newR y) = [x, y] := by simp [pairOwn, newT, newR, GT.own, RB.own, Value.ownBlock]
  have hb0 : (w3.setCell ⟨wb, 0, none⟩ lv').heap[wb]? = some (.cells #[lv', .slice none 0 0, .slice none 0 0] 30) := by
    rw [text_set (((hnot wb (by have := g1.size; omega) (fun hm => n1 (Or.inl hm))).trans (g1.block wb hwb (by simp))).trans h.blk)]; rfl
  refine ⟨⟨hb0, ?_, ?_, ?_, ?_, ?_, ?_⟩, ?_⟩
  · have := own_frame hrow (w' := w3.setCell ⟨wb, 0, none⟩ lv') (fun b hb => by rw [Below.heap_setCell _ _ _ _ (by show b ≠ wb; exact hlv'ne b hb)])
    simpa using this
  · intro q hq
    simp only [List.mem_append, List.mem_cons, List.not_mem_nil, or_false] at hq
    rcases hq with hq | rfl
    · refine ((h.each q hq).mono (Nat.le_succ m)).frame fun b hb => hsame b ((h.each q hq).lt b hb) (fun e => n1 (Or.inr (by rw [List.mem_flatMap]; exact ⟨q, hq, by rw [← e]; exact hb⟩))) (fun hm => n4 b hm b (by rw [List.mem_flatMap]; exact ⟨q, hq, hb⟩) rfl)
    · exact newPair_at ((hnew x hx (by omega)).trans hbx) ((hnew y (by omega) hy).trans hby) (by omega)
  · have e0 : pwOwn wb lv ps = ([wb] ++ lv.ownBlock.toList) ++ (ps.flatMap pairOwn ++ []) := by simp [pwOwn]
    have hn := h.nodup
    have e1 : pwOwn wb lv ps = (wb :: (lv.ownBlock.toList ++ ps.flatMap pairOwn)) ++ ([] ++ []) := by simp [pwOwn]
    rw [e1] at hn
    have hs1 := nodup_swap (G' := [x, y]) (n := w.heap.size) hn (by simp; omega) (fun b hb => Or.inr (by simp at hb; omega)) (fun b hb => hlt b (by rw [e1]; simpa using hb))
    have e2 : (wb :: (lv.ownBlock.toList ++ ps.flatMap pairOwn)) ++ ([x, y] ++ []) = [wb] ++ (lv.ownBlock.toList ++ (ps.flatMap pairOwn ++ [x, y])) := by simp
    rw [e2] at hs1
    have e3 : pwOwn wb lv' (ps ++ [(newT x, newR y)]) = [wb] ++ (lv'.ownBlock.toList ++ (ps.flatMap pairOwn ++ [x, y])) := by simp [pwOwn, hpo]
    rw [e3]
    refine nodup_swap (n := w1.heap.size) hs1 (opt_nodup _) (fun b hb => ?_) (fun b hb => ?_)
    · rcases hft with e | e
      · rw [e] at hb; exact Or.inl hb
      · rw [e] at hb
        have : b = w1.heap.size := by simpa using hb
        exact Or.inr (by omega)
    · have hsz := g1.size
      simp only [List.mem_append, List.mem_cons, List.not_mem_nil, or_false] at hb
      rcases hb with rfl | hb | rfl | rfl
      · omega
      · have := hlt b (by simp only [pwOwn, List.mem_cons, List.mem_append]; exact Or.inr (Or.inr hb)); omega
      · omega
      · omega
  · intro b hb
    simp only [pwOwn, List.mem_cons, List.mem_append, List.flatMap_append, List.flatMap_cons, List.flatMap_nil, hpo, List.append_nil] at hb
    have hold : ∀ b ∈ pwOwn wb lv ps, base ≤ b := h.above
    rcases hb with hb | hb | hb | rfl | rfl | hb
    · exact hold b (by simp [pwOwn, hb])
    · rcases hft with e | e
      · rw [e] at hb; exact hold b (by simp only [pwOwn, List.mem_cons, List.mem_append]; exact Or.inr (Or.inl hb))
      · rw [e] at hb
        have : b = w1.heap.size := by simpa using hb
        have := g1.size; omega
    · exact hold b (by simp only [pwOwn, List.mem_cons, List.mem_append]; exact Or.inr (Or.inr hb))
    · omega
    · omega
    · simp at hb
  · have := h.len; simp; omega
  · have := g1.size; have := g3.size; simp; omega
  · refine ⟨g3.os.trans g1.os, g3.tape.trans g1.tape, g3.output.trans g1.output, ?_, fun k hk => hsame k (by omega) (fun e => by have := h.above wb (by simp [pwOwn]); omega) (fun hm => by have := h.above k (by simp only [pwOwn, List.mem_cons, List.mem_append]; exact Or.inr (Or.inl hm)); omega)⟩
    have := g1.size; have := g3.size; simp; omega

theorem Tryz.info39 : (Tryz.prog.info? 39).map (fun i => (i.zero, i.size, i.bytes)) = some (some (.agg #[.pointer none, .pointer none]), 2, 16) := by kernel_rfl

set_option maxRecDepth 100000 in
set_option maxHeartbeats 1000000 in
theorem more_any (base m wb : Nat) (lv : Value) (ps : List (GT × RB)) (w : World) (h : PW base m w wb lv ps) (hm : m ≤ 4398046511104) :
    Calls Tryz.prog 8 #[.pointer (some ⟨wb, 0, none⟩)] w fun e w' => e = .returned (.bool true) ∧ ∃ lv' ps', PW base (m + 1) w' wb lv' ps' ∧ ps' ≠ [] ∧ Below base w w' := by
  have hlen := h.len
  have c0 : w.cell? ⟨wb, 0, none⟩ = some lv := by unfold World.cell?; simp only [h.blk]; rfl
  have z0 : w.frozen? ⟨wb, 0, none⟩ = false := by unfold World.frozen?; simp only [h.blk]; simp
  have hwl := lt_of h.blk
  obtain ⟨sa, sc, hlv, _, _⟩ := own_shape2 h.row
  have hrow := h.row
  have hnb : some wb ≠ lv.ownBlock := fun e => by
    have hn := h.nodup
    unfold pwOwn at hn
    rw [List.nodup_cons] at hn
    exact hn.1 (by rw [← e]; simp)
  have HH : Hid (PW base m w wb lv ps) := h
  have HLV : Hid (lv = .slice sa ps.length sc) := hlv
  rw [hlv] at c0 hrow hnb
  obtain ⟨i9, hi9, hz90, hz91, hz92⟩ := info_parts Tryz.info39
  have HI : Hid (Tryz.prog.info? 39 = some i9 ∧ i9.zero = some (.agg #[.pointer none, .pointer none]) ∧ i9.size = 2 ∧ i9.bytes = 16) := ⟨hi9, hz90, hz91, hz92⟩
  have ga1 := gb_alloc (gb_refl w none) (.cells #[.slice none 0 0] 80)
  have ga2 := gb_alloc ga1 refZero
  have ga3 := gb_alloc ga2 (.cells #[.pointer (some ⟨w.heap.size, 0, none⟩), .pointer (some ⟨w.heap.size + 1, 0, none⟩)] 39)
  have c01 := gb_cell ga1 c0 (by simp)
  have c02 := gb_cell ga2 c0 (by simp)
  have c03 := gb_cell ga3 c0 (by simp)
  have z03 := gb_froz ga3 hwl z0 (by simp)
  have bn : (((w.alloc (.cells #[.slice none 0 0] 80)).alloc refZero).alloc (.cells #[.pointer (some ⟨w.heap.size, 0, none⟩), .pointer (some ⟨w.heap.size + 1, 0, none⟩)] 39)).heap[w.heap.size + 2]? = some (.cells #[.pointer (some ⟨w.heap.size, 0, none⟩), .pointer (some ⟨w.heap.size + 1, 0, none⟩)] 39) := alloc_new _ _ _ (by simp)
  have HX : Hid ((((w.alloc (.cells #[.slice none 0 0] 80)).alloc refZero).alloc (.cells #[.pointer (some ⟨w.heap.size, 0, none⟩), .pointer (some ⟨w.heap.size + 1, 0, none⟩)] 39)).heap[w.heap.size]? = some (.cells #[.slice none 0 0] 80)) := by
    show _ = _
    rw [Below.heap_alloc _ _ _ (by simp; omega), Below.heap_alloc _ _ _ (by simp)]; exact alloc_new _ _ _ rfl
  have HY : Hid ((((w.alloc (.cells #[.slice none 0 0] 80)).alloc refZero).alloc (.cells #[.pointer (some ⟨w.heap.size, 0, none⟩), .pointer (some ⟨w.heap.size + 1, 0, none⟩)] 39)).heap[w.heap.size + 1]? = some refZero) := by
    show _ = _
    rw [Below.heap_alloc _ _ _ (by simp)]; exact alloc_new _ _ _ (by simp)
  have hrow3 := ((hrow.alloc (.cells #[.slice none 0 0] 80)).alloc refZero).alloc (.cells #[.pointer (some ⟨w.heap.size, 0, none⟩), .pointer (some ⟨w.heap.size + 1, 0, none⟩)] 39)
  clear hi9 hz90 hz91 hz92 h hlv hrow
  go_enter Tryz.func8, Tryz.ntmps8
  go_wp2_with fail
  refine (new_any _).mono ?_
  rintro e w1 ⟨rfl, rfl⟩
  go_wp2_with (at_builtin; refine wpList_append_foot _ rfl _ _ 26 rfl 39 i9 (.agg #[.pointer none, .pointer none]) 2 16 Tryz.underlying26 HI.out.1 HI.out.2.1 HI.out.2.2.1 HI.out.2.2.2 rfl (by decide) (.slice sa ps.length sc) ps.length (ps.flatMap pairCells) rfl (by exact hrow3) ⟨w.heap.size + 2, 0, none⟩ 1 1 (by omega) (pairCells (newT w.heap.size, newR (w.heap.size + 1))) rfl rfl (cells_blk _ bn) (fun v hv => by simp [pairCells] at hv; rcases hv with rfl | rfl <;> rfl) (by unfold maxLen; omega) (by omega) ?_; intro lv' w3 own3 g3 hft; obtain ⟨xa, xc, rfl, _, _⟩ := own_shape2 own3; have z3 := gb_froz g3 (by simp; omega) (by exact z03) hnb; have c3 := gb_cell g3 (by exact c03) hnb)
  go_ret
  rw [← HLV.out] at g3 hft
  obtain ⟨k1, k2⟩ := pw_more HH.out w.heap.size (w.heap.size + 1) (Nat.le_refl _) (by omega) (by simp) ga3 HX.out HY.out g3 own3 hft
  exact ⟨rfl, _, _, k1, by simp, k2⟩

end Go.Proofs.YtecmkooiaghgcaaGreatDoor
