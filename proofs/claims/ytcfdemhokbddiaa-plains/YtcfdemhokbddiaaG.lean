/-
  The reader's series: a name, or a name and labels, and nothing behind.
-/
import Derived.Test.YtcfdemhokbddiaaF
namespace Go.Proofs.Ytcfdemhokbddiaa
open Go.RowKit

def seriesP (N : Nat) (l : List UInt8) : Option (List UInt8 × List Lab) × List UInt8 :=
  if nameLen 0 l = 0 then (none, l) else
  if (l.drop (nameLen 0 l)).isEmpty then (some (l.take (nameLen 0 l), []), []) else
  match bracesP N (l.drop (nameLen 0 l)) with
  | (none, l2) => (none, l2)
  | (some ls, l2) => if l2.isEmpty then (some (l.take (nameLen 0 l), ls), l2) else (none, l2)

def nil31 : Value := .slice none 0 0
def res31 : Obj := .cells #[.string ⟨#[]⟩, .slice none 0 0] 31
theorem res31_cells {w : World} {R : Nat} (h : w.heap[R]? = some res31) :
    (w.cell? ⟨R, 0, none⟩ = some (.string ⟨#[]⟩) ∧ w.cell? ⟨R, 1, none⟩ = some (.slice none 0 0)) ∧
    (w.frozen? ⟨R, 0, none⟩ = false ∧ w.frozen? ⟨R, 1, none⟩ = false) := by
  simp [World.cell?, World.frozen?, h, res31]

/-- The name that a reading tells: none, where there is none. -/
def nmOf (o : Option (List UInt8 × List Lab)) : List UInt8 := match o with | none => [] | some p => p.1
def lsOf (o : Option (List UInt8 × List Lab)) : List Lab := match o with | none => [] | some p => p.2

theorem drop_nil_iff (s : ByteArray) (m : Nat) (h : m ≤ s.size) : (s.data.toList.drop m).isEmpty = (m == s.size) := by
  rw [Bool.eq_iff_iff, List.isEmpty_iff, List.drop_eq_nil_iff]; show s.size ≤ m ↔ _; simp; omega

theorem own_shape {w : World} {base : Nat} {e : TypeId} {size : Nat} {v : Value} {n : Nat} {xs : List Value} (h : w.ownsRow base e size v n xs) : ∃ a c, v = .slice a n c := by
  rcases h.2 with ⟨h1, h2⟩ | ⟨g, cap, cur, h1, _⟩
  · exact ⟨none, 0, by rw [h1, h2]⟩
  · exact ⟨some ⟨g, 0, none⟩, cap, h1⟩
theorem own_mono {w : World} {base base' : Nat} {e : TypeId} {size : Nat} {v : Value} {n : Nat} {xs : List Value} (h : w.ownsRow base e size v n xs) (hb : base' ≤ base) : w.ownsRow base' e size v n xs := by
  refine ⟨h.1, ?_⟩
  rcases h.2 with h1 | ⟨g, cap, cur, h1, h2, h3⟩
  · exact Or.inl h1
  · exact Or.inr ⟨g, cap, cur, h1, Nat.le_trans hb h2, h3⟩
theorem own_set {w : World} {base : Nat} {e : TypeId} {size : Nat} {v : Value} {n : Nat} {xs : List Value} {R o : Nat} {x : Value} (h : w.ownsRow base e size v n xs) (hR : R < base) : (w.setCell ⟨R, o, none⟩ x).ownsRow base e size v n xs :=
  ownsRow_setCell_other h (fun e => by have := (h.lt R e).1; omega) _

set_option maxHeartbeats 1000000 in
theorem series_any (b : Nat) (s : ByteArray) (n : Nat) (w : World) (hb : w.heap[b]? = some (rdr s n)) (hn : n ≤ s.size) (hs : s.size ≤ 100) :
    Calls Try.prog 10 #[.pointer (some ⟨b, 0, none⟩)] w fun e w' => ∃ (m : Nat) (o : Option (List UInt8 × List Lab)) (v : Value), m ≤ s.size ∧ seriesP s.size (s.data.toList.drop n) = (o, s.data.toList.drop m) ∧
      e = .returned (.tuple #[.agg #[.string (B (nmOf o)), v], .bool o.isSome]) ∧ w'.heap[b]? = some (rdr s m) ∧ w.grownBy w' (some b) ∧
      w'.ownsRow w.heap.size 44 3 v (lsOf o).length (labCells (lsOf o)) ∧ (lsOf o).length ≤ 3 := by
  have hbl := lt_of hb
  have hb' : (w.alloc res31).heap[b]? = some (rdr s n) := by rw [Below.heap_alloc _ _ _ hbl]; exact hb
  have hR : (w.alloc res31).heap[w.heap.size]? = some res31 := by show (w.heap.push res31)[w.heap.size]? = _; simp
  have hg0 : w.grownBy (w.alloc res31) (some b) := gb_alloc (gb_refl _ _) _
  have hz0 : w.heap.size < (w.alloc res31).heap.size := by simp
  go_enter Try.func10, Try.ntmps10
  go_wp2_with fail
  refine (name_any b s n _ (by exact hb') hn hs).mono ?_
  rintro e w1 ⟨m1, hm1, hs1, rfl, q1, g1⟩
  have r1 : w1.heap[w.heap.size]? = some res31 := by rw [g1.block _ hz0 (by simp; omega)]; exact hR
  have g1' := gb_trans hg0 g1
  have z1 := Nat.lt_of_lt_of_le hz0 g1.size
  have HM : Hid (m1 = n + nameLen 0 (s.data.toList.drop n)) := hm1
  have HNM : Hid (s.extract n m1 = B ((s.data.toList.drop n).take (nameLen 0 (s.data.toList.drop n)))) := by
    show _ = _; rw [hm1]; exact extract_B s n _
  clear hm1 g1 hR hz0 hb' hb hg0
  by_cases hk : n < m1
  · have hkd : decide (n < m1) = true := by simpa using hk
    have hE0 : ¬ nameLen 0 (s.data.toList.drop n) = 0 := by have := HM.out; omega
    by_cases he : m1 = s.size
    · have HE : Hid (m1 = s.size) := he
      clear he
      have HP : Hid (seriesP s.size (s.data.toList.drop n) = (some ((s.data.toList.drop n).take (nameLen 0 (s.data.toList.drop n)), []), s.data.toList.drop m1)) := by
        show _ = _
        unfold seriesP; rw [if_neg hE0, List.drop_drop, ← HM.out, drop_nil_iff _ _ hs1, HE.out, drop_all]; simp
      clear hE0
      go_wp2_with fail
      refine (ended_t b s m1 _ (by exact q1) HE.out).mono ?_
      rintro e w2 ⟨rfl, q, rfl⟩
      obtain ⟨⟨d0, d1⟩, f0, f1⟩ := res31_cells r1
      go_wp2
      refine bodyPost_ret (v := .tuple #[.agg #[.string (B ((s.data.toList.drop n).take (nameLen 0 (s.data.toList.drop n)))), .slice none 0 0], .bool true]) (by simp [results, Try.results10, go_sem, d0, d1, HNM.out]) rfl ⟨m1, some (_, []), .slice none 0 0, hs1, HP.out, rfl, ?_, ?_, World.ownsRow_nil _ _ _ _, by simp [lsOf]⟩
      · exact rdr_o (rdr_o (w := w1.drewN q) q1 (by omega)) (by omega)
      · exact gb_o (gb_o (w := w1.drewN q) (gb_d g1') (Nat.le_refl _)) (Nat.le_refl _)
    · go_wp2_with fail
      refine (ended_f b s m1 _ (by exact q1) (by omega)).mono ?_
      rintro e w2 ⟨rfl, q, rfl⟩
      go_wp2_with fail
      refine (labels_any b s m1 _ (by exact q1) hs1 hs).mono ?_
      rintro e w2 ⟨m2, o, v, a1, a2, a3, rfl, q2, g2, a4⟩
      have r2 : w2.heap[w.heap.size]? = some res31 := by rw [g2.block _ z1 (by simp; omega)]; exact r1
      have g2' := gb_trans (gb_d g1') g2
      have z2 := Nat.lt_of_lt_of_le z1 g2.size
      obtain ⟨⟨d0, d1⟩, f0, f1⟩ := res31_cells r2
      have hP : seriesP s.size (s.data.toList.drop n) = match (o, s.data.toList.drop m2) with | (none, l2) => (none, l2) | (some ls, l2) => if l2.isEmpty then (some ((s.data.toList.drop n).take (nameLen 0 (s.data.toList.drop n)), ls), l2) else (none, l2) := by
        unfold seriesP; rw [if_neg hE0, List.drop_drop, ← HM.out, drop_nil_iff _ _ hs1, if_neg (by simpa using he), a3]
      have HP : Hid (seriesP s.size (s.data.toList.drop n) = _) := hP
      clear hP hE0 a3
      cases o with
      | none =>
        clear a4
        go_wp2
        refine bodyPost_ret (v := .tuple #[.agg #[.string (B []), .slice none 0 0], .bool false]) (by simp [results, Try.results10, go_sem, d0, d1, B]) rfl ⟨m2, none, .slice none 0 0, a2, HP.out, rfl, ?_, ?_, World.ownsRow_nil _ _ _ _, by simp [lsOf]⟩
        · exact rdr_o (rdr_o q2 (by omega)) (by omega)
        · exact gb_o (gb_o g2' (Nat.le_refl _)) (Nat.le_refl _)
      | some ls =>
        obtain ⟨own, hl3⟩ := a4 ls rfl
        clear a4
        by_cases he2 : m2 = s.size
        · have HE2 : Hid (m2 = s.size) := he2
          clear he2
          have HP2 : Hid (seriesP s.size (s.data.toList.drop n) = (some ((s.data.toList.drop n).take (nameLen 0 (s.data.toList.drop n)), ls), s.data.toList.drop m2)) := by
            show _ = _; rw [HP.out]; simp only; rw [drop_nil_iff _ _ a2, HE2.out]; simp
          clear HP
          have HO : Hid (w2.ownsRow (w1.drewN q).heap.size 44 3 v ls.length (labCells ls)) := own
          obtain ⟨va, vc, rfl⟩ := own_shape own
          clear own
          go_wp2_with fail
          refine (ended_t b s m2 _ (by exact q2) HE2.out).mono ?_
          rintro e w3 ⟨rfl, q', rfl⟩
          go_wp2
          refine bodyPost_ret (v := .tuple #[.agg #[.string (B ((s.data.toList.drop n).take (nameLen 0 (s.data.toList.drop n)))), .slice va ls.length vc], .bool true]) (by simp [results, Try.results10, go_sem, d0, d1, HNM.out]) rfl ⟨m2, some (_, ls), .slice va ls.length vc, a2, HP2.out, rfl, ?_, ?_, ?_, hl3⟩
          · exact rdr_o (rdr_o (w := w2.drewN q') q2 (by omega)) (by omega)
          · exact gb_o (gb_o (w := w2.drewN q') (gb_d g2') (Nat.le_refl _)) (Nat.le_refl _)
          · exact own_mono (own_set (own_set (w := w2.drewN q') HO.out (by simp; omega)) (by simp; omega)) (by simp; omega)
        · have HP2 : Hid (seriesP s.size (s.data.toList.drop n) = (none, s.data.toList.drop m2)) := by
            show _ = _; rw [HP.out]; simp only; rw [drop_nil_iff _ _ a2]; simp [he2]
          clear HP own
          go_wp2_with fail
          refine (ended_f b s m2 _ (by exact q2) (by omega)).mono ?_
          rintro e w3 ⟨rfl, q', rfl⟩
          go_wp2
          refine bodyPost_ret (v := .tuple #[.agg #[.string (B []), .slice none 0 0], .bool false]) (by simp [results, Try.results10, go_sem, d0, d1, B]) rfl ⟨m2, none, .slice none 0 0, a2, HP2.out, rfl, ?_, ?_, World.ownsRow_nil _ _ _ _, by simp [lsOf]⟩
          · exact rdr_o (rdr_o (w := w2.drewN q') q2 (by omega)) (by omega)
          · exact gb_o (gb_o (w := w2.drewN q') (gb_d g2') (Nat.le_refl _)) (Nat.le_refl _)
  · have hkd : decide (n < m1) = false := by simpa using hk
    obtain ⟨⟨d0, d1⟩, f0, f1⟩ := res31_cells r1
    have HP : Hid (seriesP s.size (s.data.toList.drop n) = (none, s.data.toList.drop m1)) := by
      have e0 : nameLen 0 (s.data.toList.drop n) = 0 := by have := HM.out; omega
      have e1 : m1 = n := by have := HM.out; omega
      rw [e1]; show seriesP _ _ = _
      unfold seriesP
      rw [if_pos e0]
    go_wp2
    refine bodyPost_ret (v := .tuple #[.agg #[.string (B []), .slice none 0 0], .bool false]) (by simp [results, Try.results10, go_sem, d0, d1, B]) rfl ⟨m1, none, .slice none 0 0, hs1, HP.out, rfl, ?_, ?_, World.ownsRow_nil _ _ _ _, by simp [lsOf]⟩
    · exact rdr_o (rdr_o q1 (by omega)) (by omega)
    · exact gb_o (gb_o g1' (Nat.le_refl _)) (Nat.le_refl _)

end Go.Proofs.Ytcfdemhokbddiaa
