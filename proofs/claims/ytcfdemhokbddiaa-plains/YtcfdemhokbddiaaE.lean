/-
  The reader's label: a name, a sign, a value.
-/
import Derived.Test.YtcfdemhokbddiaaD
namespace Go.Proofs.Ytcfdemhokbddiaa
open Go.RowKit

/-- Bytes as a string. -/
def B (l : List UInt8) : ByteArray := ⟨l.toArray⟩
theorem extract_B (s : ByteArray) (n k : Nat) : s.extract n (n + k) = B ((s.data.toList.drop n).take k) := by
  apply ByteArray.ext
  apply Array.ext'
  simp [B, List.extract_eq_take_drop]

def takeP (c : Nat) : List UInt8 → Option (List UInt8)
  | [] => none
  | x :: l => if x.toNat = c then some l else none

theorem take_any (b : Nat) (s : ByteArray) (n c : Nat) (w : World) (hb : w.heap[b]? = some (rdr s n)) (hn : n ≤ s.size) (hs : s.size ≤ 100) :
    Calls Try.prog 28 #[.pointer (some ⟨b, 0, none⟩), .int .u8 (c : Int)] w fun e w' =>
      (e = .returned (.bool true) ∧ n < s.size ∧ takeP c (s.data.toList.drop n) = some (s.data.toList.drop (n + 1)) ∧ w'.heap[b]? = some (rdr s (n + 1)) ∧ w.grownBy w' (some b)) ∨
      (e = .returned (.bool false) ∧ takeP c (s.data.toList.drop n) = none ∧ w'.heap[b]? = some (rdr s n) ∧ w.grownBy w' (some b)) := by
  by_cases h : ∃ h : n < s.size, (s[n]'h).toNat = c
  · obtain ⟨h, e⟩ := h
    refine (take_yes b s n c w hb h hs (by simp [e])).mono ?_
    rintro _ w' ⟨rfl, h1, h2⟩
    exact Or.inl ⟨rfl, h, by rw [drop_cons s n h]; simp [takeP, e], h1, h2⟩
  · refine (take_not b s n c w hb hn (fun h' e => h ⟨h', by omega⟩)).mono ?_
    rintro _ w' ⟨rfl, q, rfl⟩
    refine Or.inr ⟨rfl, ?_, hb, gb_drewN _ _ _⟩
    by_cases h' : n < s.size
    · rw [drop_cons s n h']; simp [takeP]; exact fun e => h ⟨h', e⟩
    · rw [show n = s.size from by omega, drop_all]; rfl

/-- A label: its name, its value; what is left. -/
def labelP (l : List UInt8) : Option (List UInt8 × List UInt8) × List UInt8 :=
  if nameLen 0 l = 0 then (none, l) else
  match takeP 61 (l.drop (nameLen 0 l)) with
  | none => (none, l.drop (nameLen 0 l))
  | some l2 => match takeP 34 l2 with
    | none => (none, l2)
    | some l3 => match valP 16 l3 with
      | (none, l4) => (none, l4)
      | (some v, l4) => (some (l.take (nameLen 0 l), v), l4)

def labV (o : Option (List UInt8 × List UInt8)) (n : Nat) : Value :=
  match o with
  | none => .agg #[.string ⟨#[]⟩, .string ⟨#[]⟩, .int .i64 0]
  | some p => .agg #[.string (B p.1), .string (B p.2), .int .i64 (n : Int)]

def res3 : Obj := .cells #[.string ⟨#[]⟩, .string ⟨#[]⟩, .int .i64 0] 44
theorem res3_cells {w : World} {R : Nat} (h : w.heap[R]? = some res3) :
    (w.cell? ⟨R, 0, none⟩ = some (.string ⟨#[]⟩) ∧ w.cell? ⟨R, 1, none⟩ = some (.string ⟨#[]⟩) ∧ w.cell? ⟨R, 2, none⟩ = some (.int .i64 0)) ∧
    (w.frozen? ⟨R, 0, none⟩ = false ∧ w.frozen? ⟨R, 1, none⟩ = false ∧ w.frozen? ⟨R, 2, none⟩ = false) := by
  simp [World.cell?, World.frozen?, h, res3]

theorem gb_o {a w : World} {b R o : Nat} {v : Value} (h : a.grownBy w (some b)) (hR : a.heap.size ≤ R) : a.grownBy (w.setCell ⟨R, o, none⟩ v) (some b) :=
  ⟨h.os, h.tape, h.output, by simpa [World.setCell] using h.size, fun k hk hne => by
    rw [Below.heap_setCell _ _ _ _ (by show k ≠ R; omega)]; exact h.block k hk hne⟩
theorem rdr_o {w : World} {b R o : Nat} {v : Value} {x : Option Obj} (h : w.heap[b]? = x) (hR : b ≠ R) : (w.setCell ⟨R, o, none⟩ v).heap[b]? = x := by
  rw [Below.heap_setCell _ _ _ _ hR]; exact h

set_option maxHeartbeats 800000 in
theorem label_any (b : Nat) (s : ByteArray) (n : Nat) (w : World) (hb : w.heap[b]? = some (rdr s n)) (hn : n ≤ s.size) (hs : s.size ≤ 100) :
    Calls Try.prog 29 #[.pointer (some ⟨b, 0, none⟩)] w fun e w' => ∃ (m : Nat) (o : Option (List UInt8 × List UInt8)), n ≤ m ∧ (o.isSome = true → n < m) ∧ m ≤ s.size ∧ labelP (s.data.toList.drop n) = (o, s.data.toList.drop m) ∧
      e = .returned (.tuple #[labV o n, .bool o.isSome]) ∧ w'.heap[b]? = some (rdr s m) ∧ w.grownBy w' (some b) := by
  have hbl := lt_of hb
  have c1 := cell1 hb
  have hb' : (w.alloc res3).heap[b]? = some (rdr s n) := by rw [Below.heap_alloc _ _ _ hbl]; exact hb
  have hR : (w.alloc res3).heap[w.heap.size]? = some res3 := by show (w.heap.push res3)[w.heap.size]? = _; simp
  have hg0 : w.grownBy (w.alloc res3) (some b) := gb_alloc (gb_refl _ _) _
  have hz0 : w.heap.size < (w.alloc res3).heap.size := by simp
  have c1' := cell1 hb'
  go_enter Try.func29, Try.ntmps29
  go_wp2_with fail
  refine (name_any b s n _ (by exact hb') hn hs).mono ?_
  rintro e w1 ⟨m1, hm1, hs1, rfl, q1, g1⟩
  have r1 : w1.heap[w.heap.size]? = some res3 := by rw [g1.block _ hz0 (by simp; omega)]; exact hR
  have g1' := gb_trans hg0 g1
  have z1 := Nat.lt_of_lt_of_le hz0 g1.size
  have HM : Hid (m1 = n + nameLen 0 (s.data.toList.drop n)) := hm1
  clear hm1 g1 hR hz0 hb' c1' c1 hb hg0
  by_cases hk : n < m1
  · have hkd : decide (n < m1) = true := by simpa using hk
    go_wp2_with fail
    refine (take_any b s m1 61 _ (by exact q1) hs1 hs).mono ?_
    rintro e w2 (⟨rfl, lt2, t2, q2, g2⟩ | ⟨rfl, t2, q2, g2⟩)
    · have r2 : w2.heap[w.heap.size]? = some res3 := by rw [g2.block _ z1 (by simp; omega)]; exact r1
      have g2' := gb_trans g1' g2
      have z2 := Nat.lt_of_lt_of_le z1 g2.size
      have T2 : Hid (takeP 61 (s.data.toList.drop m1) = some (s.data.toList.drop (m1 + 1))) := t2
      clear t2 g1' z1 r1 q1 g2
      go_wp2_with fail
      refine (take_any b s (m1 + 1) 34 _ (by exact q2) (by omega) hs).mono ?_
      rintro e w3 (⟨rfl, lt3, t3, q3, g3⟩ | ⟨rfl, t3, q3, g3⟩)
      · have r3 : w3.heap[w.heap.size]? = some res3 := by rw [g3.block _ z2 (by simp; omega)]; exact r2
        have g3' := gb_trans g2' g3
        have z3 := Nat.lt_of_lt_of_le z2 g3.size
        have T3 : Hid (takeP 34 (s.data.toList.drop (m1 + 1)) = some (s.data.toList.drop (m1 + 1 + 1))) := t3
        clear t3 g2' z2 r2 q2 g3
        go_wp2_with fail
        refine (value_any b s (m1 + 1 + 1) _ (by exact q3) (by omega) hs).mono ?_
        rintro e w4 ⟨m4, o, a1, a2, a3, rfl, q4, g4⟩
        have r4 : w4.heap[w.heap.size]? = some res3 := by rw [g4.block _ z3 (by simp; omega)]; exact r3
        have g4' := gb_trans g3' g4
        have T4 : Hid (valP 16 (s.data.toList.drop (m1 + 1 + 1)) = (o, s.data.toList.drop m4)) := a3
        clear a3 g3' z3 r3 q3 g4
        obtain ⟨⟨d0, d1, d2⟩, f0, f1, f2⟩ := res3_cells r4
        have hnm : s.extract n m1 = B ((s.data.toList.drop n).take (nameLen 0 (s.data.toList.drop n))) := by
          rw [HM.out]; exact extract_B s n _
        have HNM : Hid (s.extract n m1 = _) := hnm
        clear hnm
        have hP : labelP (s.data.toList.drop n) = match (o, s.data.toList.drop m4) with | (none, l4) => (none, l4) | (some v, l4) => (some ((s.data.toList.drop n).take (nameLen 0 (s.data.toList.drop n)), v), l4) := by
          have e0 : nameLen 0 (s.data.toList.drop n) ≠ 0 := by have := HM.out; omega
          unfold labelP
          rw [if_neg e0, List.drop_drop, ← HM.out, T2.out]
          simp only [T3.out, T4.out]
        have HP : Hid (labelP (s.data.toList.drop n) = _) := hP
        clear hP
        cases o with
        | none =>
          go_wp2
          refine bodyPost_ret (v := .tuple #[labV none n, .bool false]) (by simp [results, Try.results29, go_sem, labV, d0, d1, d2]) rfl ⟨m4, none, by omega, fun h => by simp at h, a2, HP.out, rfl, ?_, ?_⟩
          · exact rdr_o (rdr_o (rdr_o q4 (by omega)) (by omega)) (by omega)
          · exact gb_o (gb_o (gb_o g4' (Nat.le_refl _)) (Nat.le_refl _)) (Nat.le_refl _)
        | some v =>
          go_wp2
          refine bodyPost_ret (v := .tuple #[labV (some ((s.data.toList.drop n).take (nameLen 0 (s.data.toList.drop n)), v)) n, .bool true]) (by simp [results, Try.results29, go_sem, labV, d0, d1, d2, HNM.out, B]) rfl ⟨m4, some ((s.data.toList.drop n).take (nameLen 0 (s.data.toList.drop n)), v), by omega, fun h => by omega, a2, HP.out, rfl, ?_, ?_⟩
          · exact rdr_o (rdr_o (rdr_o q4 (by omega)) (by omega)) (by omega)
          · exact gb_o (gb_o (gb_o g4' (Nat.le_refl _)) (Nat.le_refl _)) (Nat.le_refl _)
      · have r3 : w3.heap[w.heap.size]? = some res3 := by rw [g3.block _ z2 (by simp; omega)]; exact r2
        have g3' := gb_trans g2' g3
        have T3 : Hid (takeP 34 (s.data.toList.drop (m1 + 1)) = none) := t3
        clear t3 g2' z2 r2 q2 g3
        obtain ⟨⟨d0, d1, d2⟩, f0, f1, f2⟩ := res3_cells r3
        have hP : labelP (s.data.toList.drop n) = (none, s.data.toList.drop (m1 + 1)) := by
          have e0 : nameLen 0 (s.data.toList.drop n) ≠ 0 := by have := HM.out; omega
          unfold labelP
          rw [if_neg e0, List.drop_drop, ← HM.out, T2.out]
          simp only [T3.out]
        have HP : Hid (labelP (s.data.toList.drop n) = _) := hP
        clear hP
        go_wp2
        refine bodyPost_ret (v := .tuple #[labV none n, .bool false]) (by simp [results, Try.results29, go_sem, labV, d0, d1, d2]) rfl ⟨m1 + 1, none, by omega, fun h => by simp at h, by omega, HP.out, rfl, ?_, ?_⟩
        · exact rdr_o (rdr_o (rdr_o q3 (by omega)) (by omega)) (by omega)
        · exact gb_o (gb_o (gb_o g3' (Nat.le_refl _)) (Nat.le_refl _)) (Nat.le_refl _)
    · have r2 : w2.heap[w.heap.size]? = some res3 := by rw [g2.block _ z1 (by simp; omega)]; exact r1
      have g2' := gb_trans g1' g2
      have T2 : Hid (takeP 61 (s.data.toList.drop m1) = none) := t2
      clear t2 g1' z1 r1 q1 g2
      obtain ⟨⟨d0, d1, d2⟩, f0, f1, f2⟩ := res3_cells r2
      have hP : labelP (s.data.toList.drop n) = (none, s.data.toList.drop m1) := by
        have e0 : nameLen 0 (s.data.toList.drop n) ≠ 0 := by have := HM.out; omega
        unfold labelP
        rw [if_neg e0, List.drop_drop, ← HM.out, T2.out]
      have HP : Hid (labelP (s.data.toList.drop n) = _) := hP
      clear hP
      go_wp2
      refine bodyPost_ret (v := .tuple #[labV none n, .bool false]) (by simp [results, Try.results29, go_sem, labV, d0, d1, d2]) rfl ⟨m1, none, by omega, fun h => by simp at h, by omega, HP.out, rfl, ?_, ?_⟩
      · exact rdr_o (rdr_o (rdr_o q2 (by omega)) (by omega)) (by omega)
      · exact gb_o (gb_o (gb_o g2' (Nat.le_refl _)) (Nat.le_refl _)) (Nat.le_refl _)
  · have hkd : decide (n < m1) = false := by simpa using hk
    obtain ⟨⟨d0, d1, d2⟩, f0, f1, f2⟩ := res3_cells r1
    have HP : Hid (labelP (s.data.toList.drop n) = (none, s.data.toList.drop m1)) := by
      have e0 : nameLen 0 (s.data.toList.drop n) = 0 := by have := HM.out; omega
      have e1 : m1 = n := by have := HM.out; omega
      rw [e1]; show labelP _ = _
      unfold labelP
      rw [if_pos e0]
    have hge : n ≤ m1 := by have := HM.out; omega
    go_wp2
    refine bodyPost_ret (v := .tuple #[labV none n, .bool false]) (by simp [results, Try.results29, go_sem, labV, d0, d1, d2]) rfl ⟨m1, none, hge, fun h => by simp at h, by omega, HP.out, rfl, ?_, ?_⟩
    · exact rdr_o (rdr_o (rdr_o q1 (by omega)) (by omega)) (by omega)
    · exact gb_o (gb_o (gb_o g1' (Nat.le_refl _)) (Nat.le_refl _)) (Nat.le_refl _)

end Go.Proofs.Ytcfdemhokbddiaa
