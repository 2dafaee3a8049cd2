/-
  The reader's label: a name, a sign, a value.
-/
import Derived.Test.YtcfdemhokbddiaaGreatDoorQA
import Derived.Lib.Strings

namespace Go.Proofs.YtcfdemhokbddiaaGreatDoor
open Go.RowKit

/-- Bytes as a string. -/
def B (l : List UInt8) : ByteArray := ⟨l.toArray⟩
theorem extract_B (s : ByteArray) (n k : Nat) : s.extract n (n + k) = B ((s.data.toList.drop n).take k) := by
  apply ByteArray.ext
  apply Array.ext'
  simp [B, List.extract_eq_take_drop]

def takeP (c : Nat) : List UInt8 → Option (List UInt8)
  | [] => none
  | x :: l => if x.toNat = c then some l else none

theorem take_any (b : Nat) (s : ByteArray) (n c : Nat) (w : World) (hb : w.heap[b]? = some (rdr s n)) (hn : n ≤ s.size) (hs : s.size ≤ 100) :
    Calls Tryz.prog 144 #[.pointer (some ⟨b, 0, none⟩), .int .u8 (c : Int)] w fun e w' =>
      (e = .returned (.bool true) ∧ n < s.size ∧ takeP c (s.data.toList.drop n) = some (s.data.toList.drop (n + 1)) ∧ w'.heap[b]? = some (rdr s (n + 1)) ∧ w.grownBy w' (some b)) ∨
      (e = .returned (.bool false) ∧ takeP c (s.data.toList.drop n) = none ∧ w'.heap[b]? = some (rdr s n) ∧ w.grownBy w' (some b)) := by
  by_cases h : ∃ h : n < s.size, (s[n]'h).toNat = c
  · obtain ⟨h, e⟩ := h
    refine (take_yes b s n c w hb h hs (by simp [e])).mono ?_
    rintro _ w' ⟨rfl, h1, h2⟩
    exact Or.inl ⟨rfl, h, by rw [drop_cons s n h]; simp [takeP, e], h1, h2⟩
  · refine (take_not b s n c w hb hn (fun h' e => h ⟨h', by omega⟩)).mono ?_
    rintro _ w' ⟨rfl, q, rfl⟩
    refine Or.inr ⟨rfl, ?_, hb, gb_drewN _ _ _⟩
    by_cases h' : n < s.size
    · rw [drop_cons s n h']; simp [takeP]; exact fun e => h ⟨h', e⟩
    · rw [show n = s.size from by omega, drop_all]; rfl

/-- A label: its name, its value; what is left. -/
def labelP (l : List UInt8) : Option (List UInt8 × List UInt8) × List UInt8 :=
  if nameLen 0 l = 0 then (none, l) else
  match takeP 61 (l.drop (nameLen 0 l)) with
  | none => (none, l.drop (nameLen 0 l))
  | some l2 => match takeP 34 l2 with
    | none => (none, l2)
    | some l3 => match valP 16 l3 with
      | (none, l4) => (none, l4)
      | (some v, l4) => (some (l.take (nameLen 0 l), v), l4)

def labV (o : Option (List UInt8 × List UInt8)) (n : Nat) : Value :=
  match o with
  | none => .agg #[.string ⟨#[]⟩, .string ⟨#[]⟩, .int .i64 0]
  | some p => .agg #[.string (B p.1), .string (B p.2), .int .i64 (n : Int)]

def res3 : Obj := .cells #[.string ⟨#[]⟩, .string ⟨#[]⟩, .int .i64 0] 130
theorem res3_cells {w : World} {R : Nat} (h : w.heap[R]? = some res3) :
    (w.cell? ⟨R, 0, none⟩ = some (.string ⟨#[]⟩) ∧ w.cell? ⟨R, 1, none⟩ = some (.string ⟨#[]⟩) ∧ w.cell? ⟨R, 2, none⟩ = some (.int .i64 0)) ∧
    (w.frozen? ⟨R, 0, none⟩ = false ∧ w.frozen? ⟨R, 1, none⟩ = false ∧ w.frozen? ⟨R, 2, none⟩ = false) := by
  simp [World.cell?, World.frozen?, h, res3]

theorem gb_o {a w : World} {b R o : Nat} {v : Value} (h : a.grownBy w (some b)) (hR : a.heap.size ≤ R) : a.grownBy (w.setCell ⟨R, o, none⟩ v) (some b) :=
  ⟨h.os, h.tape, h.output, by simpa [World.setCell] using h.size, fun k hk hne => by
    rw [Below.heap_setCell _ _ _ _ (by show k ≠ R; omega)]; exact h.block k hk hne⟩
theorem rdr_o {w : World} {b R o : Nat} {v : Value} {x : Option Obj} (h : w.heap[b]? = x) (hR : b ≠ R) : (w.setCell ⟨R, o, none⟩ v).heap[b]? = x := by
  rw [Below.heap_setCell _ _ _ _ hR]; exact h

set_option maxHeartbeats 800000 in
theorem label_any (b : Nat) (s : ByteArray) (n : Nat) (w : World) (hb : w.heap[b]? = some (rdr s n)) (hn : n ≤ s.size) (hs : s.size ≤ 100) :
    Calls Tryz.prog 145 #[.pointer (some ⟨b, 0, none⟩)] w fun e w' => ∃ (m : Nat) (o : Option (List UInt8 × List UInt8)), n ≤ m ∧ (o.isSome = true → n < m) ∧ m ≤ s.size ∧ labelP (s.data.toList.drop n) = (o, s.data.toList.drop m) ∧
      e = .returned (.tuple #[labV o n, .bool o.isSome]) ∧ w'.heap[b]? = some (rdr s m) ∧ w.grownBy w' (some b) := by
  have hbl := lt_of hb
  have c1 := cell1 hb
  have hb' : (w.alloc res3).heap[b]? = some (rdr s n) := by rw [Below.heap_alloc _ _ _ hbl]; exact hb
  have hR : (w.alloc res3).heap[w.heap.size]? = some res3 := by show (w.heap.push res3)[w.heap.size]? = _; simp
  have hg0 : w.grownBy (w.alloc res3) (some b) := gb_alloc (gb_refl _ _) _
  have hz0 : w.heap.size < (w.alloc res3).heap.size := by simp
  have c1' := cell1 hb'
  go_enter Tryz.func145, Tryz.ntmps145
  go_wp2_with fail
  refine (name_any b s n _ (by exact hb') hn hs).mono ?_
  rintro e w1 ⟨m1, hm1, hs1, rfl, q1, g1⟩
  have r1 : w1.heap[w.heap.size]? = some res3 := by rw [g1.block _ hz0 (by simp; omega)]; exact hR
  have g1' := gb_trans hg0 g1
  have z1 := Nat.lt_of_lt_of_le hz0 g1.size
  have HM : Hid (m1 = n + nameLen 0 (s.data.toList.drop n)) := hm1
  clear hm1 g1 hR hz0 hb' c1' c1 hb hg0
  by_cases hk : n < m1
  · have hkd : decide (n < m1) = true := by simpa using hk
    go_wp2_with fail
    refine (take_any b s m1 61 _ (by exact q1) hs1 hs).mono ?_
    rintro e w2 (⟨rfl, lt2, t2, q2, g2⟩ | ⟨rfl, t2, q2, g2⟩)
    · have r2 : w2.heap[w.heap.size]? = some res3 := by rw [g2.block _ z1 (by simp; omega)]; exact r1
      have g2' := gb_trans g1' g2
      have z2 := Nat.lt_of_lt_of_le z1 g2.size
      have T2 : Hid (takeP 61 (s.data.toList.drop m1) = some (s.data.toList.drop (m1 + 1))) := t2
      clear t2 g1' z1 r1 q1 g2
      go_wp2_with fail
      refine (take_any b s (m1 + 1) 34 _ (by exact q2) (by omega) hs).mono ?_
      rintro e w3 (⟨rfl, lt3, t3, q3, g3⟩ | ⟨rfl, t3, q3, g3⟩)
      · have r3 : w3.heap[w.heap.size]? = some res3 := by rw [g3.block _ z2 (by simp; omega)]; exact r2
        have g3' := gb_trans g2' g3
        have z3 := Nat.lt_of_lt_of_le z2 g3.size
        have T3 : Hid (takeP 34 (s.data.toList.drop (m1 + 1)) = some (s.data.toList.drop (m1 + 1 + 1))) := t3
        clear t3 g2' z2 r2 q2 g3
        go_wp2_with fail
        refine (value_any b s (m1 + 1 + 1) _ (by exact q3) (by omega) hs).mono ?_
        rintro e w4 ⟨m4, o, a1, a2, a3, rfl, q4, g4⟩
        have r4 : w4.heap[w.heap.size]? = some res3 := by rw [g4.block _ z3 (by simp; omega)]; exact r3
        have g4' := gb_trans g3' g4
        have T4 : Hid (valP 16 (s.data.toList.drop (m1 + 1 + 1)) = (o, s.data.toList.drop m4)) := a3
        clear a3 g3' z3 r3 q3 g4
        obtain ⟨⟨d0, d1, d2⟩, f0, f1, f2⟩ := res3_cells r4
        have hnm : s.extract n m1 = B ((s.data.toList.drop n).take (nameLen 0 (s.data.toList.drop n))) := by
          rw [HM.out]; exact extract_B s n _
        have HNM : Hid (s.extract n m1 = _) := hnm
        clear hnm
        have hP : labelP (s.data.toList.drop n) = match (o, s.data.toList.drop m4) with | (none, l4) => (none, l4) | (some v, l4) => (some ((s.data.toList.drop n).take (nameLen 0 (s.data.toList.drop n)), v), l4) := by
          have e0 : nameLen 0 (s.data.toList.drop n) ≠ 0 := by have := HM.out; omega
          unfold labelP
          rw [if_neg e0, List.drop_drop, ← HM.out, T2.out]
          simp only [T3.out, T4.out]
        have HP : Hid (labelP (s.data.toList.drop n) = _) := hP
        clear hP
        cases o with
        | none =>
          go_wp2
          refine bodyPost_ret (v := .tuple #[labV none n, .bool false]) (by simp [results, Tryz.results145, go_sem, labV, d0, d1, d2]) rfl ⟨m4, none, by omega, fun h => by simp at h, a2, HP.out, rfl, ?_, ?_⟩
          · exact rdr_o (rdr_o (rdr_o q4 (by omega)) (by omega)) (by omega)
          · exact gb_o (gb_o (gb_o g4' (Nat.le_refl _)) (Nat.le_refl _)) (Nat.le_refl _)
        | some v =>
          go_wp2
          refine bodyPost_ret (v := .tuple #[labV (some ((s.data.toList.drop n).take (nameLen 0 (s.data.toList.drop n)), v)) n, .bool true]) (by simp [results, Tryz.results145, go_sem, labV, d0, d1, d2, HNM.out, B]) rfl ⟨m4, some ((s.data.toList.drop n).take (nameLen 0 (s.data.toList.drop n)), v), by omega, fun h => by omega, a2, HP.out, rfl, ?_, ?_⟩
          · exact rdr_o (rdr_o (rdr_o q4 (by omega)) (by omega)) (by omega)
          · exact gb_o (gb_o (gb_o g4' (Nat.le_refl _)) (Nat.le_refl _)) (Nat.le_refl _)
      · have r3 : w3.heap[w.heap.size]? = some res3 := by rw [g3.block _ z2 (by simp; omega)]; exact r2
        have g3' := gb_trans g2' g3
        have T3 : Hid (takeP 34 (s.data.toList.drop (m1 + 1)) = none) := t3
        clear t3 g2' z2 r2 q2 g3
        obtain ⟨⟨d0, d1, d2⟩, f0, f1, f2⟩ := res3_cells r3
        have hP : labelP (s.data.toList.drop n) = (none, s.data.toList.drop (m1 + 1)) := by
          have e0 : nameLen 0 (s.data.toList.drop n) ≠ 0 := by have := HM.out; omega
          unfold labelP
          rw [if_neg e0, List.drop_drop, ← HM.out, T2.out]
          simp only [T3.out]
        have HP : Hid (labelP (s.data.toList.drop n) = _) := hP
        clear hP
        go_wp2
        refine bodyPost_ret (v := .tuple #[labV none n, .bool false]) (by simp [results, Tryz.results145, go_sem, labV, d0, d1, d2]) rfl ⟨m1 + 1, none, by omega, fun h => by simp at h, by omega, HP.out, rfl, ?_, ?_⟩
        · exact rdr_o (rdr_o (rdr_o q3 (by omega)) (by omega)) (by omega)
        · exact gb_o (gb_o (gb_o g3' (Nat.le_refl _)) (Nat.le_refl _)) (Nat.le_refl _)
    · have r2 : w2.heap[w.heap.size]? = some res3 := by rw [g2.block _ z1 (by simp; omega)]; exact r1
      have g2' := gb_trans g1' g2
      have T2 : Hid (takeP 61 (s.data.toList.drop m1) = none) := t2
      clear t2 g1' z1 r1 q1 g2
      obtain ⟨⟨d0, d1, d2⟩, f0, f1, f2⟩ := res3_cells r2
      have hP : labelP (s.data.toList.drop n) = (none, s.data.toList.drop m1) := by
        have e0 : nameLen 0 (s.data.toList.drop n) ≠ 0 := by have := HM.out; omega
        unfold labelP
        rw [if_neg e0, List.drop_drop, ← HM.out, T2.out]
      have HP : Hid (labelP (s.data.toList.drop n) = _) := hP
      clear hP
      go_wp2
      refine bodyPost_ret (v := .tuple #[labV none n, .bool false]) (by simp [results, Tryz.results145, go_sem, labV, d0, d1, d2]) rfl ⟨m1, none, by omega, fun h => by simp at h, by omega, HP.out, rfl, ?_, ?_⟩
      · exact rdr_o (rdr_o (rdr_o q2 (by omega)) (by omega)) (by omega)
      · exact gb_o (gb_o (gb_o g2' (Nat.le_refl _)) (Nat.le_refl _)) (Nat.le_refl _)
  · have hkd : decide (n < m1) = false := by simpa using hk
    obtain ⟨⟨d0, d1, d2⟩, f0, f1, f2⟩ := res3_cells r1
    have HP : Hid (labelP (s.data.toList.drop n) = (none, s.data.toList.drop m1)) := by
      have e0 : nameLen 0 (s.data.toList.drop n) = 0 := by have := HM.out; omega
      have e1 : m1 = n := by have := HM.out; omega
      rw [e1]; show labelP _ = _
      unfold labelP
      rw [if_pos e0]
    have hge : n ≤ m1 := by have := HM.out; omega
    go_wp2
    refine bodyPost_ret (v := .tuple #[labV none n, .bool false]) (by simp [results, Tryz.results145, go_sem, labV, d0, d1, d2]) rfl ⟨m1, none, hge, fun h => by simp at h, by omega, HP.out, rfl, ?_, ?_⟩
    · exact rdr_o (rdr_o (rdr_o q1 (by omega)) (by omega)) (by omega)
    · exact gb_o (gb_o (gb_o g1' (Nat.le_refl _)) (Nat.le_refl _)) (Nat.le_refl _)

end Go.Proofs.YtcfdemhokbddiaaGreatDoor

/-
  The reader's labels: one to three labels between braces, gathered in a list of the call's own.
-/
namespace Go.Proofs.YtcfdemhokbddiaaGreatDoor
open Go.RowKit

/-- A label as the program keeps it: name, value without escapes, place. -/
structure Lab where
  name : List UInt8
  val : List UInt8
  at_ : Nat

def Lab.cells (x : Lab) : List Value := [.string (B x.name), .string (B x.val), .int .i64 (x.at_ : Int)]
def labCells (ls : List Lab) : List Value := ls.flatMap Lab.cells
theorem labCells_len (ls : List Lab) : (labCells ls).length = ls.length * 3 := by
  induction ls with
  | nil => rfl
  | cons x ls ih => simp [labCells] at ih ⊢; rw [ih]; simp [Lab.cells]; omega

def closeP (x : Lab) (l : List UInt8) : Option (List Lab) × List UInt8 :=
  match takeP 125 l with
  | none => (none, l)
  | some l2 => (some [x], l2)

/-- Labels behind an opened brace, of a text of N bytes; r more may follow the first. -/
def labelsP (N : Nat) : Nat → List UInt8 → Option (List Lab) × List UInt8
  | r, l => match labelP l with
    | (none, l1) => (none, l1)
    | (some p, l1) => match r with
      | 0 => closeP ⟨p.1, p.2, N - l.length⟩ l1
      | r + 1 => match takeP 44 l1 with
        | none => closeP ⟨p.1, p.2, N - l.length⟩ l1
        | some l2 => match labelsP N r l2 with
          | (none, l3) => (none, l3)
          | (some ls, l3) => (some (⟨p.1, p.2, N - l.length⟩ :: ls), l3)

def prepL (a : List Lab) (p : Option (List Lab) × List UInt8) : Option (List Lab) × List UInt8 := (p.1.map (a ++ ·), p.2)
theorem prepL_nil (p : Option (List Lab) × List UInt8) : prepL [] p = p := by
  obtain ⟨a, l⟩ := p; cases a <;> simp [prepL]
theorem prepL_prepL (a b : List Lab) (p : Option (List Lab) × List UInt8) : prepL a (prepL b p) = prepL (a ++ b) p := by
  obtain ⟨o, l⟩ := p; cases o <;> simp [prepL]
theorem labelsP_none (N r : Nat) (l l1 : List UInt8) (h : labelP l = (none, l1)) : labelsP N r l = (none, l1) := by
  unfold labelsP; rw [h]
theorem labelsP_zero (N : Nat) (l l1 : List UInt8) (p) (h : labelP l = (some p, l1)) : labelsP N 0 l = closeP ⟨p.1, p.2, N - l.length⟩ l1 := by
  unfold labelsP; rw [h]
theorem labelsP_stop (N r : Nat) (l l1 : List UInt8) (p) (h : labelP l = (some p, l1)) (h2 : takeP 44 l1 = none) : labelsP N r l = closeP ⟨p.1, p.2, N - l.length⟩ l1 := by
  cases r with
  | zero => exact labelsP_zero N l l1 p h
  | succ r => unfold labelsP; rw [h]; simp only [h2]
theorem labelsP_more (N r : Nat) (l l1 l2 : List UInt8) (p) (h : labelP l = (some p, l1)) (h2 : takeP 44 l1 = some l2) : labelsP N (r + 1) l = prepL [⟨p.1, p.2, N - l.length⟩] (labelsP N r l2) := by
  conv => lhs; unfold labelsP
  rw [h]; simp only [h2]
  rcases hq : labelsP N r l2 with ⟨o, l3⟩
  cases o <;> simp [prepL]

def bracesP (N : Nat) (l : List UInt8) : Option (List Lab) × List UInt8 :=
  match takeP 123 l with
  | none => (none, l)
  | some l1 => labelsP N 2 l1

theorem Tryz.info44 : (Tryz.prog.info? 130).map (fun i => (i.zero, i.size, i.bytes)) = some (some (.agg #[.string ⟨#[]⟩, .string ⟨#[]⟩, .int .i64 0]), 3, 40) := by kernel_rfl

theorem drop_len (s : ByteArray) (n : Nat) (h : n ≤ s.size) : s.size - (s.data.toList.drop n).length = n := by
  rw [List.length_drop]; show s.size - (s.size - n) = n; omega

set_option maxHeartbeats 1000000 in
theorem labels_any (b : Nat) (s : ByteArray) (n : Nat) (w : World) (hb : w.heap[b]? = some (rdr s n)) (hn : n ≤ s.size) (hs : s.size ≤ 100) :
    Calls Tryz.prog 110 #[.pointer (some ⟨b, 0, none⟩)] w fun e w' => ∃ (m : Nat) (o : Option (List Lab)) (v : Value), n ≤ m ∧ m ≤ s.size ∧ bracesP s.size (s.data.toList.drop n) = (o, s.data.toList.drop m) ∧
      e = .returned (.tuple #[v, .bool o.isSome]) ∧ w'.heap[b]? = some (rdr s m) ∧ w.grownBy w' (some b) ∧
      (∀ ls, o = some ls → w'.ownsRow w.heap.size 130 3 v ls.length (labCells ls) ∧ ls.length ≤ 3) := by
  have hbl := lt_of hb
  obtain ⟨i0, hi, hz0, hz1, hz2⟩ := info_parts Tryz.info44
  have HI : Hid (Tryz.prog.info? 130 = some i0 ∧ i0.zero = some (.agg #[.string ⟨#[]⟩, .string ⟨#[]⟩, .int .i64 0]) ∧ i0.size = 3 ∧ i0.bytes = 40) := ⟨hi, hz0, hz1, hz2⟩
  clear hi hz0 hz1 hz2
  go_enter Tryz.func110, Tryz.ntmps110
  go_wp2_with fail
  refine (take_any b s n 123 _ (by exact hb) hn hs).mono ?_
  rintro e w0 (⟨rfl, lt0, t0, q0, g0⟩ | ⟨rfl, t0, q0, g0⟩)
  · have T0 : Hid (takeP 123 (s.data.toList.drop n) = some (s.data.toList.drop (n + 1))) := t0
    clear t0 hb
    go_wp2
    go_loopw [4] (fun v wr => ∃ (m : Nat) (ls : List Lab), wr.heap[b]? = some (rdr s m) ∧ wr.ownsRow w.heap.size 130 3 v ls.length (labCells ls) ∧ w.grownBy wr (some b) ∧
        n + 1 ≤ m ∧ m ≤ s.size ∧ ls.length ≤ 2 ∧ labelsP s.size 2 (s.data.toList.drop (n + 1)) = prepL ls (labelsP s.size (2 - ls.length) (s.data.toList.drop m)))
      (fun _ wr => 100 - posOf b wr)
    case atStart => exact ⟨n + 1, [], q0, World.ownsRow_nil _ _ _ _, g0, Nat.le_refl _, by omega, by simp, by simp [prepL_nil]⟩
    case round =>
      obtain ⟨m, ls, hm, hown, hg, h1, h2, h3, h4⟩ := hrel
      have H4 : Hid (labelsP s.size 2 (s.data.toList.drop (n + 1)) = prepL ls (labelsP s.size (2 - ls.length) (s.data.toList.drop m))) := h4
      clear h4 q0 g0
      go_wp2_with fail
      refine (label_any b s m _ hm h2 hs).mono ?_
      rintro e w1 ⟨m1, o, a0, a1, a2, a3, rfl, q1, g1⟩
      have A3 : Hid (labelP (s.data.toList.drop m) = (o, s.data.toList.drop m1)) := a3
      clear a3
      have hgw := gb_trans hg g1
      have hown1 : w1.ownsRow w.heap.size 130 3 _ ls.length (labCells ls) := hown.kept g1 (by
        rcases hk : Value.ownBlock _ with _ | k
        · exact Or.inl rfl
        · right; intro e; have := (hown.lt k hk).1; simp at e; omega)
      clear hown g1
      cases o with
      | none =>
        simp only [labV, Option.isSome_none]
        go_wp2
        go_ret2
        refine ⟨m1, none, _, by omega, a2, ?_, rfl, ?_, gb_alloc hgw _, fun _ h => by simp at h⟩
        · unfold bracesP; rw [T0.out]; simp only; rw [H4.out, labelsP_none _ _ _ _ A3.out]; rfl
        · rw [Below.heap_alloc _ _ _ (by have := hgw.size; omega)]; exact q1
      | some p =>
        have a1' := a1 rfl
        clear a1
        simp only [labV, Option.isSome_some]
        go_wp2_with (at_builtin; refine wpList_append_own _ rfl _ _ 79 rfl w.heap.size 130 i0 (.agg #[.string ⟨#[]⟩, .string ⟨#[]⟩, .int .i64 0]) 3 40 Tryz.underlying79 HI.out.1 HI.out.2.1 HI.out.2.2.1 HI.out.2.2.2 rfl (by decide) _ _ _ rfl ((hown1.alloc _).alloc _) ⟨w1.heap.size + 1, 0, none⟩ 1 1 [.string (B p.1), .string (B p.2), .int .i64 (m : Int)] rfl rfl ?c1 ?c2 ?c3 ?c4 ?c5 ?_)
        case c1 =>
          intro j u hj
          match j, hj with
          | 0, hj => simp at hj; subst hj; simp [Addr.add]
          | 1, hj => simp at hj; subst hj; simp [Addr.add]
          | 2, hj => simp at hj; subst hj; simp [Addr.add]
        case c2 => intro u hu; simp at hu; rcases hu with rfl | rfl | rfl <;> rfl
        case c3 => unfold maxLen; omega
        case c4 => omega
        case c5 => have := hgw.size; simp; omega
        intro v' w2 hown2 hgr _
        have hrow : ∀ k, Value.ownBlock _ = some k → w.heap.size ≤ k := fun k hk => (hown1.lt k hk).1
        have hgw2 : w.grownBy w2 (some b) := gb_row (gb_alloc (gb_alloc hgw _) _) hgr hrow
        have q2 : w2.heap[b]? = some (rdr s m1) := by
          have hlt1 : b < w1.heap.size := lt_of q1
          rw [hgr.block b (by simp; omega) (fun e => by have := hrow b e.symm; omega), Below.heap_alloc _ _ _ (by simp; omega), Below.heap_alloc _ _ _ hlt1]; exact q1
        have hx : labCells ls ++ [.string (B p.1), .string (B p.2), .int .i64 (m : Int)] = labCells (ls ++ [⟨p.1, p.2, m⟩]) := by simp [labCells, Lab.cells]
        rw [hx] at hown2
        clear hx hgr hrow hown1 hgw q1
        obtain ⟨g, cap, rfl⟩ : ∃ g cap, v' = .slice (some ⟨g, 0, none⟩) (ls.length + 1) cap := by
          rcases hown2.2 with ⟨_, h0⟩ | ⟨g', cap', cur', hv', _⟩
          · omega
          · exact ⟨g', cap', hv'⟩
        have hgl : w.heap.size ≤ g := (hown2.lt g rfl).1
        have own_kept : ∀ w3, w2.grownBy w3 (some b) → w3.ownsRow w.heap.size 130 3 (.slice (some ⟨g, 0, none⟩) (ls.length + 1) cap) (ls.length + 1) (labCells (ls ++ [⟨p.1, p.2, m⟩])) :=
          fun w3 h => hown2.kept h (Or.inr (by intro e; simp [Value.ownBlock] at e; omega))
        have OK : Hid (∀ w3, w2.grownBy w3 (some b) → _) := own_kept
        clear own_kept hown2
        have hat : s.size - (s.data.toList.drop m).length = m := drop_len s m h2
        have HAT : Hid (s.size - (s.data.toList.drop m).length = m) := hat
        clear hat
        by_cases h22 : ls.length = 2
        · have X : ((ls.length : Int) + 1 == 3) = true := by simp; omega
          have HL : Hid (ls.length = 2) := h22
          clear h22
          go_wp2_with fail
          refine (take_any b s m1 125 _ (by exact q2) a2 hs).mono ?_
          rintro e w3 (⟨rfl, lt3, t3, q3, g3⟩ | ⟨rfl, t3, q3, g3⟩)
          · have T3 : Hid (takeP 125 (s.data.toList.drop m1) = some (s.data.toList.drop (m1 + 1))) := t3
            clear t3
            go_wp2
            go_ret2
            refine ⟨m1 + 1, some (ls ++ [⟨p.1, p.2, m⟩]), _, by omega, by omega, ?_, rfl, q3, gb_trans hgw2 g3, ?_⟩
            · unfold bracesP; rw [T0.out]; simp only; rw [H4.out, HL.out, labelsP_zero _ _ _ _ A3.out, HAT.out]; simp [closeP, T3.out, prepL]
            · intro ls' h; simp at h; subst h; simp only [List.length_append, List.length_cons, List.length_nil]; exact ⟨OK.out _ g3, by omega⟩
          · have T3 : Hid (takeP 125 (s.data.toList.drop m1) = none) := t3
            clear t3
            go_wp2
            go_ret2
            refine ⟨m1, none, _, by omega, by omega, ?_, rfl, q3, gb_trans hgw2 g3, fun _ h => by simp at h⟩
            unfold bracesP; rw [T0.out]; simp only; rw [H4.out, HL.out, labelsP_zero _ _ _ _ A3.out, HAT.out]; simp [closeP, T3.out, prepL]
        · have X : ((ls.length : Int) + 1 == 3) = false := by simp; omega
          go_wp2_with fail
          refine (take_any b s m1 44 _ (by exact q2) a2 hs).mono ?_
          rintro e w3 (⟨rfl, lt3, t3, q3, g3⟩ | ⟨rfl, t3, q3, g3⟩)
          · have T3 : Hid (takeP 44 (s.data.toList.drop m1) = some (s.data.toList.drop (m1 + 1))) := t3
            clear t3
            go_wp2
            go_roundw
            case rel =>
              refine ⟨m1 + 1, ls ++ [⟨p.1, p.2, m⟩], q3, ?_, gb_trans hgw2 g3, by omega, by omega, by simp; omega, ?_⟩
              · have := OK.out _ g3; simpa using this
              · rw [H4.out, show 2 - ls.length = (1 - ls.length) + 1 from by omega, labelsP_more _ _ _ _ _ _ A3.out T3.out, prepL_prepL, HAT.out]
                congr 2; simp
            case measure => rw [posOf_rdr hm, posOf_rdr q3]; omega
          · have T3 : Hid (takeP 44 (s.data.toList.drop m1) = none) := t3
            clear t3
            go_wp2_with fail
            refine (take_any b s m1 125 _ (by exact q3) a2 hs).mono ?_
            rintro e w4 (⟨rfl, lt4, t4, q4, g4⟩ | ⟨rfl, t4, q4, g4⟩)
            · have T4 : Hid (takeP 125 (s.data.toList.drop m1) = some (s.data.toList.drop (m1 + 1))) := t4
              clear t4
              go_wp2
              go_ret2
              refine ⟨m1 + 1, some (ls ++ [⟨p.1, p.2, m⟩]), _, by omega, by omega, ?_, rfl, q4, gb_trans (gb_trans hgw2 g3) g4, ?_⟩
              · unfold bracesP; rw [T0.out]; simp only; rw [H4.out, labelsP_stop _ _ _ _ _ A3.out T3.out, HAT.out]; simp [closeP, T4.out, prepL]
              · intro ls' h; simp at h; subst h; simp only [List.length_append, List.length_cons, List.length_nil]; exact ⟨OK.out _ (gb_trans g3 g4), by omega⟩
            · have T4 : Hid (takeP 125 (s.data.toList.drop m1) = none) := t4
              clear t4
              go_wp2
              go_ret2
              refine ⟨m1, none, _, by omega, by omega, ?_, rfl, q4, gb_trans (gb_trans hgw2 g3) g4, fun _ h => by simp at h⟩
              unfold bracesP; rw [T0.out]; simp only; rw [H4.out, labelsP_stop _ _ _ _ _ A3.out T3.out, HAT.out]; simp [closeP, T4.out, prepL]
  · have T0 : Hid (takeP 123 (s.data.toList.drop n) = none) := t0
    clear t0
    go_wp2
    go_ret2
    refine ⟨n, none, _, by omega, hn, ?_, rfl, q0, g0, fun _ h => by simp at h⟩
    unfold bracesP; rw [T0.out]

end Go.Proofs.YtcfdemhokbddiaaGreatDoor

/-
  The reader's series: a name, or a name and labels, and nothing behind.
-/
namespace Go.Proofs.YtcfdemhokbddiaaGreatDoor
open Go.RowKit

def seriesP (N : Nat) (l : List UInt8) : Option (List UInt8 × List Lab) × List UInt8 :=
  if nameLen 0 l = 0 then (none, l) else
  if (l.drop (nameLen 0 l)).isEmpty then (some (l.take (nameLen 0 l), []), []) else
  match bracesP N (l.drop (nameLen 0 l)) with
  | (none, l2) => (none, l2)
  | (some ls, l2) => if l2.isEmpty then (some (l.take (nameLen 0 l), ls), l2) else (none, l2)

def nil31 : Value := .slice none 0 0
def res31 : Obj := .cells #[.string ⟨#[]⟩, .slice none 0 0] 81
theorem res31_cells {w : World} {R : Nat} (h : w.heap[R]? = some res31) :
    (w.cell? ⟨R, 0, none⟩ = some (.string ⟨#[]⟩) ∧ w.cell? ⟨R, 1, none⟩ = some (.slice none 0 0)) ∧
    (w.frozen? ⟨R, 0, none⟩ = false ∧ w.frozen? ⟨R, 1, none⟩ = false) := by
  simp [World.cell?, World.frozen?, h, res31]

/-- The name that a reading tells: none, where there is none. -/
def nmOf (o : Option (List UInt8 × List Lab)) : List UInt8 := match o with | none => [] | some p => p.1
def lsOf (o : Option (List UInt8 × List Lab)) : List Lab := match o with | none => [] | some p => p.2

theorem drop_nil_iff (s : ByteArray) (m : Nat) (h : m ≤ s.size) : (s.data.toList.drop m).isEmpty = (m == s.size) := by
  rw [Bool.eq_iff_iff, List.isEmpty_iff, List.drop_eq_nil_iff]; show s.size ≤ m ↔ _; simp; omega

theorem own_shape {w : World} {base : Nat} {e : TypeId} {size : Nat} {v : Value} {n : Nat} {xs : List Value} (h : w.ownsRow base e size v n xs) : ∃ a c, v = .slice a n c := by
  rcases h.2 with ⟨h1, h2⟩ | ⟨g, cap, cur, h1, _⟩
  · exact ⟨none, 0, by rw [h1, h2]⟩
  · exact ⟨some ⟨g, 0, none⟩, cap, h1⟩
theorem own_mono {w : World} {base base' : Nat} {e : TypeId} {size : Nat} {v : Value} {n : Nat} {xs : List Value} (h : w.ownsRow base e size v n xs) (hb : base' ≤ base) : w.ownsRow base' e size v n xs := by
  refine ⟨h.1, ?_⟩
  rcases h.2 with h1 | ⟨g, cap, cur, h1, h2, h3⟩
  · exact Or.inl h1
  · exact Or.inr ⟨g, cap, cur, h1, Nat.le_trans hb h2, h3⟩
theorem own_set {w : World} {base : Nat} {e : TypeId} {size : Nat} {v : Value} {n : Nat} {xs : List Value} {R o : Nat} {x : Value} (h : w.ownsRow base e size v n xs) (hR : R < base) : (w.setCell ⟨R, o, none⟩ x).ownsRow base e size v n xs :=
  ownsRow_setCell_other h (fun e => by have := (h.lt R e).1; omega) _

set_option maxHeartbeats 1000000 in
theorem series_any (b : Nat) (s : ByteArray) (n : Nat) (w : World) (hb : w.heap[b]? = some (rdr s n)) (hn : n ≤ s.size) (hs : s.size ≤ 100) :
    Calls Tryz.prog 72 #[.pointer (some ⟨b, 0, none⟩)] w fun e w' => ∃ (m : Nat) (o : Option (List UInt8 × List Lab)) (v : Value), m ≤ s.size ∧ seriesP s.size (s.data.toList.drop n) = (o, s.data.toList.drop m) ∧
      e = .returned (.tuple #[.agg #[.string (B (nmOf o)), v], .bool o.isSome]) ∧ w'.heap[b]? = some (rdr s m) ∧ w.grownBy w' (some b) ∧
      w'.ownsRow w.heap.size 130 3 v (lsOf o).length (labCells (lsOf o)) ∧ (lsOf o).length ≤ 3 := by
  have hbl := lt_of hb
  have hb' : (w.alloc res31).heap[b]? = some (rdr s n) := by rw [Below.heap_alloc _ _ _ hbl]; exact hb
  have hR : (w.alloc res31).heap[w.heap.size]? = some res31 := by show (w.heap.push res31)[w.heap.size]? = _; simp
  have hg0 : w.grownBy (w.alloc res31) (some b) := gb_alloc (gb_refl _ _) _
  have hz0 : w.heap.size < (w.alloc res31).heap.size := by simp
  go_enter Tryz.func72, Tryz.ntmps72
  go_wp2_with fail
  refine (name_any b s n _ (by exact hb') hn hs).mono ?_
  rintro e w1 ⟨m1, hm1, hs1, rfl, q1, g1⟩
  have r1 : w1.heap[w.heap.size]? = some res31 := by rw [g1.block _ hz0 (by simp; omega)]; exact hR
  have g1' := gb_trans hg0 g1
  have z1 := Nat.lt_of_lt_of_le hz0 g1.size
  have HM : Hid (m1 = n + nameLen 0 (s.data.toList.drop n)) := hm1
  have HNM : Hid (s.extract n m1 = B ((s.data.toList.drop n).take (nameLen 0 (s.data.toList.drop n)))) := by
    show _ = _; rw [hm1]; exact extract_B s n _
  clear hm1 g1 hR hz0 hb' hb hg0
  by_cases hk : n < m1
  · have hkd : decide (n < m1) = true := by simpa using hk
    have hE0 : ¬ nameLen 0 (s.data.toList.drop n) = 0 := by have := HM.out; omega
    by_cases he : m1 = s.size
    · have HE : Hid (m1 = s.size) := he
      clear he
      have HP : Hid (seriesP s.size (s.data.toList.drop n) = (some ((s.data.toList.drop n).take (nameLen 0 (s.data.toList.drop n)), []), s.data.toList.drop m1)) := by
        show _ = _
        unfold seriesP; rw [if_neg hE0, List.drop_drop, ← HM.out, drop_nil_iff _ _ hs1, HE.out, drop_all]; simp
      clear hE0
      go_wp2_with fail
      refine (ended_t b s m1 _ (by exact q1) HE.out).mono ?_
      rintro e w2 ⟨rfl, q, rfl⟩
      obtain ⟨⟨d0, d1⟩, f0, f1⟩ := res31_cells r1
      go_wp2
      refine bodyPost_ret (v := .tuple #[.agg #[.string (B ((s.data.toList.drop n).take (nameLen 0 (s.data.toList.drop n)))), .slice none 0 0], .bool true]) (by simp [results, Tryz.results72, go_sem, d0, d1, HNM.out]) rfl ⟨m1, some (_, []), .slice none 0 0, hs1, HP.out, rfl, ?_, ?_, World.ownsRow_nil _ _ _ _, by simp [lsOf]⟩
      · exact rdr_o (rdr_o (w := w1.drewN q) q1 (by omega)) (by omega)
      · exact gb_o (gb_o (w := w1.drewN q) (gb_d g1') (Nat.le_refl _)) (Nat.le_refl _)
    · go_wp2_with fail
      refine (ended_f b s m1 _ (by exact q1) (by omega)).mono ?_
      rintro e w2 ⟨rfl, q, rfl⟩
      go_wp2_with fail
      refine (labels_any b s m1 _ (by exact q1) hs1 hs).mono ?_
      rintro e w2 ⟨m2, o, v, a1, a2, a3, rfl, q2, g2, a4⟩
      have r2 : w2.heap[w.heap.size]? = some res31 := by rw [g2.block _ z1 (by simp; omega)]; exact r1
      have g2' := gb_trans (gb_d g1') g2
      have z2 := Nat.lt_of_lt_of_le z1 g2.size
      obtain ⟨⟨d0, d1⟩, f0, f1⟩ := res31_cells r2
      have hP : seriesP s.size (s.data.toList.drop n) = match (o, s.data.toList.drop m2) with | (none, l2) => (none, l2) | (some ls, l2) => if l2.isEmpty then (some ((s.data.toList.drop n).take (nameLen 0 (s.data.toList.drop n)), ls), l2) else (none, l2) := by
        unfold seriesP; rw [if_neg hE0, List.drop_drop, ← HM.out, drop_nil_iff _ _ hs1, if_neg (by simpa using he), a3]
      have HP : Hid (seriesP s.size (s.data.toList.drop n) = _) := hP
      clear hP hE0 a3
      cases o with
      | none =>
        clear a4
        go_wp2
        refine bodyPost_ret (v := .tuple #[.agg #[.string (B []), .slice none 0 0], .bool false]) (by simp [results, Tryz.results72, go_sem, d0, d1, B]) rfl ⟨m2, none, .slice none 0 0, a2, HP.out, rfl, ?_, ?_, World.ownsRow_nil _ _ _ _, by simp [lsOf]⟩
        · exact rdr_o (rdr_o q2 (by omega)) (by omega)
        · exact gb_o (gb_o g2' (Nat.le_refl _)) (Nat.le_refl _)
      | some ls =>
        obtain ⟨own, hl3⟩ := a4 ls rfl
        clear a4
        by_cases he2 : m2 = s.size
        · have HE2 : Hid (m2 = s.size) := he2
          clear he2
          have HP2 : Hid (seriesP s.size (s.data.toList.drop n) = (some ((s.data.toList.drop n).take (nameLen 0 (s.data.toList.drop n)), ls), s.data.toList.drop m2)) := by
            show _ = _; rw [HP.out]; simp only; rw [drop_nil_iff _ _ a2, HE2.out]; simp
          clear HP
          have HO : Hid (w2.ownsRow (w1.drewN q).heap.size 130 3 v ls.length (labCells ls)) := own
          obtain ⟨va, vc, rfl⟩ := own_shape own
          clear own
          go_wp2_with fail
          refine (ended_t b s m2 _ (by exact q2) HE2.out).mono ?_
          rintro e w3 ⟨rfl, q', rfl⟩
          go_wp2
          refine bodyPost_ret (v := .tuple #[.agg #[.string (B ((s.data.toList.drop n).take (nameLen 0 (s.data.toList.drop n)))), .slice va ls.length vc], .bool true]) (by simp [results, Tryz.results72, go_sem, d0, d1, HNM.out]) rfl ⟨m2, some (_, ls), .slice va ls.length vc, a2, HP2.out, rfl, ?_, ?_, ?_, hl3⟩
          · exact rdr_o (rdr_o (w := w2.drewN q') q2 (by omega)) (by omega)
          · exact gb_o (gb_o (w := w2.drewN q') (gb_d g2') (Nat.le_refl _)) (Nat.le_refl _)
          · exact own_mono (own_set (own_set (w := w2.drewN q') HO.out (by simp; omega)) (by simp; omega)) (by simp; omega)
        · have HP2 : Hid (seriesP s.size (s.data.toList.drop n) = (none, s.data.toList.drop m2)) := by
            show _ = _; rw [HP.out]; simp only; rw [drop_nil_iff _ _ a2]; simp [he2]
          clear HP own
          go_wp2_with fail
          refine (ended_f b s m2 _ (by exact q2) (by omega)).mono ?_
          rintro e w3 ⟨rfl, q', rfl⟩
          go_wp2
          refine bodyPost_ret (v := .tuple #[.agg #[.string (B []), .slice none 0 0], .bool false]) (by simp [results, Tryz.results72, go_sem, d0, d1, B]) rfl ⟨m2, none, .slice none 0 0, a2, HP2.out, rfl, ?_, ?_, World.ownsRow_nil _ _ _ _, by simp [lsOf]⟩
          · exact rdr_o (rdr_o (w := w2.drewN q') q2 (by omega)) (by omega)
          · exact gb_o (gb_o (w := w2.drewN q') (gb_d g2') (Nat.le_refl _)) (Nat.le_refl _)
  · have hkd : decide (n < m1) = false := by simpa using hk
    obtain ⟨⟨d0, d1⟩, f0, f1⟩ := res31_cells r1
    have HP : Hid (seriesP s.size (s.data.toList.drop n) = (none, s.data.toList.drop m1)) := by
      have e0 : nameLen 0 (s.data.toList.drop n) = 0 := by have := HM.out; omega
      have e1 : m1 = n := by have := HM.out; omega
      rw [e1]; show seriesP _ _ = _
      unfold seriesP
      rw [if_pos e0]
    go_wp2
    refine bodyPost_ret (v := .tuple #[.agg #[.string (B []), .slice none 0 0], .bool false]) (by simp [results, Tryz.results72, go_sem, d0, d1, B]) rfl ⟨m1, none, .slice none 0 0, hs1, HP.out, rfl, ?_, ?_, World.ownsRow_nil _ _ _ _, by simp [lsOf]⟩
    · exact rdr_o (rdr_o q1 (by omega)) (by omega)
    · exact gb_o (gb_o g1' (Nat.le_refl _)) (Nat.le_refl _)

end Go.Proofs.YtcfdemhokbddiaaGreatDoor

/-
  Bytes in Go's order: the order is strict and total; the place of a name among sorted names.
-/
namespace Go.Proofs.YtcfdemhokbddiaaGreatDoor
open Go.RowKit

/-- Go's order of strings. -/
def lt (a b : List UInt8) : Bool := Op.bytesLess a b
theorem lt_irrefl : ∀ a, lt a a = false := by
  intro a; unfold lt
  induction a with
  | nil => rfl
  | cons x a ih => simp [Op.bytesLess, ih]
theorem lt_trans : ∀ a b c, lt a b = true → lt b c = true → lt a c = true := by
  unfold lt
  intro a
  induction a with
  | nil =>
    intro b c h1 h2
    cases c with
    | nil => cases b <;> simp [Op.bytesLess] at h2
    | cons z c => simp [Op.bytesLess]
  | cons x a ih =>
    intro b c h1 h2
    cases b with
    | nil => simp [Op.bytesLess] at h1
    | cons y b =>
      cases c with
      | nil => simp [Op.bytesLess] at h2
      | cons z c =>
        simp [Op.bytesLess] at h1 h2 ⊢
        rcases h1 with h1 | ⟨rfl, h1⟩ <;> rcases h2 with h2 | ⟨rfl, h2⟩
        · left; exact UInt8.lt_trans h1 h2
        · left; exact h1
        · left; exact h2
        · right; exact ⟨rfl, ih _ _ h1 h2⟩
theorem lt_total : ∀ a b, lt a b = false → lt b a = false → a = b := by
  unfold lt
  intro a
  induction a with
  | nil => intro b h1 h2; cases b with | nil => rfl | cons y b => simp [Op.bytesLess] at h1
  | cons x a ih =>
    intro b h1 h2
    cases b with
    | nil => simp [Op.bytesLess] at h2
    | cons y b =>
      simp [Op.bytesLess] at h1 h2
      have hxy : x = y := by
        rcases UInt8.lt_or_lt_of_ne (a := x) (b := y) with h
        by_cases e : x = y
        · exact e
        · rcases UInt8.lt_or_lt_of_ne e with h | h
          · exact absurd h (by have := h1.1; exact UInt8.not_lt.2 this)
          · exact absurd h (by have := h2.1; exact UInt8.not_lt.2 this)
      subst hxy
      rw [ih b (h1.2 rfl) (h2.2 rfl)]
theorem lt_asymm (a b : List UInt8) (h : lt a b = true) : lt b a = false := by
  cases h2 : lt b a with
  | false => rfl
  | true => have := lt_trans a b a h h2; rw [lt_irrefl] at this; cases this

theorem toList_B (l : List UInt8) : (B l).toList = l := by rw [Lib.toList_data]; rfl

/-- What cmp.Compare answers. -/
def cmpB (a b : List UInt8) : Int := if lt a b then -1 else if a = b then 0 else 1

/-- Where a name stands, or would have to. -/
def place (t : List UInt8) : List Lab → Nat
  | [] => 0
  | x :: ls => if lt x.name t then place t ls + 1 else 0
theorem place_le (t : List UInt8) (ls : List Lab) : place t ls ≤ ls.length := by
  induction ls with
  | nil => simp [place]
  | cons x ls ih => unfold place; split <;> simp; omega
theorem place_of (t : List UInt8) (ls : List Lab) (i : Nat) (hi : i ≤ ls.length) (h1 : ∀ k (h : k < ls.length), k < i → lt (ls[k]).name t = true) (h2 : ∀ k (h : k < ls.length), i ≤ k → lt (ls[k]).name t = false) : place t ls = i := by
  induction ls generalizing i with
  | nil => simp at hi; simp [place, hi]
  | cons x ls ih =>
    unfold place
    cases i with
    | zero => have := h2 0 (by simp) (Nat.le_refl _); simp at this; simp [this]
    | succ i =>
      have := h1 0 (by simp) (by omega); simp at this; simp [this]
      exact ih i (by simpa using hi) (fun k h hk => by have := h1 (k + 1) (by simpa using h) (by omega); simpa using this) (fun k h hk => by have := h2 (k + 1) (by simpa using h) (by omega); simpa using this)

/-- Sorted by name, no name twice. -/
def Srt (ls : List Lab) : Prop := ls.Pairwise fun x y => lt x.name y.name = true
theorem Srt.get {ls : List Lab} (h : Srt ls) (i j : Nat) (hj : j < ls.length) (hij : i < j) : lt (ls[i]'(by omega)).name (ls[j]).name = true :=
  List.pairwise_iff_getElem.1 h i j (by omega) hj hij

theorem labCells_get (ls : List Lab) (k : Nat) (hk : k < ls.length) :
    (labCells ls)[k * 3]? = some (.string (B (ls[k]).name)) ∧ (labCells ls)[k * 3 + 1]? = some (.string (B (ls[k]).val)) ∧ (labCells ls)[k * 3 + 2]? = some (.int .i64 ((ls[k]).at_ : Int)) := by
  induction ls generalizing k with
  | nil => simp at hk
  | cons x ls ih =>
    have e : labCells (x :: ls) = x.cells ++ labCells ls := by simp [labCells]
    cases k with
    | zero => rw [e]; simp [Lab.cells]
    | succ k =>
      have := ih k (by simpa using hk)
      rw [e]
      rw [List.getElem?_append_right (by simp [Lab.cells]; omega), List.getElem?_append_right (by simp [Lab.cells]; omega), List.getElem?_append_right (by simp [Lab.cells]; omega)]
      simp only [Lab.cells, List.length_cons, List.length_nil, List.getElem_cons_succ]
      rw [show (k + 1) * 3 - (0 + 1 + 1 + 1) = k * 3 from by omega, show (k + 1) * 3 + 1 - (0 + 1 + 1 + 1) = k * 3 + 1 from by omega, show (k + 1) * 3 + 2 - (0 + 1 + 1 + 1) = k * 3 + 2 from by omega]
      exact this

end Go.Proofs.YtcfdemhokbddiaaGreatDoor
