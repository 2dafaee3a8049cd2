/-
  The document's own reader: a byte of a label's name, of a value.
-/
import Derived.Test.YtcfdemhokbddiaaQ
namespace Go.Proofs.Ytcfdemhokbddiaa
open Go.RowKit

theorem labCells_snoc (a : List Lab) (x : Lab) : labCells (a ++ [x]) = labCells a ++ x.cells := by simp [labCells]
theorem set_name (a : List Lab) (x : Lab) (l : List UInt8) : (labCells (a ++ [x])).set (a.length * 3) (.string (B l)) = labCells (a ++ [{ x with name := l }]) := by
  rw [labCells_snoc, labCells_snoc, List.set_append_right _ _ (by rw [labCells_len]; omega), labCells_len]
  simp [Lab.cells]
theorem set_val (a : List Lab) (x : Lab) (l : List UInt8) : (labCells (a ++ [x])).set (a.length * 3 + 1) (.string (B l)) = labCells (a ++ [{ x with val := l }]) := by
  rw [labCells_snoc, labCells_snoc, List.set_append_right _ _ (by rw [labCells_len]; omega), labCells_len]
  simp [Lab.cells]

/-- TextAt with a last label, its row's block known. -/
def TextL (b g cp next long : Nat) (name : List UInt8) (a : List Lab) (x : Lab) (w : World) : Prop :=
  w.heap[b]? = some (.cells #[.int .i64 (next : Int), .int .i64 (long : Int), .string (B name), .slice (some ⟨g, 0, none⟩) (a.length + 1) cp] 59) ∧
    w.ownsRow (b + 1) 62 3 (.slice (some ⟨g, 0, none⟩) (a.length + 1) cp) (a.length + 1) (labCells (a ++ [x]))
theorem TextL.of {b : Nat} {st : St} {w : World} {a : List Lab} {x : Lab} (h : TextAt b st w) (hl : st.labs = a ++ [x]) : ∃ g cp, TextL b g cp st.next st.long st.name a x w := by
  obtain ⟨ad, cp, h1, h2⟩ := h
  rw [hl] at h1 h2
  rcases h2.2 with ⟨_, h0⟩ | ⟨g, cap, cur, h3, _⟩
  · simp at h0
  · simp at h3
    obtain ⟨rfl, rfl⟩ := h3
    exact ⟨g, cp, by simpa using h1, by simpa using h2⟩
theorem TextL.to {b g cp next long : Nat} {name : List UInt8} {w : World} {a : List Lab} {x : Lab} (h : TextL b g cp next long name a x w) : TextAt b ⟨next, long, name, a ++ [x]⟩ w :=
  ⟨some ⟨g, 0, none⟩, cp, by simpa using h.1, by simpa using h.2⟩

set_option maxRecDepth 100000 in
set_option maxHeartbeats 1000000 in
theorem take1_yes (b g cp : Nat) (st : St) (a : List Lab) (x : Lab) (c : UInt8) (at_ : Nat) (w : World) (h : TextL b g cp 1 st.long st.name a x w) (hl : st.long ≤ 100) (hg : goesB st.long (c.toNat : Int) = true) (hlen : x.name.length ≤ 1000) (hal : a.length ≤ 100) :
    Calls Try.prog 17 #[.pointer (some ⟨b, 0, none⟩), .int .u8 (c.toNat : Int), .int .i64 (at_ : Int)] w fun e w' => e = .returned (.bool true) ∧
      TextL b g cp 1 (st.long + 1) st.name a { x with name := x.name ++ [c] } w' ∧ Below b w w' := by
  obtain ⟨hb, own⟩ := h
  have c0 : w.cell? ⟨b, 0, none⟩ = some (.int .i64 1) := by simp [World.cell?, hb]
  have c3 : w.cell? ⟨b, 3, none⟩ = some (.slice (some ⟨g, 0, none⟩) (a.length + 1) cp) := by simp [World.cell?, hb]
  have hy := named_yes b ⟨1, st.long, st.name, []⟩ _ (c.toNat : Int) 61 w hb hl hg
  have HY : Hid (Calls Try.prog 26 #[.pointer (some ⟨b, 0, none⟩), .int .u8 (c.toNat : Int), .int .u8 61] w _) := hy
  clear hy hg
  go_enter Try.func17, Try.ntmps17
  go_wp2_with fail
  refine HY.out.mono ?_
  rintro e w1 ⟨rfl, hw1⟩
  have hb1 : w1.heap[b]? = some (.cells #[.int .i64 1, .int .i64 ((st.long + 1 : Nat) : Int), .string (B st.name), .slice (some ⟨g, 0, none⟩) (a.length + 1) cp] 59) := by rw [hw1, text_set hb]; rfl
  have own1 : w1.ownsRow (b + 1) 62 3 (.slice (some ⟨g, 0, none⟩) (a.length + 1) cp) (a.length + 1) (labCells (a ++ [x])) := by rw [hw1]; exact own_set own (by omega)
  have B1 : Below b w w1 := by rw [hw1]; exact (Below.refl b w).setCell (p := ⟨b, 1, none⟩) (Nat.le_refl _) _
  clear hw1 c0 c3 hb own HY
  have hbl : b < w1.heap.size := lt_of hb1
  obtain ⟨hg1, hg2⟩ := own1.lt g rfl
  have d3 : w1.cell? ⟨b, 3, none⟩ = some (.slice (some ⟨g, 0, none⟩) (a.length + 1) cp) := by simp [World.cell?, hb1]
  have hx := (labCells_get (a ++ [x]) a.length (by simp)).1
  have dx : w1.cell? ⟨g, a.length * 3, none⟩ = some (.string (B x.name)) := by
    rw [own1.cellAt _ (by omega), hx]; simp
  have fx : w1.frozen? ⟨g, a.length * 3, none⟩ = false := own1.frozenAt _
  have ga := gb_alloc (gb_refl w1 none) (.cells #[.int .u8 (c.toNat : Int)] 5)
  have d3' := gb_cell ga d3 (by simp)
  have dx' := gb_cell ga dx (by simp)
  have fx' := gb_froz ga hg2 fx (by simp)
  have hcv : (convert 47 9 (.slice (some ⟨w1.heap.size, 0, none⟩) 1 1)).run Try.prog (w1.alloc (.cells #[.int .u8 (c.toNat : Int)] 5)).drew = .ok (.string ⟨#[c]⟩) (w1.alloc (.cells #[.int .u8 (c.toNat : Int)] 5)).drew := one_bytes c _ _ _ (by simp)
  have hadd := add_one x.name c hlen
  clear ga hx
  have hgb : g ≠ b := by omega
  go_wp2
  go_region
  all_goals go_wp2
  all_goals
    go_ret
    refine ⟨rfl, ⟨?_, ?_⟩, ?_⟩
    · exact alloc_keep (rdr_o hb1 (by omega)) _
    · have := (own1.stored (a.length * 3) (.string (B (x.name ++ [c])))).1
      rw [set_name] at this
      exact this.alloc _
    · exact ((B1.setCell (p := ⟨g, a.length * 3, none⟩) (by show b ≤ g; omega) _).alloc (by simp [World.setCell]; omega) _).drew

/-- What the value's two states do to the label: the byte goes on at the value's end; w1 is the world in which the block's first cells are written already. -/
theorem val_step (b g cp next long : Nat) (name : List UInt8) (a : List Lab) (x : Lab) (c : UInt8) (w1 : World) (h : TextL b g cp next long name a x w1) :
    w1.cell? ⟨b, 3, none⟩ = some (.slice (some ⟨g, 0, none⟩) (a.length + 1) cp) ∧ w1.cell? ⟨g, a.length * 3 + 1, none⟩ = some (.string (B x.val)) ∧ w1.frozen? ⟨g, a.length * 3 + 1, none⟩ = false ∧
      (w1.alloc (.cells #[.int .u8 (c.toNat : Int)] 5)).cell? ⟨b, 3, none⟩ = some (.slice (some ⟨g, 0, none⟩) (a.length + 1) cp) ∧
      (w1.alloc (.cells #[.int .u8 (c.toNat : Int)] 5)).cell? ⟨g, a.length * 3 + 1, none⟩ = some (.string (B x.val)) ∧ (w1.alloc (.cells #[.int .u8 (c.toNat : Int)] 5)).frozen? ⟨g, a.length * 3 + 1, none⟩ = false ∧
      (convert 47 9 (.slice (some ⟨w1.heap.size, 0, none⟩) 1 1)).run Try.prog (w1.alloc (.cells #[.int .u8 (c.toNat : Int)] 5)).drew = .ok (.string ⟨#[c]⟩) (w1.alloc (.cells #[.int .u8 (c.toNat : Int)] 5)).drew ∧ b + 1 ≤ g ∧ g < w1.heap.size ∧ b < w1.heap.size := by
  obtain ⟨hb1, own1⟩ := h
  have hbl : b < w1.heap.size := lt_of hb1
  obtain ⟨hg1, hg2⟩ := own1.lt g rfl
  have d3 : w1.cell? ⟨b, 3, none⟩ = some (.slice (some ⟨g, 0, none⟩) (a.length + 1) cp) := by simp [World.cell?, hb1]
  have hx := (labCells_get (a ++ [x]) a.length (by simp)).2.1
  have dx : w1.cell? ⟨g, a.length * 3 + 1, none⟩ = some (.string (B x.val)) := by
    rw [own1.cellAt _ (by omega), hx]; simp
  have fx : w1.frozen? ⟨g, a.length * 3 + 1, none⟩ = false := own1.frozenAt _
  have ga := gb_alloc (gb_refl w1 none) (.cells #[.int .u8 (c.toNat : Int)] 5)
  exact ⟨d3, dx, fx, gb_cell ga d3 (by simp), gb_cell ga dx (by simp), gb_froz ga hg2 fx (by simp), one_bytes c _ _ _ (by simp), hg1, hg2, hbl⟩

theorem TextL.setB {b g cp next long : Nat} {name : List UInt8} {a : List Lab} {x : Lab} {w : World} (h : TextL b g cp next long name a x w) (n : Nat) : TextL b g cp n long name a x (w.setCell ⟨b, 0, none⟩ (.int .i64 (n : Int))) :=
  ⟨by rw [text_set h.1]; rfl, own_set h.2 (by omega)⟩
theorem TextL.setLong {b g cp next long : Nat} {name : List UInt8} {a : List Lab} {x : Lab} {w : World} (h : TextL b g cp next long name a x w) (n : Nat) : TextL b g cp next n name a x (w.setCell ⟨b, 1, none⟩ (.int .i64 (n : Int))) :=
  ⟨by rw [text_set h.1]; rfl, own_set h.2 (by omega)⟩
theorem TextL.setVal {b g cp next long : Nat} {name : List UInt8} {a : List Lab} {x : Lab} {w : World} (h : TextL b g cp next long name a x w) (l : List UInt8) : TextL b g cp next long name a { x with val := l } (w.setCell ⟨g, a.length * 3 + 1, none⟩ (.string (B l))) := by
  have hg := (h.2.lt g rfl).1
  refine ⟨rdr_o h.1 (by omega), ?_⟩
  have := (h.2.stored (a.length * 3 + 1) (.string (B l))).1
  rw [set_val] at this
  exact this
theorem TextL.alloc {b g cp next long : Nat} {name : List UInt8} {a : List Lab} {x : Lab} {w : World} (h : TextL b g cp next long name a x w) (o : Obj) : TextL b g cp next long name a x (w.alloc o) :=
  ⟨alloc_keep h.1 _, h.2.alloc _⟩

set_option maxRecDepth 100000 in
set_option maxHeartbeats 1000000 in
theorem take4 (b g cp : Nat) (st : St) (a : List Lab) (x : Lab) (c : UInt8) (at_ : Nat) (w : World) (h : TextL b g cp 4 st.long st.name a x w) (hlen : x.val.length ≤ 1000) (hal : a.length ≤ 100) :
    Calls Try.prog 17 #[.pointer (some ⟨b, 0, none⟩), .int .u8 (c.toNat : Int), .int .i64 (at_ : Int)] w fun e w' => e = .returned (.bool (decide (c.toNat = 34 ∨ c.toNat = 92 ∨ c.toNat = 110))) ∧
      TextL b g cp 3 st.long st.name a { x with val := x.val ++ [c] } w' ∧ Below b w w' := by
  have hb := h.1
  have c0 : w.cell? ⟨b, 0, none⟩ = some (.int .i64 4) := by simp [World.cell?, hb]
  have c3 : w.cell? ⟨b, 3, none⟩ = some (.slice (some ⟨g, 0, none⟩) (a.length + 1) cp) := by simp [World.cell?, hb]
  have f0 : w.frozen? ⟨b, 0, none⟩ = false := by simp [World.frozen?, hb]
  have T1 : TextL b g cp 3 st.long st.name a x (w.setCell ⟨b, 0, none⟩ (.int .i64 3)) := h.setB 3
  have B1 : Below b w (w.setCell ⟨b, 0, none⟩ (.int .i64 3)) := (Below.refl b w).setCell (p := ⟨b, 0, none⟩) (Nat.le_refl _) _
  have hadd := add_one x.val c hlen
  have key : ∀ r : Bool, (r = true ↔ ((c.toNat : Int) = 34 ∨ (c.toNat : Int) = 92 ∨ (c.toNat : Int) = 110)) → r = decide (c.toNat = 34 ∨ c.toNat = 92 ∨ c.toNat = 110) := by
    intro r hr; rw [Bool.eq_iff_iff, hr]; simp; omega
  have KH : Hid (∀ r : Bool, _) := key
  clear hb key
  go_enter Try.func17, Try.ntmps17
  go_wp2
  generalize w.setCell ⟨b, 0, none⟩ (.int .i64 3) = w1 at *
  obtain ⟨k1, k2, k3, k4, k5, k6, k7, k8, k9, k10⟩ := val_step b g cp 3 st.long st.name a x c _ T1
  have hgb : g ≠ b := by omega
  clear c0 c3 f0
  go_region
  all_goals
    by_cases h1 : (c.toNat : Int) = 34
    · have h1' : ((c.toNat : Int) == 34) = true := by simp [h1]
      have H1 : Hid ((c.toNat : Int) = 34) := h1
      clear h1
      go_wp2
      go_ret
      refine ⟨ret_b (KH.out _ (by simp [H1.out])), (T1.setVal _).alloc _, ?_⟩
      exact ((B1.setCell (p := ⟨g, a.length * 3 + 1, none⟩) (by show b ≤ g; omega) _).alloc (by simp [World.setCell]; omega) _).drew
    · have h1' : ((c.toNat : Int) == 34) = false := by simpa using h1
      by_cases h2 : (c.toNat : Int) = 92
      · have h2' : ((c.toNat : Int) == 92) = true := by simp [h2]
        have H2 : Hid ((c.toNat : Int) = 92) := h2
        clear h1 h2
        go_wp2
        go_ret
        refine ⟨ret_b (KH.out _ (by simp [H2.out])), (T1.setVal _).alloc _, ?_⟩
        exact ((B1.setCell (p := ⟨g, a.length * 3 + 1, none⟩) (by show b ≤ g; omega) _).alloc (by simp [World.setCell]; omega) _).drew
      · have h2' : ((c.toNat : Int) == 92) = false := by simpa using h2
        have H1 : Hid (¬ (c.toNat : Int) = 34) := h1
        have H2 : Hid (¬ (c.toNat : Int) = 92) := h2
        clear h1 h2
        go_wp2
        go_ret
        refine ⟨ret_b (KH.out _ ?_), (T1.setVal _).alloc _, ?_⟩
        · have := H1.out; have := H2.out; simp; omega
        exact ((B1.setCell (p := ⟨g, a.length * 3 + 1, none⟩) (by show b ≤ g; omega) _).alloc (by simp [World.setCell]; omega) _).drew

end Go.Proofs.Ytcfdemhokbddiaa
