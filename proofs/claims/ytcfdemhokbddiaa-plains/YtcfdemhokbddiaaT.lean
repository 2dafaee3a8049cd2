/-
  The document's own reader: the states that write no label; the step whole.
-/
import Derived.Test.YtcfdemhokbddiaaS
namespace Go.Proofs.Ytcfdemhokbddiaa
open Go.RowKit

theorem TextAt.cells {b : Nat} {st : St} {w : World} (h : TextAt b st w) : ∃ a cp, w.heap[b]? = some (.cells #[.int .i64 (st.next : Int), .int .i64 (st.long : Int), .string (B st.name), .slice a st.labs.length cp] 59) ∧
    w.cell? ⟨b, 0, none⟩ = some (.int .i64 (st.next : Int)) ∧ w.cell? ⟨b, 1, none⟩ = some (.int .i64 (st.long : Int)) ∧ w.cell? ⟨b, 3, none⟩ = some (.slice a st.labs.length cp) ∧ w.frozen? ⟨b, 0, none⟩ = false ∧ w.frozen? ⟨b, 1, none⟩ = false ∧ w.frozen? ⟨b, 3, none⟩ = false := by
  obtain ⟨a, cp, hb, _⟩ := h
  exact ⟨a, cp, hb, by simp [World.cell?, hb], by simp [World.cell?, hb], by simp [World.cell?, hb], by simp [World.frozen?, hb], by simp [World.frozen?, hb], by simp [World.frozen?, hb]⟩
theorem TextAt.setNext {b : Nat} {st : St} {w : World} (h : TextAt b st w) (n : Nat) : TextAt b { st with next := n } (w.setCell ⟨b, 0, none⟩ (.int .i64 (n : Int))) := by
  obtain ⟨a, cp, hb, own⟩ := h
  exact ⟨a, cp, by rw [text_set hb]; rfl, own_set own (by omega)⟩
theorem TextAt.setLong {b : Nat} {st : St} {w : World} (h : TextAt b st w) (n : Nat) : TextAt b { st with long := n } (w.setCell ⟨b, 1, none⟩ (.int .i64 (n : Int))) := by
  obtain ⟨a, cp, hb, own⟩ := h
  exact ⟨a, cp, by rw [text_set hb]; rfl, own_set own (by omega)⟩

set_option maxRecDepth 100000 in
set_option maxHeartbeats 1000000 in
theorem take01_no (b n : Nat) (st : St) (c : UInt8) (at_ : Nat) (w : World) (h : TextAt b st w) (hn : st.next = n) (hn' : n = 0 ∨ n = 1) (hl : st.long ≤ 100) (hls : st.labs.length ≤ 100) (hg : goesB st.long (c.toNat : Int) = false) (h0 : st.long = 0 ∨ (n = 0 ∧ c.toNat ≠ 123) ∨ (n = 1 ∧ c.toNat ≠ 61)) :
    Calls Try.prog 17 #[.pointer (some ⟨b, 0, none⟩), .int .u8 (c.toNat : Int), .int .i64 (at_ : Int)] w fun e w' => e = .returned (.bool false) ∧ Below b w w' := by
  obtain ⟨a, cp, hb, c0, c1, c3, _⟩ := h.cells
  rw [hn] at hb c0
  rcases hn' with rfl | rfl
  · have hy := named_no b st _ (c.toNat : Int) 123 w (by rw [hn]; exact hb) hl hg (by
      rcases h0 with h | h | h
      · exact Or.inl h
      · right; simp; omega
      · omega)
    have HY : Hid (Calls Try.prog 26 #[.pointer (some ⟨b, 0, none⟩), .int .u8 (c.toNat : Int), .int .u8 123] w _) := hy
    clear hy hb hn h0 hg
    go_enter Try.func17, Try.ntmps17
    go_wp2_with (go_at_call 26; refine HY.out.mono ?_; rintro e w1 ⟨rfl, rfl⟩)
    go_ret
    exact ⟨rfl, Below.refl _ _⟩
  · have hy := named_no b st _ (c.toNat : Int) 61 w (by rw [hn]; exact hb) hl hg (by
      rcases h0 with h | h | h
      · exact Or.inl h
      · omega
      · right; simp; omega)
    have HY : Hid (Calls Try.prog 26 #[.pointer (some ⟨b, 0, none⟩), .int .u8 (c.toNat : Int), .int .u8 61] w _) := hy
    clear hy hb hn h0 hg
    go_enter Try.func17, Try.ntmps17
    go_wp2_with (go_at_call 26; refine HY.out.mono ?_; rintro e w1 ⟨rfl, rfl⟩)
    go_ret
    exact ⟨rfl, Below.refl _ _⟩

set_option maxRecDepth 100000 in
set_option maxHeartbeats 1000000 in
theorem take1_sign (b : Nat) (st : St) (c : UInt8) (at_ : Nat) (w : World) (h : TextAt b st w) (hn : st.next = 1) (hl : st.long ≤ 100) (hls : st.labs.length ≤ 100) (hg : goesB st.long (c.toNat : Int) = false) (h0 : 0 < st.long) (hc : c.toNat = 61) :
    Calls Try.prog 17 #[.pointer (some ⟨b, 0, none⟩), .int .u8 (c.toNat : Int), .int .i64 (at_ : Int)] w fun e w' => e = .returned (.bool true) ∧ TextAt b { st with next := 2, long := 0 } w' ∧ Below b w w' := by
  obtain ⟨a, cp, hb, c0, c1, c3, f0, f1, f3⟩ := h.cells
  have hy := named_sign b st _ (c.toNat : Int) 61 w hb hl hg h0 (by simp; omega)
  have HY : Hid (Calls Try.prog 26 #[.pointer (some ⟨b, 0, none⟩), .int .u8 (c.toNat : Int), .int .u8 61] w _) := hy
  rw [hn] at c0
  have T1 : TextAt b { st with long := 0 } (w.setCell ⟨b, 1, none⟩ (.int .i64 0)) := h.setLong 0
  have B1 : Below b w (w.setCell ⟨b, 1, none⟩ (.int .i64 0)) := (Below.refl b w).setCell (p := ⟨b, 1, none⟩) (Nat.le_refl _) _
  clear hy hb hn hc hg
  go_enter Try.func17, Try.ntmps17
  go_wp2_with fail
  refine HY.out.mono ?_
  rintro e w1 ⟨rfl, rfl⟩
  generalize w.setCell ⟨b, 1, none⟩ (.int .i64 0) = w1 at *
  clear c0 c1 c3 f0 f1 f3
  obtain ⟨a', cp', hb', c0, c1, c3, f0, f1, f3⟩ := T1.cells
  have T2 := T1.setNext 2
  clear hb'
  go_wp2
  go_ret
  exact ⟨rfl, T2, B1.setCell (p := ⟨b, 0, none⟩) (Nat.le_refl _) _⟩

set_option maxRecDepth 100000 in
set_option maxHeartbeats 1000000 in
theorem take2 (b : Nat) (st : St) (c : UInt8) (at_ : Nat) (w : World) (h : TextAt b st w) (hn : st.next = 2) (hls : st.labs.length ≤ 100) :
    Calls Try.prog 17 #[.pointer (some ⟨b, 0, none⟩), .int .u8 (c.toNat : Int), .int .i64 (at_ : Int)] w fun e w' => e = .returned (.bool (decide (c.toNat = 34))) ∧ TextAt b { st with next := 3 } w' ∧ Below b w w' := by
  obtain ⟨a, cp, hb, c0, c1, c3, f0, f1, f3⟩ := h.cells
  rw [hn] at c0
  have T1 : TextAt b { st with next := 3 } (w.setCell ⟨b, 0, none⟩ (.int .i64 3)) := h.setNext 3
  clear hb hn
  go_enter Try.func17, Try.ntmps17
  go_wp2
  go_ret
  refine ⟨ret_b ?_, T1, (Below.refl b w).setCell (p := ⟨b, 0, none⟩) (Nat.le_refl _) _⟩
  rw [Bool.eq_iff_iff]; simp; omega

set_option maxRecDepth 100000 in
set_option maxHeartbeats 1000000 in
theorem take3_quote (b : Nat) (st : St) (c : UInt8) (at_ : Nat) (w : World) (h : TextAt b st w) (hn : st.next = 3) (hls : st.labs.length ≤ 100) (hc : c.toNat = 34) :
    Calls Try.prog 17 #[.pointer (some ⟨b, 0, none⟩), .int .u8 (c.toNat : Int), .int .i64 (at_ : Int)] w fun e w' => e = .returned (.bool true) ∧ TextAt b { st with next := 5, long := 0 } w' ∧ Below b w w' := by
  obtain ⟨a, cp, hb, c0, c1, c3, f0, f1, f3⟩ := h.cells
  rw [hn] at c0
  have T1 : TextAt b { st with next := 5 } (w.setCell ⟨b, 0, none⟩ (.int .i64 5)) := h.setNext 5
  have T2 := T1.setLong 0
  have h34 : ((c.toNat : Int) == 34) = true := by simp; omega
  clear hb hn hc
  go_enter Try.func17, Try.ntmps17
  go_wp2
  go_ret
  exact ⟨rfl, T2, ((Below.refl b w).setCell (p := ⟨b, 0, none⟩) (Nat.le_refl _) _).setCell (p := ⟨b, 1, none⟩) (Nat.le_refl _) _⟩

set_option maxRecDepth 100000 in
set_option maxHeartbeats 1000000 in
theorem take5_end (b : Nat) (st : St) (c : UInt8) (at_ : Nat) (w : World) (h : TextAt b st w) (hn : st.next = 5) (hls : st.labs.length ≤ 100) (hc : ¬ (c.toNat = 44 ∧ st.labs.length ≤ 2)) :
    Calls Try.prog 17 #[.pointer (some ⟨b, 0, none⟩), .int .u8 (c.toNat : Int), .int .i64 (at_ : Int)] w fun e w' => e = .returned (.bool (decide (c.toNat = 125))) ∧ TextAt b { st with next := 6 } w' ∧ Below b w w' := by
  obtain ⟨a, cp, hb, c0, c1, c3, f0, f1, f3⟩ := h.cells
  rw [hn] at c0
  have T1 : TextAt b { st with next := 6 } (w.setCell ⟨b, 0, none⟩ (.int .i64 6)) := h.setNext 6
  clear hb hn
  by_cases h44 : c.toNat = 44
  · have h44' : ((c.toNat : Int) == 44) = true := by simp; omega
    have hk : ¬ (st.labs.length : Int) - 1 < 2 := by omega
    have HE : Hid (c.toNat = 44) := h44
    clear hc h44
    go_enter Try.func17, Try.ntmps17
    go_wp2
    go_ret
    refine ⟨ret_b ?_, T1, (Below.refl b w).setCell (p := ⟨b, 0, none⟩) (Nat.le_refl _) _⟩
    have := HE.out
    rw [Bool.eq_iff_iff]; simp; omega
  · have h44' : ((c.toNat : Int) == 44) = false := by simp; omega
    clear hc h44
    go_enter Try.func17, Try.ntmps17
    go_wp2
    go_ret
    refine ⟨ret_b ?_, T1, (Below.refl b w).setCell (p := ⟨b, 0, none⟩) (Nat.le_refl _) _⟩
    rw [Bool.eq_iff_iff]; simp; omega

set_option maxRecDepth 100000 in
set_option maxHeartbeats 1000000 in
theorem take6 (b : Nat) (st : St) (c : UInt8) (at_ : Nat) (w : World) (h : TextAt b st w) (hn : st.next = 6) (hls : st.labs.length ≤ 100) :
    Calls Try.prog 17 #[.pointer (some ⟨b, 0, none⟩), .int .u8 (c.toNat : Int), .int .i64 (at_ : Int)] w fun e w' => e = .returned (.bool false) ∧ Below b w w' := by
  obtain ⟨a, cp, hb, c0, c1, c3, f0, f1, f3⟩ := h.cells
  rw [hn] at c0
  clear hb hn
  go_enter Try.func17, Try.ntmps17
  go_wp2
  go_ret
  exact ⟨rfl, Below.refl _ _⟩

end Go.Proofs.Ytcfdemhokbddiaa
