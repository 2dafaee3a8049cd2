/-
  The document's own reader: the other states, and the step whole.
-/
import Derived.Test.YtcfdemhokbddiaaR
namespace Go.Proofs.Ytcfdemhokbddiaa
open Go.RowKit

set_option maxRecDepth 100000 in
set_option maxHeartbeats 1000000 in
theorem take3_esc (b g cp : Nat) (st : St) (a : List Lab) (x : Lab) (c : UInt8) (at_ : Nat) (w : World) (h : TextL b g cp 3 st.long st.name a x w) (hlen : x.val.length ≤ 1000) (hal : a.length ≤ 100) (hl : st.long ≤ 100) (hc : c.toNat = 92) :
    Calls Try.prog 17 #[.pointer (some ⟨b, 0, none⟩), .int .u8 (c.toNat : Int), .int .i64 (at_ : Int)] w fun e w' => e = .returned (.bool (decide (st.long + 1 ≤ 16))) ∧
      TextL b g cp 4 (st.long + 1) st.name a { x with val := x.val ++ [c] } w' ∧ Below b w w' := by
  have hb := h.1
  have c0 : w.cell? ⟨b, 0, none⟩ = some (.int .i64 3) := by simp [World.cell?, hb]
  have c3 : w.cell? ⟨b, 3, none⟩ = some (.slice (some ⟨g, 0, none⟩) (a.length + 1) cp) := by simp [World.cell?, hb]
  have f0 : w.frozen? ⟨b, 0, none⟩ = false := by simp [World.frozen?, hb]
  have T1 : TextL b g cp 4 st.long st.name a x (w.setCell ⟨b, 0, none⟩ (.int .i64 4)) := h.setB 4
  have B1 : Below b w (w.setCell ⟨b, 0, none⟩ (.int .i64 4)) := (Below.refl b w).setCell (p := ⟨b, 0, none⟩) (Nat.le_refl _) _
  have hadd := add_one x.val c hlen
  have h34 : ((c.toNat : Int) == 34) = false := by simp; omega
  have h92 : ((c.toNat : Int) == 92) = true := by simp; omega
  clear hb hc
  go_enter Try.func17, Try.ntmps17
  go_wp2
  generalize w.setCell ⟨b, 0, none⟩ (.int .i64 4) = w1 at *
  obtain ⟨k1, k2, k3, k4, k5, k6, k7, k8, k9, k10⟩ := val_step b g cp 4 st.long st.name a x c _ T1
  have hgb : g ≠ b := by omega
  clear c0 c3 f0
  go_region
  all_goals
    have T2 : TextL b g cp 4 st.long st.name a { x with val := x.val ++ [c] } ((w1.setCell ⟨g, a.length * 3 + 1, none⟩ (.string (B (x.val ++ [c])))).alloc (.cells #[.int .u8 (c.toNat : Int)] 5)).drew := (T1.setVal _).alloc _
    have B2 : Below b w ((w1.setCell ⟨g, a.length * 3 + 1, none⟩ (.string (B (x.val ++ [c])))).alloc (.cells #[.int .u8 (c.toNat : Int)] 5)).drew := ((B1.setCell (p := ⟨g, a.length * 3 + 1, none⟩) (by show b ≤ g; omega) _).alloc (by simp [World.setCell]; omega) _).drew
    clear T1 B1 k1 k2 k3 k4 k5 k6 k7 k9 k10
    generalize ((w1.setCell ⟨g, a.length * 3 + 1, none⟩ (.string (B (x.val ++ [c])))).alloc (.cells #[.int .u8 (c.toNat : Int)] 5)).drew = w2 at *
    have hb2 := T2.1
    have e1 : w2.cell? ⟨b, 1, none⟩ = some (.int .i64 (st.long : Int)) := by simp [World.cell?, hb2]
    have f1 : w2.frozen? ⟨b, 1, none⟩ = false := by simp [World.frozen?, hb2]
    have T3 := T2.setLong (st.long + 1)
    clear hb2
    go_wp2
    go_ret
    refine ⟨ret_b ?_, T3, B2.setCell (p := ⟨b, 1, none⟩) (Nat.le_refl _) _⟩
    rw [Bool.eq_iff_iff]; simp; omega

set_option maxRecDepth 100000 in
set_option maxHeartbeats 1000000 in
theorem take3_byte (b g cp : Nat) (st : St) (a : List Lab) (x : Lab) (c : UInt8) (at_ : Nat) (w : World) (h : TextL b g cp 3 st.long st.name a x w) (hlen : x.val.length ≤ 1000) (hal : a.length ≤ 100) (hl : st.long ≤ 100) (hc : c.toNat ≠ 92) (hc' : c.toNat ≠ 34) :
    Calls Try.prog 17 #[.pointer (some ⟨b, 0, none⟩), .int .u8 (c.toNat : Int), .int .i64 (at_ : Int)] w fun e w' => e = .returned (.bool (decide (st.long + 1 ≤ 16))) ∧
      TextL b g cp 3 (st.long + 1) st.name a { x with val := x.val ++ [c] } w' ∧ Below b w w' := by
  have hb := h.1
  have c0 : w.cell? ⟨b, 0, none⟩ = some (.int .i64 3) := by simp [World.cell?, hb]
  have B1 : Below b w w := Below.refl b w
  have hadd := add_one x.val c hlen
  have h34 : ((c.toNat : Int) == 34) = false := by simp; omega
  have h92 : ((c.toNat : Int) == 92) = false := by simp; omega
  obtain ⟨k1, k2, k3, k4, k5, k6, k7, k8, k9, k10⟩ := val_step b g cp 3 st.long st.name a x c _ h
  have hgb : g ≠ b := by omega
  clear hb hc hc'
  go_enter Try.func17, Try.ntmps17
  go_wp2
  go_region
  all_goals
    have T2 : TextL b g cp 3 st.long st.name a { x with val := x.val ++ [c] } ((w.setCell ⟨g, a.length * 3 + 1, none⟩ (.string (B (x.val ++ [c])))).alloc (.cells #[.int .u8 (c.toNat : Int)] 5)).drew := (h.setVal _).alloc _
    have B2 : Below b w ((w.setCell ⟨g, a.length * 3 + 1, none⟩ (.string (B (x.val ++ [c])))).alloc (.cells #[.int .u8 (c.toNat : Int)] 5)).drew := ((B1.setCell (p := ⟨g, a.length * 3 + 1, none⟩) (by show b ≤ g; omega) _).alloc (by simp [World.setCell]; omega) _).drew
    clear h B1 k1 k2 k3 k4 k5 k6 k7 k9 k10
    generalize ((w.setCell ⟨g, a.length * 3 + 1, none⟩ (.string (B (x.val ++ [c])))).alloc (.cells #[.int .u8 (c.toNat : Int)] 5)).drew = w2 at *
    have hb2 := T2.1
    have e1 : w2.cell? ⟨b, 1, none⟩ = some (.int .i64 (st.long : Int)) := by simp [World.cell?, hb2]
    have f1 : w2.frozen? ⟨b, 1, none⟩ = false := by simp [World.frozen?, hb2]
    have T3 := T2.setLong (st.long + 1)
    clear hb2
    go_wp2
    go_ret
    refine ⟨ret_b ?_, T3, B2.setCell (p := ⟨b, 1, none⟩) (Nat.le_refl _) _⟩
    rw [Bool.eq_iff_iff]; simp; omega

end Go.Proofs.Ytcfdemhokbddiaa
