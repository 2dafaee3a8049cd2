/-
  The small methods of the reader (ended, take, nameByte): what each call answers and what becomes of the reader's block.
-/
import Derived.Test.YtcfdemhokbddiaaRows
import Derived.WalkKit
import Derived.WalkSpells
import Derived.WalkLawsBesides
import Derived.Deep.QuietTactic
import Derived.BigQuiet
namespace Go.Proofs.Ytcfdemhokbddiaa
open Go.RowKit

/-- The reader's block: the text, the place. -/
def rdr (s : ByteArray) (n : Nat) : Obj := .cells #[.string s, .int .i64 (n : Int)] 38

theorem cell0 {w : World} {b : Nat} {s : ByteArray} {n : Nat} (h : w.heap[b]? = some (rdr s n)) : w.cell? ⟨b, 0, none⟩ = some (.string s) := by
  simp [World.cell?, h, rdr]
theorem cell1 {w : World} {b : Nat} {s : ByteArray} {n : Nat} (h : w.heap[b]? = some (rdr s n)) : w.cell? ⟨b, 1, none⟩ = some (.int .i64 (n : Int)) := by
  simp [World.cell?, h, rdr]
theorem froz1 {w : World} {b : Nat} {s : ByteArray} {n : Nat} (h : w.heap[b]? = some (rdr s n)) : w.frozen? ⟨b, 1, none⟩ = false := by
  simp [World.frozen?, h, rdr]
theorem rdr_set {w : World} {b : Nat} {s : ByteArray} {n : Nat} (h : w.heap[b]? = some (rdr s n)) (m : Nat) (v : Int) (hv : v = (m : Int)) : (w.setCell ⟨b, 1, none⟩ (.int .i64 v)).heap[b]? = some (rdr s m) := by
  subst hv
  simp [World.setCell, Array.getElem?_modify, h, rdr]

theorem gb_refl (w : World) (r : Option Nat) : w.grownBy w r := ⟨rfl, rfl, rfl, Nat.le_refl _, fun _ _ _ => rfl⟩
theorem gb_trans {a b c : World} {r : Option Nat} (h : a.grownBy b r) (k : b.grownBy c r) : a.grownBy c r :=
  ⟨k.os.trans h.os, k.tape.trans h.tape, k.output.trans h.output, Nat.le_trans h.size k.size, fun i hi hr => (k.block i (Nat.lt_of_lt_of_le hi h.size) hr).trans (h.block i hi hr)⟩
theorem gb_drewN (w : World) (q : Nat) (r : Option Nat) : w.grownBy (w.drewN q) r := ⟨rfl, rfl, rfl, Nat.le_refl _, fun _ _ _ => rfl⟩
theorem gb_d {a w : World} {q : Nat} {r : Option Nat} (h : a.grownBy w r) : a.grownBy (w.drewN q) r := gb_trans h (gb_drewN _ _ _)
theorem gb_setCell (w : World) (b o : Nat) (v : Value) : w.grownBy (w.setCell ⟨b, o, none⟩ v) (some b) :=
  ⟨rfl, rfl, rfl, by simp [World.setCell], fun k _ hk => Below.heap_setCell _ _ _ _ (fun e => hk (by rw [e]))⟩

theorem gb_s {a w : World} {b o : Nat} {v : Value} (h : a.grownBy w (some b)) : a.grownBy (w.setCell ⟨b, o, none⟩ v) (some b) := gb_trans h (gb_setCell _ _ _ _)

set_option maxHeartbeats 400000 in
theorem ended_any (b : Nat) (s : ByteArray) (n : Nat) (w : World) (hb : w.heap[b]? = some (rdr s n)) :
    Calls Try.prog 20 #[.pointer (some ⟨b, 0, none⟩)] w fun e w' => e = .returned (.bool ((n : Int) == (s.size : Int))) ∧ ∃ q, w' = w.drewN q := by
  have c0 := cell0 hb
  have c1 := cell1 hb
  clear hb
  go_enter Try.func20, Try.ntmps20
  go_wp2
  go_quiet (fail)
  go_wp2
  go_ret
  exact ⟨rfl, _, rfl⟩

/-- May this byte stand in a name (first: as its first byte)? -/
def nameB (c : Int) (f : Bool) : Bool := decide ((97 ≤ c ∧ c ≤ 122) ∨ c = 95 ∨ (f = false ∧ 48 ≤ c ∧ c ≤ 57))
theorem ret_bool {a b : Bool} (h : a = b) : Ending.returned (.bool a) = .returned (.bool b) := by rw [h]

set_option maxHeartbeats 400000 in
theorem nameByte_95 (f : Bool) (w : World) :
    Calls Try.prog 27 #[.int .u8 95, .bool f] w fun e w' => e = .returned (.bool true) ∧ w' = w := by
  go_enter Try.func27, Try.ntmps27
  go_wp2
  go_ret
  exact ⟨rfl, rfl⟩

set_option maxHeartbeats 400000 in
theorem nameByte_any (c : Int) (f : Bool) (w : World) :
    Calls Try.prog 27 #[.int .u8 c, .bool f] w fun e w' => e = .returned (.bool (nameB c f)) ∧ w' = w := by
  have key : ∀ r : Bool, (r = true ↔ ((97 ≤ c ∧ c ≤ 122) ∨ c = 95 ∨ (f = false ∧ 48 ≤ c ∧ c ≤ 57))) → r = nameB c f := by
    intro r h; rw [Bool.eq_iff_iff]; simpa [nameB] using h
  by_cases h3 : c = 95
  · have := key true (by simp [h3])
    subst h3; rw [← this]; exact nameByte_95 f w
  have h3' : (c == 95) = false := by simpa using h3
  by_cases h1 : 97 ≤ c <;> by_cases h2 : c ≤ 122 <;> by_cases h4 : 48 ≤ c <;> by_cases h5 : c ≤ 57 <;> cases f <;> try (exfalso; omega)
  all_goals
    have KH : Hid (∀ r : Bool, _) := key
    clear key
    go_enter Try.func27, Try.ntmps27
    go_wp2
    go_ret
    refine ⟨ret_bool (KH.out _ ?_), rfl⟩
    simp
    try omega

theorem ended_t (b : Nat) (s : ByteArray) (n : Nat) (w : World) (hb : w.heap[b]? = some (rdr s n)) (hn : n = s.size) :
    Calls Try.prog 20 #[.pointer (some ⟨b, 0, none⟩)] w fun e w' => e = .returned (.bool true) ∧ ∃ q, w' = w.drewN q :=
  (ended_any b s n w hb).mono fun e w' ⟨he, hw⟩ => ⟨by rw [he]; simp [hn], hw⟩
theorem ended_f (b : Nat) (s : ByteArray) (n : Nat) (w : World) (hb : w.heap[b]? = some (rdr s n)) (hn : n < s.size) :
    Calls Try.prog 20 #[.pointer (some ⟨b, 0, none⟩)] w fun e w' => e = .returned (.bool false) ∧ ∃ q, w' = w.drewN q :=
  (ended_any b s n w hb).mono fun e w' ⟨he, hw⟩ => ⟨by rw [he]; exact ret_bool (beq_eq_false_iff_ne.2 (by omega)), hw⟩

set_option maxHeartbeats 400000 in
theorem take_end (b : Nat) (s : ByteArray) (n : Nat) (c : Int) (w : World) (hb : w.heap[b]? = some (rdr s n)) (hn : n = s.size) :
    Calls Try.prog 28 #[.pointer (some ⟨b, 0, none⟩), .int .u8 c] w fun e w' => e = .returned (.bool false) ∧ ∃ q, w' = w.drewN q := by
  have he : Hid (∀ m, _) := fun m => ended_t b s n (w.drewN m) hb hn
  clear hn
  go_enter Try.func28, Try.ntmps28
  go_wp2_with fail
  go_quiet ((go_at_call 20; exact Calls.quiet_of (he.out _)))
  go_wp2
  go_ret
  exact ⟨rfl, _, rfl⟩

set_option maxHeartbeats 400000 in
theorem take_no (b : Nat) (s : ByteArray) (n : Nat) (c : Int) (w : World) (hb : w.heap[b]? = some (rdr s n)) (hn : n < s.size) (hc : ((s[n].toNat : Int) != c) = true) :
    Calls Try.prog 28 #[.pointer (some ⟨b, 0, none⟩), .int .u8 c] w fun e w' => e = .returned (.bool false) ∧ ∃ q, w' = w.drewN q := by
  have he : Hid (∀ m, _) := fun m => ended_f b s n (w.drewN m) hb hn
  have c0 := cell0 hb
  have c1 := cell1 hb
  have hn' : (n : Int) < (s.size : Int) := by omega
  go_enter Try.func28, Try.ntmps28
  go_wp2_with fail
  go_quiet ((go_at_call 20; exact Calls.quiet_of (he.out _)))
  go_wp2
  go_ret
  exact ⟨rfl, _, rfl⟩

set_option maxHeartbeats 400000 in
theorem take_yes (b : Nat) (s : ByteArray) (n : Nat) (c : Int) (w : World) (hb : w.heap[b]? = some (rdr s n)) (hn : n < s.size) (hs : s.size ≤ 100) (hc : ((s[n].toNat : Int) != c) = false) :
    Calls Try.prog 28 #[.pointer (some ⟨b, 0, none⟩), .int .u8 c] w fun e w' => e = .returned (.bool true) ∧ w'.heap[b]? = some (rdr s (n + 1)) ∧ w.grownBy w' (some b) := by
  have he : Hid (∀ m, _) := fun m => ended_f b s n (w.drewN m) hb hn
  have c0 := cell0 hb
  have c1 := cell1 hb
  have f1 := froz1 hb
  have hn' : (n : Int) < (s.size : Int) := by omega
  go_enter Try.func28, Try.ntmps28
  go_wp2_with fail
  go_quiet ((go_at_call 20; exact Calls.quiet_of (he.out _)))
  go_wp2
  go_ret
  exact ⟨rfl, rdr_set (w := w.drewN _) hb (n + 1) _ (by omega), gb_trans (gb_drewN w _ _) (gb_setCell _ _ _ _)⟩

end Go.Proofs.Ytcfdemhokbddiaa
