/-
  Which blocks a call may have turned: those of a list, and new ones. (No program.)
-/
import Derived.RangeFuncNested

namespace Go.Proofs.YtcfdemhokbddiaaGreatDoor
open Go.RowKit

/-- The blocks of L alone may have turned; new ones may have come. -/
structure Kept (L : List Nat) (w w' : World) : Prop where
  os : w'.os = w.os
  tape : w'.tape = w.tape
  output : w'.output = w.output
  size : w.heap.size ≤ w'.heap.size
  block : ∀ k, k < w.heap.size → k ∉ L → w'.heap[k]? = w.heap[k]?
theorem Kept.refl (L : List Nat) (w : World) : Kept L w w := ⟨rfl, rfl, rfl, Nat.le_refl _, fun _ _ _ => rfl⟩
theorem Kept.of_none {w w' : World} (h : w.grownBy w' none) (L : List Nat) : Kept L w w' := ⟨h.os, h.tape, h.output, h.size, fun k hk _ => h.block k hk (by simp)⟩
theorem Kept.of_some {w w' : World} {b : Nat} (h : w.grownBy w' (some b)) (L : List Nat) (hb : b ∈ L ∨ w.heap.size ≤ b) : Kept L w w' :=
  ⟨h.os, h.tape, h.output, h.size, fun k hk hn => h.block k hk (fun e => by
    have e' : k = b := by simpa using e
    rcases hb with hb | hb
    · exact hn (by rw [e']; exact hb)
    · omega)⟩
theorem Kept.trans {L : List Nat} {a b c : World} (h : Kept L a b) (k : Kept L b c) : Kept L a c :=
  ⟨k.os.trans h.os, k.tape.trans h.tape, k.output.trans h.output, Nat.le_trans h.size k.size, fun i hi hn => (k.block i (Nat.lt_of_lt_of_le hi h.size) hn).trans (h.block i hi hn)⟩
theorem Kept.mono {L M : List Nat} {w w' : World} (h : Kept L w w') (hs : ∀ b ∈ L, b ∈ M ∨ w.heap.size ≤ b) : Kept M w w' :=
  ⟨h.os, h.tape, h.output, h.size, fun k hk hn => h.block k hk (fun hl => by
    rcases hs k hl with h1 | h1
    · exact hn h1
    · omega)⟩
theorem Kept.then {L M : List Nat} {a b c : World} (h : Kept L a b) (k : Kept M b c) (hs : ∀ x ∈ M, x ∈ L ∨ a.heap.size ≤ x) : Kept L a c :=
  ⟨k.os.trans h.os, k.tape.trans h.tape, k.output.trans h.output, Nat.le_trans h.size k.size, fun i hi hn => (k.block i (Nat.lt_of_lt_of_le hi h.size) (fun hm => by
    rcases hs i hm with h1 | h1
    · exact hn h1
    · omega)).trans (h.block i hi hn)⟩

end Go.Proofs.YtcfdemhokbddiaaGreatDoor
