/-
  The law's own functions: num, plains, Plains.
-/
import Derived.Test.YtcfdemhokbddiaaZd
namespace Go.Proofs.Ytcfdemhokbddiaa
open Go.RowKit

set_option maxHeartbeats 400000 in
theorem num_any (n : Int) (w : World) : Calls Try.prog 5 #[.int .i64 n] w fun e w' => e = .returned (.int .i64 n) ∧ w' = w := by
  go_enter Try.func5, Try.ntmps5
  go_wp2
  go_ret
  exact ⟨rfl, rfl⟩

set_option maxHeartbeats 400000 in
theorem plains_any (s : ByteArray) (w : World) : Calls Try.prog 6 #[.string s] w fun e w' => e = .returned (.bool true) ∧ Below w.heap.size w w' := by
  have hp := plain_any s w
  have hq := parse_any s
  generalize plainP s.data.toList = t at hp hq
  generalize (readP s.data.toList).err = er at hp hq
  generalize (if er = 0 then 0 else (readP s.data.toList).at_) = at_ at hp hq
  have HP : Hid (Calls Try.prog 4 #[.string s] w _) := hp
  have HQ : Hid (∀ w, Calls Try.prog 9 #[.string s] w _) := hq
  clear hp hq
  go_enter Try.func6, Try.ntmps6
  go_wp2_with fail
  refine HP.out.mono ?_
  rintro e w1 ⟨rfl, b1⟩
  go_wp2_with fail
  refine (HQ.out w1).mono ?_
  rintro e w2 ⟨rfl, b2⟩
  unfold outV
  have hself : ((B t).toList == (B t).toList) = true := by simp
  have hself2 : ((er : Int) == (er : Int)) = true := by simp
  have hself3 : ((at_ : Int) == (at_ : Int)) = true := by simp
  go_wp2_with (go_at_call 5; refine (num_any _ _).mono ?_; rintro e w' ⟨rfl, rfl⟩)
  go_ret
  exact ⟨rfl, b1.trans (b2.mono b1.size)⟩

def firstText : ByteArray := ⟨#[104, 123, 98, 61, 34, 50, 34, 44, 97, 61, 34, 10, 34, 125]⟩
theorem first_plain : plainP firstText.data.toList = [104, 123, 97, 61, 34, 92, 110, 34, 44, 98, 61, 34, 50, 34, 125] := by decide +kernel
theorem first_err : (readP firstText.data.toList).err = 0 := by decide +kernel

def firstPlain : ByteArray := ⟨#[104, 123, 97, 61, 34, 92, 110, 34, 44, 98, 61, 34, 50, 34, 125]⟩
theorem first_any (w : World) : Calls Try.prog 4 #[.string firstText] w fun e w' => e = .returned (.tuple #[.string firstPlain, .int .i64 0, .int .i64 0]) ∧ Below w.heap.size w w' := by
  refine (plain_any firstText w).mono ?_
  rintro e w' ⟨rfl, h⟩
  rw [first_plain, first_err]
  exact ⟨rfl, h⟩

theorem first_eq : (firstPlain.toList == [104, 123, 97, 61, 34, 92, 110, 34, 44, 98, 61, 34, 50, 34, 125]) = true := by
  rw [Lib.toList_data]; rfl

set_option maxHeartbeats 400000 in
theorem law_none (a : Option Addr) (cap : Nat) (w : World) :
    Calls Try.prog 3 #[.slice a 0 cap] w fun e w' => e = .returned (.bool true) ∧ Below w.heap.size w w' := by
  have hF : Hid (Calls Try.prog 4 #[.string firstText] w _) := first_any w
  go_enter Try.func3, Try.ntmps3
  go_wp2_with fail
  refine hF.out.mono ?_
  rintro e w1 ⟨rfl, b1⟩
  have hself : (firstPlain.toList == [104, 123, 97, 61, 34, 92, 110, 34, 44, 98, 61, 34, 50, 34, 125]) = true := first_eq
  go_wp2_with (go_at_call 5; refine (num_any _ _).mono ?_; rintro e w' ⟨rfl, rfl⟩)
  refine wp_loop_rounds 1 ?_
  rw [rounds_succ]
  go_wp2
  go_ret
  exact ⟨rfl, b1⟩

set_option maxHeartbeats 400000 in
theorem law_any (b off len cap : Nat) (ss : List ByteArray) (w : World) (hm : len ≤ 9223372036854775807) (hl : len ≤ ss.length) (hb : b < w.heap.size) (hc : ∀ j, j < ss.length → w.cell? ⟨b, off + j, none⟩ = some (.string (ss.getD j ByteArray.empty))) :
    Calls Try.prog 3 #[.slice (some ⟨b, off, none⟩) len cap] w fun e w' => e = .returned (.bool true) ∧ Below w.heap.size w w' := by
  have hF : Hid (Calls Try.prog 4 #[.string firstText] w _) := first_any w
  have HC : Hid (∀ j, j < ss.length → w.cell? ⟨b, off + j, none⟩ = some (.string (ss.getD j ByteArray.empty))) := hc
  clear hc
  go_enter Try.func3, Try.ntmps3
  go_wp2_with fail
  refine hF.out.mono ?_
  rintro e w1 ⟨rfl, b1⟩
  have hself : (firstPlain.toList == [104, 123, 97, 61, 34, 92, 110, 34, 44, 98, 61, 34, 50, 34, 125]) = true := first_eq
  go_wp2_with (go_at_call 5; refine (num_any _ _).mono ?_; rintro e w' ⟨rfl, rfl⟩)
  go_loopw [6] (fun i wr => ∃ k : Nat, i = .int .i64 (k : Int) ∧ k ≤ len ∧ Below w.heap.size w wr) (fun i _ => len - (intOf i).toNat)
  case atStart => exact ⟨0, rfl, Nat.zero_le _, b1⟩
  case round =>
    obtain ⟨k, rfl, hk, hB⟩ := hrel
    by_cases hlt : k < len
    · have hcell : wr.cell? ⟨b, off + k, none⟩ = some (.string (ss.getD k ByteArray.empty)) := by
        rw [hB.cell (p := ⟨b, off + k, none⟩) hb]; exact HC.out k (by omega)
      obtain ⟨s, hs⟩ : ∃ s, s = ss.getD k ByteArray.empty := ⟨_, rfl⟩
      rw [← hs] at hcell
      clear hs
      have hlt' : (k : Int) < (len : Int) := by omega
      go_wp2_with fail
      refine (plains_any s _).mono ?_
      rintro e w2 ⟨rfl, b2⟩
      go_wp2
      go_roundw
      case rel => exact ⟨k + 1, by go_num, by omega, hB.trans (b2.mono hB.size)⟩
      case measure => simp [intOf]; omega
    · have hge : ¬ (k : Int) < (len : Int) := by omega
      go_wp2
      go_ret
      exact ⟨rfl, hB⟩

end Go.Proofs.Ytcfdemhokbddiaa
