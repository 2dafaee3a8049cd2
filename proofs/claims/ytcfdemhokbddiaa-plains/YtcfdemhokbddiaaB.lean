/-
  The reader's name: how many bytes it takes, and what it answers.
-/
import Derived.Test.YtcfdemhokbddiaaA
namespace Go.Proofs.Ytcfdemhokbddiaa
open Go.RowKit

/-- How many bytes of a name stand ahead in l, k having been read. -/
def nameLen : Nat → List UInt8 → Nat
  | _, [] => 0
  | k, c :: l => if k < 12 ∧ nameB (c.toNat : Int) (k == 0) = true then 1 + nameLen (k + 1) l else 0

theorem drop_cons (s : ByteArray) (n : Nat) (h : n < s.size) : s.data.toList.drop n = s[n] :: s.data.toList.drop (n + 1) := by
  rw [List.drop_eq_getElem_cons (by simpa using h)]; rfl
theorem drop_all (s : ByteArray) : s.data.toList.drop s.size = [] := by
  apply List.drop_of_length_le; exact Nat.le_of_eq rfl
theorem nameLen_le (k : Nat) (l : List UInt8) : nameLen k l ≤ l.length := by
  induction l generalizing k with
  | nil => simp [nameLen]
  | cons c l ih => unfold nameLen; split <;> simp; have := ih (k + 1); omega
theorem nameLen_full (l : List UInt8) : nameLen 12 l = 0 := by cases l <;> simp [nameLen]

theorem ret_pair {v u : Value} {a b : Bool} (h : v = u) (k : a = b) : Ending.returned (.tuple #[v, .bool a]) = .returned (.tuple #[u, .bool b]) := by rw [h, k]

/-- The place of the reader in block b. -/
def posOf (b : Nat) (w : World) : Nat := match w.cell? ⟨b, 1, none⟩ with | some (.int _ q) => q.toNat | _ => 0
theorem posOf_rdr {w : World} {b : Nat} {s : ByteArray} {n : Nat} (h : w.heap[b]? = some (rdr s n)) : posOf b w = n := by
  simp [posOf, cell1 h]

set_option maxHeartbeats 400000 in
theorem name_any (b : Nat) (s : ByteArray) (n : Nat) (w : World) (hb : w.heap[b]? = some (rdr s n)) (hn : n ≤ s.size) (hs : s.size ≤ 100) :
    Calls Try.prog 19 #[.pointer (some ⟨b, 0, none⟩)] w fun e w' => ∃ m, m = n + nameLen 0 (s.data.toList.drop n) ∧ m ≤ s.size ∧
      e = .returned (.tuple #[.string (s.extract n m), .bool (decide (n < m))]) ∧ w'.heap[b]? = some (rdr s m) ∧ w.grownBy w' (some b) := by
  have c0 := cell0 hb
  have c1 := cell1 hb
  go_enter Try.func19, Try.ntmps19
  go_wp2
  go_loopw [] (fun wr => ∃ m, wr.heap[b]? = some (rdr s m) ∧ w.grownBy wr (some b) ∧ n ≤ m ∧ m ≤ s.size ∧ m - n ≤ 12 ∧ nameLen 0 (s.data.toList.drop n) = (m - n) + nameLen (m - n) (s.data.toList.drop m))
    (fun wr => 100 - posOf b wr)
  case atStart => exact ⟨n, hb, gb_refl _ _, Nat.le_refl _, hn, by omega, by simp⟩
  case round =>
    obtain ⟨m, hm, hg, h1, h2, h3, h4⟩ := hrel
    clear c0 c1
    have c0 := cell0 hm
    have c1 := cell1 hm
    have H4 : Hid (nameLen 0 (s.data.toList.drop n) = (m - n) + nameLen (m - n) (s.data.toList.drop m)) := h4
    clear h4
    by_cases hlt : m < s.size
    · have he : Hid (∀ k, _) := fun k => ended_f b s m (wr.drewN k) hm hlt
      have hlt' : (m : Int) < (s.size : Int) := by omega
      have hd : Hid (s.data.toList.drop m = _) := drop_cons s m hlt
      by_cases h12 : m - n < 12
      · have h12' : (m : Int) - (n : Int) < 12 := by omega
        have e0 : ((m : Int) == (n : Int)) = (m - n == 0) := by rw [Bool.eq_iff_iff]; simp; omega
        cases hnb : nameB (s[m].toNat : Int) (m - n == 0)
        · have hN : Hid (∀ k, Calls Try.prog 27 #[.int .u8 (s[m].toNat : Int), .bool ((m : Int) == (n : Int))] (wr.drewN k) fun e w' => e = .returned (.bool false) ∧ w' = wr.drewN k) :=
            fun k => (nameByte_any (s[m].toNat : Int) ((m : Int) == (n : Int)) (wr.drewN k)).mono fun e w' ⟨h1, h2⟩ => ⟨by rw [h1, e0, hnb], h2⟩
          have HN : Hid (nameB (s[m].toNat : Int) (m - n == 0) = false) := hnb
          clear e0 hnb
          go_wp2_with fail
          go_quiet (first | (go_at_call 20; exact Calls.quiet_of (he.out _)) | (go_at_call 27; exact Calls.quiet_of_same (hN.out _)))
          go_wp2
          go_quiet (fail)
          go_wp2
          go_ret2
          refine ⟨m, ?_, h2, ?_, hm, gb_d (gb_d hg)⟩
          · have := H4.out
            rw [hd.out] at this
            simp [nameLen, HN.out] at this
            omega
          · exact ret_pair rfl (by simp)
        · have hN : Hid (∀ k, Calls Try.prog 27 #[.int .u8 (s[m].toNat : Int), .bool ((m : Int) == (n : Int))] (wr.drewN k) fun e w' => e = .returned (.bool true) ∧ w' = wr.drewN k) :=
            fun k => (nameByte_any (s[m].toNat : Int) ((m : Int) == (n : Int)) (wr.drewN k)).mono fun e w' ⟨h1, h2⟩ => ⟨by rw [h1, e0, hnb], h2⟩
          have HN : Hid (nameB (s[m].toNat : Int) (m - n == 0) = true) := hnb
          have f1 := froz1 hm
          clear e0 hnb
          go_wp2_with fail
          go_quiet (first | (go_at_call 20; exact Calls.quiet_of (he.out _)) | (go_at_call 27; exact Calls.quiet_of_same (hN.out _)))
          go_wp2
          go_roundw
          case rel =>
            refine ⟨m + 1, rdr_set (w := wr.drewN _) hm (m + 1) _ (by omega), gb_s (gb_d hg), by omega, by omega, by omega, ?_⟩
            rw [H4.out, hd.out]
            simp [nameLen, HN.out, h12]
            rw [show m + 1 - n = m - n + 1 from by omega]; omega
          case measure =>
            rw [posOf_rdr hm, posOf_rdr (rdr_set (w := wr.drewN _) hm (m + 1) _ (by omega))]
            omega
      · have h12' : decide ((m : Int) - (n : Int) < 12) = false := by simp; omega
        go_wp2_with fail
        go_quiet ((go_at_call 20; exact Calls.quiet_of (he.out _)))
        go_wp2
        go_quiet (fail)
        go_wp2
        go_ret2
        refine ⟨m, ?_, h2, ?_, hm, gb_d (gb_d hg)⟩
        · have := H4.out
          rw [show m - n = 12 from by omega, nameLen_full] at this
          omega
        · exact ret_pair rfl (by simp)
    · have he : Hid (∀ k, _) := fun k => ended_t b s m (wr.drewN k) hm (by omega)
      go_wp2_with fail
      go_quiet ((go_at_call 20; exact Calls.quiet_of (he.out _)))
      go_wp2
      go_quiet (fail)
      go_wp2
      go_ret2
      refine ⟨m, ?_, h2, ?_, hm, gb_d (gb_d hg)⟩
      · have e1 : m = s.size := by omega
        have := H4.out
        subst e1
        rw [drop_all] at this
        simp [nameLen] at this
        omega
      · exact ret_pair rfl (by simp)
end Go.Proofs.Ytcfdemhokbddiaa
