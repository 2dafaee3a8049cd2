/-
  The document's own reader: in, goes, named.
-/
import Derived.Test.YtcfdemhokbddiaaN
namespace Go.Proofs.Ytcfdemhokbddiaa
open Go.RowKit

theorem ret_b {a b : Bool} (h : a = b) : Ending.returned (.bool a) = .returned (.bool b) := by rw [h]

def anyIs (l : List UInt8) (c : Int) : Bool := l.any fun x => (x.toNat : Int) == c

set_option maxHeartbeats 400000 in
theorem in_any (s : ByteArray) (c : Int) (w : World) (hs : s.size ≤ 100) :
    Calls Try.prog 37 #[.string s, .int .u8 c] w fun e w' => e = .returned (.bool (anyIs s.data.toList c)) ∧ w' = w := by
  go_enter Try.func37, Try.ntmps37
  go_wp2
  go_loop [5] (fun i => ∃ k : Nat, k ≤ s.size ∧ i = .int .i64 (k : Int) ∧ Hid (∀ j (h : j < s.size), j < k → ((s[j]'h).toNat : Int) ≠ c)) (fun i => s.size - (intOf i).toNat)
  case atStart => exact ⟨0, Nat.zero_le _, rfl, fun j h hj => by omega⟩
  case round =>
    obtain ⟨k, hk, rfl, HA⟩ := hrel
    by_cases hlt : k < s.size
    · by_cases hc : ((s[k].toNat : Int) == c) = true
      · have HE : Hid (anyIs s.data.toList c = true) := by
          show _ = _
          unfold anyIs; rw [List.any_eq_true]
          exact ⟨s[k], by exact List.getElem_mem (l := s.data.toList) (by exact hlt), hc⟩
        go_wp2
        go_ret
        exact ⟨ret_b HE.out.symm, rfl⟩
      · have hc' : ((s[k].toNat : Int) == c) = false := by simpa using hc
        clear hc
        have HC : Hid (((s[k].toNat : Int) == c) = false) := hc'
        go_wp2
        go_round
        case rel =>
          refine ⟨k + 1, by omega, by go_num, fun j h hj => ?_⟩
          by_cases hjk : j = k
          · subst hjk; have := HC.out; simpa using this
          · exact HA.out j h (by omega)
        case measure => simp [intOf]; omega
    · have HE : Hid (anyIs s.data.toList c = false) := by
        show _ = _
        unfold anyIs; rw [List.any_eq_false]
        intro x hx
        obtain ⟨j, hj, rfl⟩ := List.getElem_of_mem hx
        have := HA.out j hj (by have : s.data.toList.length = s.size := rfl; omega)
        rw [beq_iff_eq]; exact this
      go_wp2
      go_ret
      exact ⟨ret_b HE.out.symm, rfl⟩

def letters : ByteArray := ⟨#[97, 98, 99, 100, 101, 102, 103, 104, 105, 106, 107, 108, 109, 110, 111, 112, 113, 114, 115, 116, 117, 118, 119, 120, 121, 122, 95]⟩
def alphaB (c : Int) : Bool := decide ((97 ≤ c ∧ c ≤ 122) ∨ c = 95)
theorem letters_any (c : Int) : anyIs letters.data.toList c = alphaB c := by
  rw [Bool.eq_iff_iff]
  simp [anyIs, letters, alphaB]
  omega
theorem in_letters (c : Int) (w : World) : Calls Try.prog 37 #[.string letters, .int .u8 c] w fun e w' => e = .returned (.bool (alphaB c)) ∧ w' = w :=
  (in_any letters c w (by decide)).mono fun e w' ⟨h1, h2⟩ => ⟨by rw [h1, letters_any], h2⟩

def goesB (long : Nat) (c : Int) : Bool := decide (long < 12 ∧ nameB c (long == 0) = true)

set_option maxHeartbeats 400000 in
theorem goes_any (long : Nat) (c : Int) (w : World) (hl : long ≤ 100) :
    Calls Try.prog 34 #[.int .i64 (long : Int), .int .u8 c] w fun e w' => e = .returned (.bool (goesB long c)) ∧ w' = w := by
  have key : ∀ r : Bool, (r = true ↔ (long < 12 ∧ (((97 ≤ c ∧ c ≤ 122) ∨ c = 95) ∨ (0 < long ∧ 48 ≤ c ∧ c ≤ 57)))) → r = goesB long c := by
    intro r h; rw [Bool.eq_iff_iff, h]; simp [goesB, nameB]; omega
  have KH : Hid (∀ r : Bool, _) := key
  clear key
  cases ha : alphaB c with
  | true =>
    have hA : (97 ≤ c ∧ c ≤ 122) ∨ c = 95 := by simpa [alphaB] using ha
    have HA : Hid ((97 ≤ c ∧ c ≤ 122) ∨ c = 95) := hA
    have HI : Hid (Calls Try.prog 37 #[.string letters, .int .u8 c] w fun e w' => e = .returned (.bool true) ∧ w' = w) := by
      have := in_letters c w; rw [ha] at this; exact this
    clear hA ha
    by_cases h12 : long < 12 <;> by_cases h48 : 48 ≤ c <;> by_cases h57 : c ≤ 57 <;> by_cases h0 : 0 < long <;> try (exfalso; omega)
    all_goals
      go_enter Try.func34, Try.ntmps34
      go_wp2_with (go_at_call 37; refine HI.out.mono ?_; rintro e w' ⟨rfl, rfl⟩)
      go_ret
      refine ⟨ret_b (KH.out _ ?_), rfl⟩
      have := HA.out
      simp
      try omega
  | false =>
    have hA : ¬ ((97 ≤ c ∧ c ≤ 122) ∨ c = 95) := by simpa [alphaB] using ha
    have HA : Hid (¬ ((97 ≤ c ∧ c ≤ 122) ∨ c = 95)) := hA
    have HI : Hid (Calls Try.prog 37 #[.string letters, .int .u8 c] w fun e w' => e = .returned (.bool false) ∧ w' = w) := by
      have := in_letters c w; rw [ha] at this; exact this
    clear hA ha
    by_cases h12 : long < 12 <;> by_cases h48 : 48 ≤ c <;> by_cases h57 : c ≤ 57 <;> by_cases h0 : 0 < long <;> try (exfalso; omega)
    all_goals
      go_enter Try.func34, Try.ntmps34
      go_wp2_with (go_at_call 37; refine HI.out.mono ?_; rintro e w' ⟨rfl, rfl⟩)
      go_ret
      refine ⟨ret_b (KH.out _ ?_), rfl⟩
      have := HA.out
      simp
      try omega

/-- The document's reader: what may come next, how much was read, the name, the labels with their values as written. -/
structure St where
  next : Nat
  long : Nat
  name : List UInt8
  labs : List Lab

/-- The reader's block and the row of its labels. -/
def TextAt (b : Nat) (st : St) (w : World) : Prop :=
  ∃ a c, w.heap[b]? = some (.cells #[.int .i64 (st.next : Int), .int .i64 (st.long : Int), .string (B st.name), .slice a st.labs.length c] 59) ∧
    w.ownsRow (b + 1) 62 3 (.slice a st.labs.length c) st.labs.length (labCells st.labs)

theorem text_set {w : World} {b o : Nat} {cs : Array Value} {t : TypeId} (h : w.heap[b]? = some (.cells cs t)) (v : Value) : (w.setCell ⟨b, o, none⟩ v).heap[b]? = some (.cells (cs.setIfInBounds o v) t) := by
  simp [World.setCell, Array.getElem?_modify, h]

set_option maxHeartbeats 400000 in
theorem named_yes (b : Nat) (st : St) (x3 : Value) (c sign : Int) (w : World) (hb : w.heap[b]? = some (.cells #[.int .i64 (st.next : Int), .int .i64 (st.long : Int), .string (B st.name), x3] 59)) (hl : st.long ≤ 100) (hg : goesB st.long c = true) :
    Calls Try.prog 26 #[.pointer (some ⟨b, 0, none⟩), .int .u8 c, .int .u8 sign] w fun e w' => e = .returned (.int .i64 1) ∧ w' = w.setCell ⟨b, 1, none⟩ (.int .i64 ((st.long + 1 : Nat) : Int)) := by
  have c1 : w.cell? ⟨b, 1, none⟩ = some (.int .i64 (st.long : Int)) := by simp [World.cell?, hb]
  have f1 : w.frozen? ⟨b, 1, none⟩ = false := by simp [World.frozen?, hb]
  have HG : Hid (Calls Try.prog 34 #[.int .i64 (st.long : Int), .int .u8 c] w fun e w' => e = .returned (.bool true) ∧ w' = w) := by
    have := goes_any st.long c w hl; rw [hg] at this; exact this
  clear hb hg
  go_enter Try.func26, Try.ntmps26
  go_wp2_with (go_at_call 34; refine HG.out.mono ?_; rintro e w' ⟨rfl, rfl⟩)
  go_ret
  exact ⟨rfl, by congr 2⟩

set_option maxHeartbeats 400000 in
theorem named_sign (b : Nat) (st : St) (x3 : Value) (c sign : Int) (w : World) (hb : w.heap[b]? = some (.cells #[.int .i64 (st.next : Int), .int .i64 (st.long : Int), .string (B st.name), x3] 59)) (hl : st.long ≤ 100) (hg : goesB st.long c = false) (h0 : 0 < st.long) (hc : (c == sign) = true) :
    Calls Try.prog 26 #[.pointer (some ⟨b, 0, none⟩), .int .u8 c, .int .u8 sign] w fun e w' => e = .returned (.int .i64 2) ∧ w' = w.setCell ⟨b, 1, none⟩ (.int .i64 0) := by
  have c1 : w.cell? ⟨b, 1, none⟩ = some (.int .i64 (st.long : Int)) := by simp [World.cell?, hb]
  have f1 : w.frozen? ⟨b, 1, none⟩ = false := by simp [World.frozen?, hb]
  have HG : Hid (Calls Try.prog 34 #[.int .i64 (st.long : Int), .int .u8 c] w fun e w' => e = .returned (.bool false) ∧ w' = w) := by
    have := goes_any st.long c w hl; rw [hg] at this; exact this
  have h0' : (0 : Int) < (st.long : Int) := by omega
  clear hb hg
  go_enter Try.func26, Try.ntmps26
  go_wp2_with (go_at_call 34; refine HG.out.mono ?_; rintro e w' ⟨rfl, rfl⟩)
  go_ret
  exact ⟨rfl, rfl⟩

set_option maxHeartbeats 400000 in
theorem named_no (b : Nat) (st : St) (x3 : Value) (c sign : Int) (w : World) (hb : w.heap[b]? = some (.cells #[.int .i64 (st.next : Int), .int .i64 (st.long : Int), .string (B st.name), x3] 59)) (hl : st.long ≤ 100) (hg : goesB st.long c = false) (h0 : st.long = 0 ∨ (c == sign) = false) :
    Calls Try.prog 26 #[.pointer (some ⟨b, 0, none⟩), .int .u8 c, .int .u8 sign] w fun e w' => e = .returned (.int .i64 0) ∧ w' = w := by
  have c1 : w.cell? ⟨b, 1, none⟩ = some (.int .i64 (st.long : Int)) := by simp [World.cell?, hb]
  have HG : Hid (Calls Try.prog 34 #[.int .i64 (st.long : Int), .int .u8 c] w fun e w' => e = .returned (.bool false) ∧ w' = w) := by
    have := goes_any st.long c w hl; rw [hg] at this; exact this
  clear hb hg
  by_cases h1 : 0 < st.long
  · have h1' : (0 : Int) < (st.long : Int) := by omega
    have hc : (c == sign) = false := by rcases h0 with h | h
                                        · omega
                                        · exact h
    clear h0
    go_enter Try.func26, Try.ntmps26
    go_wp2_with (go_at_call 34; refine HG.out.mono ?_; rintro e w' ⟨rfl, rfl⟩)
    go_ret
    exact ⟨rfl, rfl⟩
  · have h1' : ¬ (0 : Int) < (st.long : Int) := by omega
    clear h0
    go_enter Try.func26, Try.ntmps26
    go_wp2_with (go_at_call 34; refine HG.out.mono ?_; rintro e w' ⟨rfl, rfl⟩)
    go_ret
    exact ⟨rfl, rfl⟩

end Go.Proofs.Ytcfdemhokbddiaa
