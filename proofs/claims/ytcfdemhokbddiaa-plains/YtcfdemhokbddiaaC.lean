/-
  The reader's value: escapes, one byte of a value, the whole value.
-/
import Derived.Test.YtcfdemhokbddiaaB
namespace Go.Proofs.Ytcfdemhokbddiaa
open Go.RowKit

/-- What stands behind a backslash. -/
def escP : List UInt8 → Option UInt8 × List UInt8
  | [] => (none, [])
  | d :: l => if d.toNat = 34 then (some 34, l) else if d.toNat = 92 then (some 92, l) else if d.toNat = 110 then (some 10, l) else (none, d :: l)
/-- One byte of a value. -/
def vbP : List UInt8 → Option UInt8 × List UInt8
  | [] => (none, [])
  | c :: l => if c.toNat = 92 then escP l else (some c, l)
/-- A value and the quote behind it; r bytes more may come. -/
def valP : Nat → List UInt8 → Option (List UInt8) × List UInt8
  | _, [] => (none, [])
  | 0, c :: l => if c.toNat = 34 then (some [], l) else (none, c :: l)
  | r + 1, c :: l => if c.toNat = 34 then (some [], l) else
      match vbP (c :: l) with
      | (none, l') => (none, l')
      | (some x, l') => match valP r l' with
        | (none, l'') => (none, l'')
        | (some v, l'') => (some (x :: v), l'')

theorem ret_byte {a b : Int} {c d : Bool} (h : a = b) (k : c = d) : Ending.returned (.tuple #[.int .u8 a, .bool c]) = .returned (.tuple #[.int .u8 b, .bool d]) := by rw [h, k]

set_option maxHeartbeats 400000 in
theorem escaped_any (b : Nat) (s : ByteArray) (n : Nat) (w : World) (hb : w.heap[b]? = some (rdr s n)) (hn : n ≤ s.size) (hs : s.size ≤ 100) :
    Calls Try.prog 39 #[.pointer (some ⟨b, 0, none⟩)] w fun e w' => ∃ (m : Nat) (o : Option UInt8), n ≤ m ∧ m ≤ s.size ∧ escP (s.data.toList.drop n) = (o, s.data.toList.drop m) ∧
      e = .returned (.tuple #[.int .u8 ((o.getD 0).toNat : Int), .bool o.isSome]) ∧ w'.heap[b]? = some (rdr s m) ∧ w.grownBy w' (some b) := by
  by_cases hlt : n < s.size
  · have hd := drop_cons s n hlt
    by_cases h1 : s[n].toNat = 34
    · have HE : Hid (escP (s.data.toList.drop n) = (some 34, s.data.toList.drop (n + 1))) := by rw [hd]; simp [Hid, escP, h1]
      have X : ((s[n].toNat : Int) != 34) = false := by simp [h1]
      clear hd h1
      go_enter Try.func39, Try.ntmps39
      go_wp2_with (go_at_call 28; refine (take_yes b s n _ _ (by exact hb) hlt hs X).mono ?_; rintro e w1 ⟨rfl, q1, q2⟩)
      go_ret2
      exact ⟨n + 1, some 34, by omega, by omega, HE.out, ret_byte (by decide) rfl, q1, q2⟩
    · have X : ((s[n].toNat : Int) != 34) = true := by simp; omega
      by_cases h2 : s[n].toNat = 92
      · have HE : Hid (escP (s.data.toList.drop n) = (some 92, s.data.toList.drop (n + 1))) := by rw [hd]; simp [Hid, escP, h2]
        have Y : ((s[n].toNat : Int) != 92) = false := by simp [h2]
        clear hd h1 h2
        go_enter Try.func39, Try.ntmps39
        go_wp2_with fail
        refine (take_no b s n _ _ (by exact hb) hlt X).mono ?_
        rintro e w1 ⟨rfl, q, rfl⟩
        go_wp2_with fail
        refine (take_yes b s n _ _ (by exact hb) hlt hs Y).mono ?_
        rintro e w1 ⟨rfl, q1, q2⟩
        go_wp2
        go_ret2
        exact ⟨n + 1, some 92, by omega, by omega, HE.out, ret_byte (by decide) rfl, q1, gb_trans (gb_drewN _ _ _) q2⟩
      · have Y : ((s[n].toNat : Int) != 92) = true := by simp; omega
        by_cases h3 : s[n].toNat = 110
        · have HE : Hid (escP (s.data.toList.drop n) = (some 10, s.data.toList.drop (n + 1))) := by rw [hd]; simp [Hid, escP, h3]
          have Z : ((s[n].toNat : Int) != 110) = false := by simp [h3]
          clear hd h1 h2 h3
          go_enter Try.func39, Try.ntmps39
          go_wp2_with fail
          refine (take_no b s n _ _ (by exact hb) hlt X).mono ?_
          rintro e w1 ⟨rfl, q, rfl⟩
          go_wp2_with fail
          refine (take_no b s n _ _ (by exact hb) hlt Y).mono ?_
          rintro e w1 ⟨rfl, q', rfl⟩
          go_wp2_with fail
          refine (take_yes b s n _ _ (by exact hb) hlt hs Z).mono ?_
          rintro e w1 ⟨rfl, q1, q2⟩
          go_wp2
          go_ret2
          exact ⟨n + 1, some 10, by omega, by omega, HE.out, ret_byte (by decide) rfl, q1, gb_trans (gb_drewN _ _ _) q2⟩
        · have Z : ((s[n].toNat : Int) != 110) = true := by simp; omega
          have HE : Hid (escP (s.data.toList.drop n) = (none, s.data.toList.drop n)) := by rw [hd]; simp [Hid, escP, h1, h2, h3]
          clear hd h1 h2 h3
          go_enter Try.func39, Try.ntmps39
          go_wp2_with fail
          refine (take_no b s n _ _ (by exact hb) hlt X).mono ?_
          rintro e w1 ⟨rfl, q, rfl⟩
          go_wp2_with fail
          refine (take_no b s n _ _ (by exact hb) hlt Y).mono ?_
          rintro e w1 ⟨rfl, q', rfl⟩
          go_wp2_with fail
          refine (take_no b s n _ _ (by exact hb) hlt Z).mono ?_
          rintro e w1 ⟨rfl, q'', rfl⟩
          go_wp2
          go_ret2
          exact ⟨n, none, by omega, by omega, HE.out, ret_byte (by decide) rfl, hb, gb_drewN _ _ _⟩
  · have HE : Hid (escP (s.data.toList.drop n) = (none, s.data.toList.drop n)) := by
      rw [show n = s.size from by omega, drop_all]; simp [Hid, escP]
    have hn' : n = s.size := by omega
    have HN : Hid (n = s.size) := hn'
    clear hn'
    go_enter Try.func39, Try.ntmps39
    go_wp2_with fail
    refine (take_end b s n _ _ (by exact hb) HN.out).mono ?_
    rintro e w1 ⟨rfl, q, rfl⟩
    go_wp2_with fail
    refine (take_end b s n _ _ (by exact hb) HN.out).mono ?_
    rintro e w1 ⟨rfl, q', rfl⟩
    go_wp2_with fail
    refine (take_end b s n _ _ (by exact hb) HN.out).mono ?_
    rintro e w1 ⟨rfl, q'', rfl⟩
    go_wp2
    go_ret2
    exact ⟨n, none, by omega, by omega, HE.out, ret_byte (by decide) rfl, hb, gb_drewN _ _ _⟩

set_option maxHeartbeats 400000 in
theorem valueByte_any (b : Nat) (s : ByteArray) (n : Nat) (w : World) (hb : w.heap[b]? = some (rdr s n)) (hn : n ≤ s.size) (hs : s.size ≤ 100) :
    Calls Try.prog 38 #[.pointer (some ⟨b, 0, none⟩)] w fun e w' => ∃ (m : Nat) (o : Option UInt8), n ≤ m ∧ (o.isSome = true → n < m) ∧ m ≤ s.size ∧ vbP (s.data.toList.drop n) = (o, s.data.toList.drop m) ∧
      e = .returned (.tuple #[.int .u8 ((o.getD 0).toNat : Int), .bool o.isSome]) ∧ w'.heap[b]? = some (rdr s m) ∧ w.grownBy w' (some b) := by
  by_cases hlt : n < s.size
  · have hd := drop_cons s n hlt
    by_cases h1 : s[n].toNat = 92
    · have HE : Hid (vbP (s.data.toList.drop n) = escP (s.data.toList.drop (n + 1))) := by rw [hd]; simp [Hid, vbP, h1]
      have X : ((s[n].toNat : Int) != 92) = false := by simp [h1]
      clear hd h1
      go_enter Try.func38, Try.ntmps38
      go_wp2_with fail
      refine (ended_f b s n _ (by exact hb) hlt).mono ?_
      rintro e w1 ⟨rfl, q, rfl⟩
      go_wp2_with fail
      refine (take_yes b s n _ _ (by exact hb) hlt hs X).mono ?_
      rintro e w1 ⟨rfl, q1, q2⟩
      go_wp2_with fail
      refine (escaped_any b s (n + 1) _ q1 (by omega) hs).mono ?_
      rintro e w2 ⟨m, o, a1, a2, a3, rfl, a4, a5⟩
      have HA : Hid (escP (s.data.toList.drop (n + 1)) = (o, s.data.toList.drop m)) := a3
      clear a3
      go_wp2
      go_ret2
      exact ⟨m, o, by omega, fun _ => by omega, a2, HE.out.trans HA.out, rfl, a4, gb_trans (gb_trans (gb_drewN _ _ _) q2) a5⟩
    · have HE : Hid (vbP (s.data.toList.drop n) = (some s[n], s.data.toList.drop (n + 1))) := by rw [hd]; simp [Hid, vbP, h1]
      have X : ((s[n].toNat : Int) != 92) = true := by simp; omega
      have c0 := cell0 hb
      have c1 := cell1 hb
      have f1 := froz1 hb
      have hlt' : (n : Int) < (s.size : Int) := by omega
      clear hd h1
      go_enter Try.func38, Try.ntmps38
      go_wp2_with fail
      refine (ended_f b s n _ (by exact hb) hlt).mono ?_
      rintro e w1 ⟨rfl, q, rfl⟩
      go_wp2_with fail
      refine (take_no b s n _ _ (by exact hb) hlt X).mono ?_
      rintro e w1 ⟨rfl, q', rfl⟩
      go_wp2
      go_quiet (fail)
      go_wp2
      go_ret2
      refine ⟨n + 1, some s[n], by omega, fun _ => by omega, by omega, HE.out, ret_byte (by simp) rfl, ?_, ?_⟩
      · exact rdr_set (w := w.drewN _) hb (n + 1) _ (by omega)
      · exact gb_s (gb_drewN _ _ _)
  · have hn' : n = s.size := by omega
    have HN : Hid (n = s.size) := hn'
    have HE : Hid (vbP (s.data.toList.drop n) = (none, s.data.toList.drop n)) := by
      rw [hn', drop_all]; simp [Hid, vbP]
    clear hn'
    go_enter Try.func38, Try.ntmps38
    go_wp2_with fail
    refine (ended_t b s n _ (by exact hb) HN.out).mono ?_
    rintro e w1 ⟨rfl, q, rfl⟩
    go_wp2
    go_ret2
    exact ⟨n, none, by omega, fun h => by simp at h, by omega, HE.out, ret_byte (by decide) rfl, hb, gb_drewN _ _ _⟩

end Go.Proofs.Ytcfdemhokbddiaa
