/-
  The small methods of the reader (ended, take, nameByte): what each call answers and what becomes of the reader's block.
-/
import Derived.Test.YtcfdemhokbddiaaGreatDoorRows
import Derived.WalkKit
import Derived.WalkSpells
import Derived.WalkLawsBesides
import Derived.Deep.QuietTactic
import Derived.BigQuiet

namespace Go.Proofs.YtcfdemhokbddiaaGreatDoor
open Go.RowKit

/-- The reader's block: the text, the place. -/
def rdr (s : ByteArray) (n : Nat) : Obj := .cells #[.string s, .int .i64 (n : Int)] 124

theorem cell0 {w : World} {b : Nat} {s : ByteArray} {n : Nat} (h : w.heap[b]? = some (rdr s n)) : w.cell? ⟨b, 0, none⟩ = some (.string s) := by
  simp [World.cell?, h, rdr]
theorem cell1 {w : World} {b : Nat} {s : ByteArray} {n : Nat} (h : w.heap[b]? = some (rdr s n)) : w.cell? ⟨b, 1, none⟩ = some (.int .i64 (n : Int)) := by
  simp [World.cell?, h, rdr]
theorem froz1 {w : World} {b : Nat} {s : ByteArray} {n : Nat} (h : w.heap[b]? = some (rdr s n)) : w.frozen? ⟨b, 1, none⟩ = false := by
  simp [World.frozen?, h, rdr]
theorem rdr_set {w : World} {b : Nat} {s : ByteArray} {n : Nat} (h : w.heap[b]? = some (rdr s n)) (m : Nat) (v : Int) (hv : v = (m : Int)) : (w.setCell ⟨b, 1, none⟩ (.int .i64 v)).heap[b]? = some (rdr s m) := by
  subst hv
  simp [World.setCell, Array.getElem?_modify, h, rdr]

theorem gb_refl (w : World) (r : Option Nat) : w.grownBy w r := ⟨rfl, rfl, rfl, Nat.le_refl _, fun _ _ _ => rfl⟩
theorem gb_trans {a b c : World} {r : Option Nat} (h : a.grownBy b r) (k : b.grownBy c r) : a.grownBy c r :=
  ⟨k.os.trans h.os, k.tape.trans h.tape, k.output.trans h.output, Nat.le_trans h.size k.size, fun i hi hr => (k.block i (Nat.lt_of_lt_of_le hi h.size) hr).trans (h.block i hi hr)⟩
theorem gb_drewN (w : World) (q : Nat) (r : Option Nat) : w.grownBy (w.drewN q) r := ⟨rfl, rfl, rfl, Nat.le_refl _, fun _ _ _ => rfl⟩
theorem gb_d {a w : World} {q : Nat} {r : Option Nat} (h : a.grownBy w r) : a.grownBy (w.drewN q) r := gb_trans h (gb_drewN _ _ _)
theorem gb_setCell (w : World) (b o : Nat) (v : Value) : w.grownBy (w.setCell ⟨b, o, none⟩ v) (some b) :=
  ⟨rfl, rfl, rfl, by simp [World.setCell], fun k _ hk => Below.heap_setCell _ _ _ _ (fun e => hk (by rw [e]))⟩

theorem gb_s {a w : World} {b o : Nat} {v : Value} (h : a.grownBy w (some b)) : a.grownBy (w.setCell ⟨b, o, none⟩ v) (some b) := gb_trans h (gb_setCell _ _ _ _)

set_option maxHeartbeats 400000 in
theorem ended_any (b : Nat) (s : ByteArray) (n : Nat) (w : World) (hb : w.heap[b]? = some (rdr s n)) :
    Calls Tryz.prog 93 #[.pointer (some ⟨b, 0, none⟩)] w fun e w' => e = .returned (.bool ((n : Int) == (s.size : Int))) ∧ ∃ q, w' = w.drewN q := by
  have c0 := cell0 hb
  have c1 := cell1 hb
  clear hb
  go_enter Tryz.func93, Tryz.ntmps93
  go_wp2
  go_quiet (fail)
  go_wp2
  go_ret
  exact ⟨rfl, _, rfl⟩

/-- May this byte stand in a name (first: as its first byte)? -/
def nameB (c : Int) (f : Bool) : Bool := decide ((97 ≤ c ∧ c ≤ 122) ∨ c = 95 ∨ (f = false ∧ 48 ≤ c ∧ c ≤ 57))
theorem ret_bool {a b : Bool} (h : a = b) : Ending.returned (.bool a) = .returned (.bool b) := by rw [h]

set_option maxHeartbeats 400000 in
theorem nameByte_95 (f : Bool) (w : World) :
    Calls Tryz.prog 125 #[.int .u8 95, .bool f] w fun e w' => e = .returned (.bool true) ∧ w' = w := by
  go_enter Tryz.func125, Tryz.ntmps125
  go_wp2
  go_ret
  exact ⟨rfl, rfl⟩

set_option maxHeartbeats 400000 in
theorem nameByte_any (c : Int) (f : Bool) (w : World) :
    Calls Tryz.prog 125 #[.int .u8 c, .bool f] w fun e w' => e = .returned (.bool (nameB c f)) ∧ w' = w := by
  have key : ∀ r : Bool, (r = true ↔ ((97 ≤ c ∧ c ≤ 122) ∨ c = 95 ∨ (f = false ∧ 48 ≤ c ∧ c ≤ 57))) → r = nameB c f := by
    intro r h; rw [Bool.eq_iff_iff]; simpa [nameB] using h
  by_cases h3 : c = 95
  · have := key true (by simp [h3])
    subst h3; rw [← this]; exact nameByte_95 f w
  have h3' : (c == 95) = false := by simpa using h3
  by_cases h1 : 97 ≤ c <;> by_cases h2 : c ≤ 122 <;> by_cases h4 : 48 ≤ c <;> by_cases h5 : c ≤ 57 <;> cases f <;> try (exfalso; omega)
  all_goals
    have KH : Hid (∀ r : Bool, _) := key
    clear key
    go_enter Tryz.func125, Tryz.ntmps125
    go_wp2
    go_ret
    refine ⟨ret_bool (KH.out _ ?_), rfl⟩
    simp
    try omega

theorem ended_t (b : Nat) (s : ByteArray) (n : Nat) (w : World) (hb : w.heap[b]? = some (rdr s n)) (hn : n = s.size) :
    Calls Tryz.prog 93 #[.pointer (some ⟨b, 0, none⟩)] w fun e w' => e = .returned (.bool true) ∧ ∃ q, w' = w.drewN q :=
  (ended_any b s n w hb).mono fun e w' ⟨he, hw⟩ => ⟨by rw [he]; simp [hn], hw⟩
theorem ended_f (b : Nat) (s : ByteArray) (n : Nat) (w : World) (hb : w.heap[b]? = some (rdr s n)) (hn : n < s.size) :
    Calls Tryz.prog 93 #[.pointer (some ⟨b, 0, none⟩)] w fun e w' => e = .returned (.bool false) ∧ ∃ q, w' = w.drewN q :=
  (ended_any b s n w hb).mono fun e w' ⟨he, hw⟩ => ⟨by rw [he]; exact ret_bool (beq_eq_false_iff_ne.2 (by omega)), hw⟩

set_option maxHeartbeats 400000 in
theorem take_end (b : Nat) (s : ByteArray) (n : Nat) (c : Int) (w : World) (hb : w.heap[b]? = some (rdr s n)) (hn : n = s.size) :
    Calls Tryz.prog 144 #[.pointer (some ⟨b, 0, none⟩), .int .u8 c] w fun e w' => e = .returned (.bool false) ∧ ∃ q, w' = w.drewN q := by
  have he : Hid (∀ m, _) := fun m => ended_t b s n (w.drewN m) hb hn
  clear hn
  go_enter Tryz.func144, Tryz.ntmps144
  go_wp2_with fail
  go_quiet ((go_at_call 93; exact Calls.quiet_of (he.out _)))
  go_wp2
  go_ret
  exact ⟨rfl, _, rfl⟩

set_option maxHeartbeats 400000 in
theorem take_no (b : Nat) (s : ByteArray) (n : Nat) (c : Int) (w : World) (hb : w.heap[b]? = some (rdr s n)) (hn : n < s.size) (hc : ((s[n].toNat : Int) != c) = true) :
    Calls Tryz.prog 144 #[.pointer (some ⟨b, 0, none⟩), .int .u8 c] w fun e w' => e = .returned (.bool false) ∧ ∃ q, w' = w.drewN q := by
  have he : Hid (∀ m, _) := fun m => ended_f b s n (w.drewN m) hb hn
  have c0 := cell0 hb
  have c1 := cell1 hb
  have hn' : (n : Int) < (s.size : Int) := by omega
  go_enter Tryz.func144, Tryz.ntmps144
  go_wp2_with fail
  go_quiet ((go_at_call 93; exact Calls.quiet_of (he.out _)))
  go_wp2
  go_ret
  exact ⟨rfl, _, rfl⟩

set_option maxHeartbeats 400000 in
theorem take_yes (b : Nat) (s : ByteArray) (n : Nat) (c : Int) (w : World) (hb : w.heap[b]? = some (rdr s n)) (hn : n < s.size) (hs : s.size ≤ 100) (hc : ((s[n].toNat : Int) != c) = false) :
    Calls Tryz.prog 144 #[.pointer (some ⟨b, 0, none⟩), .int .u8 c] w fun e w' => e = .returned (.bool true) ∧ w'.heap[b]? = some (rdr s (n + 1)) ∧ w.grownBy w' (some b) := by
  have he : Hid (∀ m, _) := fun m => ended_f b s n (w.drewN m) hb hn
  have c0 := cell0 hb
  have c1 := cell1 hb
  have f1 := froz1 hb
  have hn' : (n : Int) < (s.size : Int) := by omega
  go_enter Tryz.func144, Tryz.ntmps144
  go_wp2_with fail
  go_quiet ((go_at_call 93; exact Calls.quiet_of (he.out _)))
  go_wp2
  go_ret
  exact ⟨rfl, rdr_set (w := w.drewN _) hb (n + 1) _ (by omega), gb_trans (gb_drewN w _ _) (gb_setCell _ _ _ _)⟩

end Go.Proofs.YtcfdemhokbddiaaGreatDoor

/-
  The reader's name: how many bytes it takes, and what it answers.
-/
namespace Go.Proofs.YtcfdemhokbddiaaGreatDoor
open Go.RowKit

/-- How many bytes of a name stand ahead in l, k having been read. -/
def nameLen : Nat → List UInt8 → Nat
  | _, [] => 0
  | k, c :: l => if k < 12 ∧ nameB (c.toNat : Int) (k == 0) = true then 1 + nameLen (k + 1) l else 0

theorem drop_cons (s : ByteArray) (n : Nat) (h : n < s.size) : s.data.toList.drop n = s[n] :: s.data.toList.drop (n + 1) := by
  rw [List.drop_eq_getElem_cons (by simpa using h)]; rfl
theorem drop_all (s : ByteArray) : s.data.toList.drop s.size = [] := by
  apply List.drop_of_length_le; exact Nat.le_of_eq rfl
theorem nameLen_le (k : Nat) (l : List UInt8) : nameLen k l ≤ l.length := by
  induction l generalizing k with
  | nil => simp [nameLen]
  | cons c l ih => unfold nameLen; split <;> simp; have := ih (k + 1); omega
theorem nameLen_full (l : List UInt8) : nameLen 12 l = 0 := by cases l <;> simp [nameLen]

theorem ret_pair {v u : Value} {a b : Bool} (h : v = u) (k : a = b) : Ending.returned (.tuple #[v, .bool a]) = .returned (.tuple #[u, .bool b]) := by rw [h, k]

/-- The place of the reader in block b. -/
def posOf (b : Nat) (w : World) : Nat := match w.cell? ⟨b, 1, none⟩ with | some (.int _ q) => q.toNat | _ => 0
theorem posOf_rdr {w : World} {b : Nat} {s : ByteArray} {n : Nat} (h : w.heap[b]? = some (rdr s n)) : posOf b w = n := by
  simp [posOf, cell1 h]

set_option maxHeartbeats 400000 in
theorem name_any (b : Nat) (s : ByteArray) (n : Nat) (w : World) (hb : w.heap[b]? = some (rdr s n)) (hn : n ≤ s.size) (hs : s.size ≤ 100) :
    Calls Tryz.prog 92 #[.pointer (some ⟨b, 0, none⟩)] w fun e w' => ∃ m, m = n + nameLen 0 (s.data.toList.drop n) ∧ m ≤ s.size ∧
      e = .returned (.tuple #[.string (s.extract n m), .bool (decide (n < m))]) ∧ w'.heap[b]? = some (rdr s m) ∧ w.grownBy w' (some b) := by
  have c0 := cell0 hb
  have c1 := cell1 hb
  go_enter Tryz.func92, Tryz.ntmps92
  go_wp2
  go_loopw [] (fun wr => ∃ m, wr.heap[b]? = some (rdr s m) ∧ w.grownBy wr (some b) ∧ n ≤ m ∧ m ≤ s.size ∧ m - n ≤ 12 ∧ nameLen 0 (s.data.toList.drop n) = (m - n) + nameLen (m - n) (s.data.toList.drop m))
    (fun wr => 100 - posOf b wr)
  case atStart => exact ⟨n, hb, gb_refl _ _, Nat.le_refl _, hn, by omega, by simp⟩
  case round =>
    obtain ⟨m, hm, hg, h1, h2, h3, h4⟩ := hrel
    clear c0 c1
    have c0 := cell0 hm
    have c1 := cell1 hm
    have H4 : Hid (nameLen 0 (s.data.toList.drop n) = (m - n) + nameLen (m - n) (s.data.toList.drop m)) := h4
    clear h4
    by_cases hlt : m < s.size
    · have he : Hid (∀ k, _) := fun k => ended_f b s m (wr.drewN k) hm hlt
      have hlt' : (m : Int) < (s.size : Int) := by omega
      have hd : Hid (s.data.toList.drop m = _) := drop_cons s m hlt
      by_cases h12 : m - n < 12
      · have h12' : (m : Int) - (n : Int) < 12 := by omega
        have e0 : ((m : Int) == (n : Int)) = (m - n == 0) := by rw [Bool.eq_iff_iff]; simp; omega
        cases hnb : nameB (s[m].toNat : Int) (m - n == 0)
        · have hN : Hid (∀ k, Calls Tryz.prog 125 #[.int .u8 (s[m].toNat : Int), .bool ((m : Int) == (n : Int))] (wr.drewN k) fun e w' => e = .returned (.bool false) ∧ w' = wr.drewN k) :=
            fun k => (nameByte_any (s[m].toNat : Int) ((m : Int) == (n : Int)) (wr.drewN k)).mono fun e w' ⟨h1, h2⟩ => ⟨by rw [h1, e0, hnb], h2⟩
          have HN : Hid (nameB (s[m].toNat : Int) (m - n == 0) = false) := hnb
          clear e0 hnb
          go_wp2_with fail
          go_quiet (first | (go_at_call 93; exact Calls.quiet_of (he.out _)) | (go_at_call 125; exact Calls.quiet_of_same (hN.out _)))
          go_wp2
          go_quiet (fail)
          go_wp2
          go_ret2
          refine ⟨m, ?_, h2, ?_, hm, gb_d (gb_d hg)⟩
          · have := H4.out
            rw [hd.out] at this
            simp [nameLen, HN.out] at this
            omega
          · exact ret_pair rfl (by simp)
        · have hN : Hid (∀ k, Calls Tryz.prog 125 #[.int .u8 (s[m].toNat : Int), .bool ((m : Int) == (n : Int))] (wr.drewN k) fun e w' => e = .returned (.bool true) ∧ w' = wr.drewN k) :=
            fun k => (nameByte_any (s[m].toNat : Int) ((m : Int) == (n : Int)) (wr.drewN k)).mono fun e w' ⟨h1, h2⟩ => ⟨by rw [h1, e0, hnb], h2⟩
          have HN : Hid (nameB (s[m].toNat : Int) (m - n == 0) = true) := hnb
          have f1 := froz1 hm
          clear e0 hnb
          go_wp2_with fail
          go_quiet (first | (go_at_call 93; exact Calls.quiet_of (he.out _)) | (go_at_call 125; exact Calls.quiet_of_same (hN.out _)))
          go_wp2
          go_roundw
          case rel =>
            refine ⟨m + 1, rdr_set (w := wr.drewN _) hm (m + 1) _ (by omega), gb_s (gb_d hg), by omega, by omega, by omega, ?_⟩
            rw [H4.out, hd.out]
            simp [nameLen, HN.out, h12]
            rw [show m + 1 - n = m - n + 1 from by omega]; omega
          case measure =>
            rw [posOf_rdr hm, posOf_rdr (rdr_set (w := wr.drewN _) hm (m + 1) _ (by omega))]
            omega
      · have h12' : decide ((m : Int) - (n : Int) < 12) = false := by simp; omega
        go_wp2_with fail
        go_quiet ((go_at_call 93; exact Calls.quiet_of (he.out _)))
        go_wp2
        go_quiet (fail)
        go_wp2
        go_ret2
        refine ⟨m, ?_, h2, ?_, hm, gb_d (gb_d hg)⟩
        · have := H4.out
          rw [show m - n = 12 from by omega, nameLen_full] at this
          omega
        · exact ret_pair rfl (by simp)
    · have he : Hid (∀ k, _) := fun k => ended_t b s m (wr.drewN k) hm (by omega)
      go_wp2_with fail
      go_quiet ((go_at_call 93; exact Calls.quiet_of (he.out _)))
      go_wp2
      go_quiet (fail)
      go_wp2
      go_ret2
      refine ⟨m, ?_, h2, ?_, hm, gb_d (gb_d hg)⟩
      · have e1 : m = s.size := by omega
        have := H4.out
        subst e1
        rw [drop_all] at this
        simp [nameLen] at this
        omega
      · exact ret_pair rfl (by simp)
end Go.Proofs.YtcfdemhokbddiaaGreatDoor

/-
  The reader's value: escapes, one byte of a value, the whole value.
-/
namespace Go.Proofs.YtcfdemhokbddiaaGreatDoor
open Go.RowKit

/-- What stands behind a backslash. -/
def escP : List UInt8 → Option UInt8 × List UInt8
  | [] => (none, [])
  | d :: l => if d.toNat = 34 then (some 34, l) else if d.toNat = 92 then (some 92, l) else if d.toNat = 110 then (some 10, l) else (none, d :: l)
/-- One byte of a value. -/
def vbP : List UInt8 → Option UInt8 × List UInt8
  | [] => (none, [])
  | c :: l => if c.toNat = 92 then escP l else (some c, l)
/-- A value and the quote behind it; r bytes more may come. -/
def valP : Nat → List UInt8 → Option (List UInt8) × List UInt8
  | _, [] => (none, [])
  | 0, c :: l => if c.toNat = 34 then (some [], l) else (none, c :: l)
  | r + 1, c :: l => if c.toNat = 34 then (some [], l) else
      match vbP (c :: l) with
      | (none, l') => (none, l')
      | (some x, l') => match valP r l' with
        | (none, l'') => (none, l'')
        | (some v, l'') => (some (x :: v), l'')

theorem ret_byte {a b : Int} {c d : Bool} (h : a = b) (k : c = d) : Ending.returned (.tuple #[.int .u8 a, .bool c]) = .returned (.tuple #[.int .u8 b, .bool d]) := by rw [h, k]

set_option maxHeartbeats 400000 in
theorem escaped_any (b : Nat) (s : ByteArray) (n : Nat) (w : World) (hb : w.heap[b]? = some (rdr s n)) (hn : n ≤ s.size) (hs : s.size ≤ 100) :
    Calls Tryz.prog 168 #[.pointer (some ⟨b, 0, none⟩)] w fun e w' => ∃ (m : Nat) (o : Option UInt8), n ≤ m ∧ m ≤ s.size ∧ escP (s.data.toList.drop n) = (o, s.data.toList.drop m) ∧
      e = .returned (.tuple #[.int .u8 ((o.getD 0).toNat : Int), .bool o.isSome]) ∧ w'.heap[b]? = some (rdr s m) ∧ w.grownBy w' (some b) := by
  by_cases hlt : n < s.size
  · have hd := drop_cons s n hlt
    by_cases h1 : s[n].toNat = 34
    · have HE : Hid (escP (s.data.toList.drop n) = (some 34, s.data.toList.drop (n + 1))) := by rw [hd]; simp [Hid, escP, h1]
      have X : ((s[n].toNat : Int) != 34) = false := by simp [h1]
      clear hd h1
      go_enter Tryz.func168, Tryz.ntmps168
      go_wp2_with (go_at_call 144; refine (take_yes b s n _ _ (by exact hb) hlt hs X).mono ?_; rintro e w1 ⟨rfl, q1, q2⟩)
      go_ret2
      exact ⟨n + 1, some 34, by omega, by omega, HE.out, ret_byte (by decide) rfl, q1, q2⟩
    · have X : ((s[n].toNat : Int) != 34) = true := by simp; omega
      by_cases h2 : s[n].toNat = 92
      · have HE : Hid (escP (s.data.toList.drop n) = (some 92, s.data.toList.drop (n + 1))) := by rw [hd]; simp [Hid, escP, h2]
        have Y : ((s[n].toNat : Int) != 92) = false := by simp [h2]
        clear hd h1 h2
        go_enter Tryz.func168, Tryz.ntmps168
        go_wp2_with fail
        refine (take_no b s n _ _ (by exact hb) hlt X).mono ?_
        rintro e w1 ⟨rfl, q, rfl⟩
        go_wp2_with fail
        refine (take_yes b s n _ _ (by exact hb) hlt hs Y).mono ?_
        rintro e w1 ⟨rfl, q1, q2⟩
        go_wp2
        go_ret2
        exact ⟨n + 1, some 92, by omega, by omega, HE.out, ret_byte (by decide) rfl, q1, gb_trans (gb_drewN _ _ _) q2⟩
      · have Y : ((s[n].toNat : Int) != 92) = true := by simp; omega
        by_cases h3 : s[n].toNat = 110
        · have HE : Hid (escP (s.data.toList.drop n) = (some 10, s.data.toList.drop (n + 1))) := by rw [hd]; simp [Hid, escP, h3]
          have Z : ((s[n].toNat : Int) != 110) = false := by simp [h3]
          clear hd h1 h2 h3
          go_enter Tryz.func168, Tryz.ntmps168
          go_wp2_with fail
          refine (take_no b s n _ _ (by exact hb) hlt X).mono ?_
          rintro e w1 ⟨rfl, q, rfl⟩
          go_wp2_with fail
          refine (take_no b s n _ _ (by exact hb) hlt Y).mono ?_
          rintro e w1 ⟨rfl, q', rfl⟩
          go_wp2_with fail
          refine (take_yes b s n _ _ (by exact hb) hlt hs Z).mono ?_
          rintro e w1 ⟨rfl, q1, q2⟩
          go_wp2
          go_ret2
          exact ⟨n + 1, some 10, by omega, by omega, HE.out, ret_byte (by decide) rfl, q1, gb_trans (gb_drewN _ _ _) q2⟩
        · have Z : ((s[n].toNat : Int) != 110) = true := by simp; omega
          have HE : Hid (escP (s.data.toList.drop n) = (none, s.data.toList.drop n)) := by rw [hd]; simp [Hid, escP, h1, h2, h3]
          clear hd h1 h2 h3
          go_enter Tryz.func168, Tryz.ntmps168
          go_wp2_with fail
          refine (take_no b s n _ _ (by exact hb) hlt X).mono ?_
          rintro e w1 ⟨rfl, q, rfl⟩
          go_wp2_with fail
          refine (take_no b s n _ _ (by exact hb) hlt Y).mono ?_
          rintro e w1 ⟨rfl, q', rfl⟩
          go_wp2_with fail
          refine (take_no b s n _ _ (by exact hb) hlt Z).mono ?_
          rintro e w1 ⟨rfl, q'', rfl⟩
          go_wp2
          go_ret2
          exact ⟨n, none, by omega, by omega, HE.out, ret_byte (by decide) rfl, hb, gb_drewN _ _ _⟩
  · have HE : Hid (escP (s.data.toList.drop n) = (none, s.data.toList.drop n)) := by
      rw [show n = s.size from by omega, drop_all]; simp [Hid, escP]
    have hn' : n = s.size := by omega
    have HN : Hid (n = s.size) := hn'
    clear hn'
    go_enter Tryz.func168, Tryz.ntmps168
    go_wp2_with fail
    refine (take_end b s n _ _ (by exact hb) HN.out).mono ?_
    rintro e w1 ⟨rfl, q, rfl⟩
    go_wp2_with fail
    refine (take_end b s n _ _ (by exact hb) HN.out).mono ?_
    rintro e w1 ⟨rfl, q', rfl⟩
    go_wp2_with fail
    refine (take_end b s n _ _ (by exact hb) HN.out).mono ?_
    rintro e w1 ⟨rfl, q'', rfl⟩
    go_wp2
    go_ret2
    exact ⟨n, none, by omega, by omega, HE.out, ret_byte (by decide) rfl, hb, gb_drewN _ _ _⟩

set_option maxHeartbeats 400000 in
theorem valueByte_any (b : Nat) (s : ByteArray) (n : Nat) (w : World) (hb : w.heap[b]? = some (rdr s n)) (hn : n ≤ s.size) (hs : s.size ≤ 100) :
    Calls Tryz.prog 167 #[.pointer (some ⟨b, 0, none⟩)] w fun e w' => ∃ (m : Nat) (o : Option UInt8), n ≤ m ∧ (o.isSome = true → n < m) ∧ m ≤ s.size ∧ vbP (s.data.toList.drop n) = (o, s.data.toList.drop m) ∧
      e = .returned (.tuple #[.int .u8 ((o.getD 0).toNat : Int), .bool o.isSome]) ∧ w'.heap[b]? = some (rdr s m) ∧ w.grownBy w' (some b) := by
  by_cases hlt : n < s.size
  · have hd := drop_cons s n hlt
    by_cases h1 : s[n].toNat = 92
    · have HE : Hid (vbP (s.data.toList.drop n) = escP (s.data.toList.drop (n + 1))) := by rw [hd]; simp [Hid, vbP, h1]
      have X : ((s[n].toNat : Int) != 92) = false := by simp [h1]
      clear hd h1
      go_enter Tryz.func167, Tryz.ntmps167
      go_wp2_with fail
      refine (ended_f b s n _ (by exact hb) hlt).mono ?_
      rintro e w1 ⟨rfl, q, rfl⟩
      go_wp2_with fail
      refine (take_yes b s n _ _ (by exact hb) hlt hs X).mono ?_
      rintro e w1 ⟨rfl, q1, q2⟩
      go_wp2_with fail
      refine (escaped_any b s (n + 1) _ q1 (by omega) hs).mono ?_
      rintro e w2 ⟨m, o, a1, a2, a3, rfl, a4, a5⟩
      have HA : Hid (escP (s.data.toList.drop (n + 1)) = (o, s.data.toList.drop m)) := a3
      clear a3
      go_wp2
      go_ret2
      exact ⟨m, o, by omega, fun _ => by omega, a2, HE.out.trans HA.out, rfl, a4, gb_trans (gb_trans (gb_drewN _ _ _) q2) a5⟩
    · have HE : Hid (vbP (s.data.toList.drop n) = (some s[n], s.data.toList.drop (n + 1))) := by rw [hd]; simp [Hid, vbP, h1]
      have X : ((s[n].toNat : Int) != 92) = true := by simp; omega
      have c0 := cell0 hb
      have c1 := cell1 hb
      have f1 := froz1 hb
      have hlt' : (n : Int) < (s.size : Int) := by omega
      clear hd h1
      go_enter Tryz.func167, Tryz.ntmps167
      go_wp2_with fail
      refine (ended_f b s n _ (by exact hb) hlt).mono ?_
      rintro e w1 ⟨rfl, q, rfl⟩
      go_wp2_with fail
      refine (take_no b s n _ _ (by exact hb) hlt X).mono ?_
      rintro e w1 ⟨rfl, q', rfl⟩
      go_wp2
      go_quiet (fail)
      go_wp2
      go_ret2
      refine ⟨n + 1, some s[n], by omega, fun _ => by omega, by omega, HE.out, ret_byte (by simp) rfl, ?_, ?_⟩
      · exact rdr_set (w := w.drewN _) hb (n + 1) _ (by omega)
      · exact gb_s (gb_drewN _ _ _)
  · have hn' : n = s.size := by omega
    have HN : Hid (n = s.size) := hn'
    have HE : Hid (vbP (s.data.toList.drop n) = (none, s.data.toList.drop n)) := by
      rw [hn', drop_all]; simp [Hid, vbP]
    clear hn'
    go_enter Tryz.func167, Tryz.ntmps167
    go_wp2_with fail
    refine (ended_t b s n _ (by exact hb) HN.out).mono ?_
    rintro e w1 ⟨rfl, q, rfl⟩
    go_wp2
    go_ret2
    exact ⟨n, none, by omega, fun h => by simp at h, by omega, HE.out, ret_byte (by decide) rfl, hb, gb_drewN _ _ _⟩

end Go.Proofs.YtcfdemhokbddiaaGreatDoor

/-
  The reader's value whole: a loop that gathers bytes in a list of its own.
-/
namespace Go.Proofs.YtcfdemhokbddiaaGreatDoor
open Go.RowKit

theorem Tryz.info5 : (Tryz.prog.info? 5).map (fun i => (i.zero, i.size, i.bytes)) = some (some (.int .u8 0), 1, 1) := by kernel_rfl

theorem take_not (b : Nat) (s : ByteArray) (n : Nat) (c : Int) (w : World) (hb : w.heap[b]? = some (rdr s n)) (hn : n ≤ s.size) (hc : ∀ h : n < s.size, ((s[n]'h).toNat : Int) ≠ c) :
    Calls Tryz.prog 144 #[.pointer (some ⟨b, 0, none⟩), .int .u8 c] w fun e w' => e = .returned (.bool false) ∧ ∃ q, w' = w.drewN q := by
  by_cases h : n < s.size
  · exact take_no b s n c w hb h (by simpa using hc h)
  · exact take_end b s n c w hb (by omega)

theorem gb_row {a w w' : World} {b : Nat} {row : Option Nat} (h : a.grownBy w (some b)) (k : w.grownBy w' row) (hr : ∀ j, row = some j → a.heap.size ≤ j) : a.grownBy w' (some b) :=
  ⟨k.os.trans h.os, k.tape.trans h.tape, k.output.trans h.output, Nat.le_trans h.size k.size, fun i hi hne =>
    (k.block i (Nat.lt_of_lt_of_le hi h.size) (fun e => by have := hr i e.symm; omega)).trans (h.block i hi hne)⟩
theorem gb_alloc {a w : World} {r : Option Nat} (h : a.grownBy w r) (o : Obj) : a.grownBy (w.alloc o) r :=
  gb_trans h ⟨rfl, rfl, rfl, by simp, fun k hk _ => Below.heap_alloc _ _ _ hk⟩
theorem lt_of {w : World} {b : Nat} {o : Obj} (h : w.heap[b]? = some o) : b < w.heap.size := by
  rcases Nat.lt_or_ge b w.heap.size with h1 | h1
  · exact h1
  · rw [Array.getElem?_eq_none h1] at h; simp at h

/-- Bytes as cells. -/
def bcells (l : List UInt8) : List Value := l.map fun c => .int .u8 (c.toNat : Int)
theorem bcells_len (l : List UInt8) : (bcells l).length = l.length := by simp [bcells]

def prep (vs : List UInt8) (p : Option (List UInt8) × List UInt8) : Option (List UInt8) × List UInt8 := (p.1.map (vs ++ ·), p.2)
theorem prep_nil (p : Option (List UInt8) × List UInt8) : prep [] p = p := by
  obtain ⟨a, l⟩ := p; cases a <;> simp [prep]
theorem valP_quote (r : Nat) (c : UInt8) (l : List UInt8) (h : c.toNat = 34) : valP r (c :: l) = (some [], l) := by
  cases r <;> simp [valP, h]
theorem valP_full (l : List UInt8) (h : ∀ c ∈ l.head?, c.toNat ≠ 34) : valP 0 l = (none, l) := by
  cases l with
  | nil => simp [valP]
  | cons c l => simp at h; simp [valP, h]
theorem valP_none (r : Nat) (l l' : List UInt8) (h : ∀ c ∈ l.head?, c.toNat ≠ 34) (hv : vbP l = (none, l')) : valP (r + 1) l = (none, l') := by
  cases l with
  | nil => simp [vbP] at hv; simp [valP, hv]
  | cons c l => simp at h; simp [valP, h, hv]
theorem valP_some (r : Nat) (l l' : List UInt8) (x : UInt8) (h : ∀ c ∈ l.head?, c.toNat ≠ 34) (hv : vbP l = (some x, l')) : valP (r + 1) l = prep [x] (valP r l') := by
  cases l with
  | nil => simp [vbP] at hv
  | cons c l =>
    simp at h; simp only [valP, h, hv, if_false]
    rcases hq : valP r l' with ⟨o, l''⟩
    cases o <;> simp [prep]
theorem prep_prep (a b : List UInt8) (p : Option (List UInt8) × List UInt8) : prep a (prep b p) = prep (a ++ b) p := by
  obtain ⟨o, l⟩ := p; cases o <;> simp [prep]
theorem head_drop (s : ByteArray) (m : Nat) (p : Nat) (h : ∀ h : m < s.size, (s[m]'h).toNat ≠ p) : ∀ c ∈ (s.data.toList.drop m).head?, c.toNat ≠ p := by
  by_cases hm : m < s.size
  · rw [drop_cons s m hm]; simpa using h hm
  · rw [List.drop_of_length_le (by show s.size ≤ m; omega)]; simp

def z16 : Array Value := Array.replicate 16 (.int .u8 0)
theorem make16 (w : World) : (Instr.makeSlice 133 (.int .i64 0) (.int .i64 16)).run Tryz.prog w = .ok (.slice (some ⟨w.heap.size, 0, none⟩) 0 16) (w.alloc (.cells z16 5)) := by kernel_rfl

set_option maxHeartbeats 800000 in
theorem value_any (b : Nat) (s : ByteArray) (n : Nat) (w : World) (hb : w.heap[b]? = some (rdr s n)) (hn : n ≤ s.size) (hs : s.size ≤ 100) :
    Calls Tryz.prog 164 #[.pointer (some ⟨b, 0, none⟩)] w fun e w' => ∃ (m : Nat) (o : Option (List UInt8)), n ≤ m ∧ m ≤ s.size ∧ valP 16 (s.data.toList.drop n) = (o, s.data.toList.drop m) ∧
      e = .returned (.tuple #[.string ⟨(o.getD []).toArray⟩, .bool o.isSome]) ∧ w'.heap[b]? = some (rdr s m) ∧ w.grownBy w' (some b) := by
  have hmk := make16
  have hbl := lt_of hb
  obtain ⟨i0, hi, hz0, hz1, hz2⟩ := info_parts Tryz.info5
  have HI : Hid (Tryz.prog.info? 5 = some i0 ∧ i0.zero = some (.int .u8 0) ∧ i0.size = 1 ∧ i0.bytes = 1) := ⟨hi, hz0, hz1, hz2⟩
  clear hi hz0 hz1 hz2
  go_enter Tryz.func164, Tryz.ntmps164
  go_wp2
  go_loopw [4] (fun v wr => ∃ (m : Nat) (vs : List UInt8) (g cap : Nat), v = .slice (some ⟨g, 0, none⟩) vs.length cap ∧ wr.heap[b]? = some (rdr s m) ∧ wr.ownsRow w.heap.size 5 1 v vs.length (bcells vs) ∧ w.grownBy wr (some b) ∧
      n ≤ m ∧ m ≤ s.size ∧ vs.length ≤ 16 ∧ valP 16 (s.data.toList.drop n) = prep vs (valP (16 - vs.length) (s.data.toList.drop m)))
    (fun _ wr => 100 - posOf b wr)
  case atStart =>
    refine ⟨n, [], w.heap.size, 16, rfl, ?_, ?_, gb_alloc (gb_refl _ _) _, Nat.le_refl _, hn, by simp, by simp [prep_nil]⟩
    · rw [Below.heap_alloc _ _ _ hbl]; exact hb
    · exact World.ownsRow_made w z16 16 (Nat.le_refl _) (by decide) (by decide)
  case round =>
    obtain ⟨m, vs, g, cap, rfl, hm, hown, hg, h1, h2, h3, h4⟩ := hrel
    have H4 : Hid (valP 16 (s.data.toList.drop n) = prep vs (valP (16 - vs.length) (s.data.toList.drop m))) := h4
    clear h4 hmk
    by_cases hq : ∃ h : m < s.size, (s[m]'h).toNat = 34
    · obtain ⟨hlt, hq⟩ := hq
      have X : ((s[m].toNat : Int) != 34) = false := by simp [hq]
      have HE : Hid (valP (16 - vs.length) (s.data.toList.drop m) = (some [], s.data.toList.drop (m + 1))) := by
        rw [drop_cons s m hlt]; exact valP_quote _ _ _ hq
      clear hq
      go_wp2_with fail
      refine (take_yes b s m _ _ hm hlt hs X).mono ?_
      rintro e w1 ⟨rfl, q1, q2⟩
      have hown1 : w1.ownsRow w.heap.size 5 1 (.slice (some ⟨g, 0, none⟩) vs.length cap) vs.length (bcells vs) := hown.kept q2 (Or.inr (by
        have := hown.lt g rfl; intro e; simp [Value.ownBlock] at e; omega))
      have hcv : (convert 133 9 (.slice (some ⟨g, 0, none⟩) vs.length cap)).run Tryz.prog w1 = .ok (.string ⟨vs.toArray⟩) w1 :=
        run_convert_bytes_back w1 133 9 5 ⟨g, 0, none⟩ cap vs Tryz.underlying133 Tryz.underlying5 Tryz.underlying9 (fun j hj => by
          have := hown1.cells (g := g) rfl j (.int .u8 (vs[j].toNat : Int)) (by simp [bcells, hj])
          exact this)
      clear hown hown1
      go_wp2
      go_ret2
      refine ⟨m + 1, some vs, by omega, by omega, ?_, rfl, q1, gb_trans hg q2⟩
      rw [H4.out, HE.out]; simp [prep]
    · have hq' : ∀ h : m < s.size, ((s[m]'h).toNat : Int) ≠ 34 := fun h e => hq ⟨h, by omega⟩
      have hh := head_drop s m 34 (fun h e => hq ⟨h, e⟩)
      have HQ : Hid (∀ h : m < s.size, ((s[m]'h).toNat : Int) ≠ 34) := hq'
      have HH : Hid (∀ c ∈ (s.data.toList.drop m).head?, c.toNat ≠ 34) := hh
      clear hq hq' hh
      by_cases h16 : vs.length = 16
      · have X : ((vs.length : Int) == 16) = true := by simp [h16]
        have HL : Hid (vs.length = 16) := h16
        clear h16
        go_wp2_with fail
        refine (take_not b s m _ _ hm h2 HQ.out).mono ?_
        rintro e w1 ⟨rfl, q, rfl⟩
        go_wp2
        go_ret2
        refine ⟨m, none, h1, h2, ?_, rfl, hm, gb_d hg⟩
        rw [H4.out, HL.out, valP_full _ HH.out]; rfl
      · have X : ((vs.length : Int) == 16) = false := by simp; omega
        go_wp2_with fail
        refine (take_not b s m _ _ hm h2 HQ.out).mono ?_
        rintro e w1 ⟨rfl, q, rfl⟩
        go_wp2_with fail
        refine (valueByte_any b s m _ (by exact hm) h2 hs).mono ?_
        rintro e w1 ⟨m', o, a0, a1, a2, a3, rfl, a4, a5⟩
        have HA : Hid (vbP (s.data.toList.drop m) = (o, s.data.toList.drop m')) := a3
        have HK : Hid (16 - vs.length = (15 - vs.length) + 1) := by show _ = _; omega
        clear a3
        cases o with
        | none =>
          go_wp2
          go_ret2
          refine ⟨m', none, by omega, a2, ?_, rfl, a4, gb_trans (gb_d hg) a5⟩
          rw [H4.out, HK.out, valP_none _ _ _ HH.out HA.out]; rfl
        | some x =>
          simp only [Option.getD_some, Option.isSome_some] at a1 ⊢
          have a1' := a1 trivial
          have hown1 : w1.ownsRow w.heap.size 5 1 (.slice (some ⟨g, 0, none⟩) vs.length cap) vs.length (bcells vs) := World.ownsRow.kept (w := wr.drewN q) hown a5 (Or.inr (by
            have := hown.lt g rfl; intro e; simp [Value.ownBlock] at e; omega))
          have hsz : w.heap.size ≤ w1.heap.size := Nat.le_trans hg.size a5.size
          clear a1 hown
          go_wp2_with (at_builtin; refine wpList_append_own _ rfl _ _ 133 rfl w.heap.size 5 i0 (.int .u8 0) 1 1 Tryz.underlying133 HI.out.1 HI.out.2.1 HI.out.2.2.1 HI.out.2.2.2 rfl (by decide) _ _ _ rfl (hown1.alloc _) ⟨w1.heap.size, 0, none⟩ 1 1 [.int .u8 (x.toNat : Int)] rfl rfl (cell_one_new _ _ _) ?c2 ?c3 ?c4 ?c5 ?_)
          case c2 => intro u hu; simp at hu; subst hu; rfl
          case c3 => unfold maxLen; omega
          case c4 => omega
          case c5 => simp; omega
          intro v' w2 hown2 hgr _
          have hgr' : w1.grownBy w2 (some g) := ⟨hgr.os, hgr.tape, hgr.output, by have := hgr.size; simp at this; omega, fun k hk hne => by
            rw [hgr.block k (by simp; omega) hne, Below.heap_alloc _ _ _ hk]⟩
          have hgw := (hown1.lt g rfl).1
          clear hgr
          go_wp2
          go_roundw
          case rel =>
            have hlen : (vs ++ [x]).length = vs.length + 1 := by simp
            have hcs : bcells (vs ++ [x]) = bcells vs ++ [.int .u8 (x.toNat : Int)] := by simp [bcells]
            rcases hown2.2 with ⟨_, h0⟩ | ⟨g', cap', cur', hv', _⟩
            · omega
            · refine ⟨m', vs ++ [x], g', cap', by rw [hlen]; exact hv', ?_, by rw [hlen, hcs]; exact hown2, gb_row (gb_trans (gb_d hg) a5) hgr' (fun j hj => by simp at hj; omega), by omega, a2, by omega, ?_⟩
              · rw [hgr'.block b (by have := hg.size; have := a5.size; simp at this; omega) (by intro e; simp at e; omega)]; exact a4
              · rw [H4.out, HK.out, valP_some _ _ _ _ HH.out HA.out, prep_prep, hlen, show 16 - (vs.length + 1) = 15 - vs.length from by omega]
          case measure =>
            rw [posOf_rdr hm]
            have : w2.heap[b]? = some (rdr s m') := by
              rw [hgr'.block b (by have := hg.size; have := a5.size; simp at this; omega) (by intro e; simp at e; omega)]; exact a4
            rw [posOf_rdr this]; omega

end Go.Proofs.YtcfdemhokbddiaaGreatDoor
