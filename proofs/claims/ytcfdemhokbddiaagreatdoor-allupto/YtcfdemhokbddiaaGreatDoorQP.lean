/-
  The document's own reader: in, goes, named.
-/
import Derived.Test.YtcfdemhokbddiaaGreatDoorQM
import Derived.Test.YtcfdemhokbddiaaGreatDoorQMa

namespace Go.Proofs.YtcfdemhokbddiaaGreatDoor
open Go.RowKit

theorem ret_b {a b : Bool} (h : a = b) : Ending.returned (.bool a) = .returned (.bool b) := by rw [h]

def anyIs (l : List UInt8) (c : Int) : Bool := l.any fun x => (x.toNat : Int) == c

set_option maxHeartbeats 400000 in
theorem in_any (s : ByteArray) (c : Int) (w : World) (hs : s.size ≤ 100) :
    Calls Tryz.prog 150 #[.string s, .int .u8 c] w fun e w' => e = .returned (.bool (anyIs s.data.toList c)) ∧ w' = w := by
  go_enter Tryz.func150, Tryz.ntmps150
  go_wp2
  go_loop [5] (fun i => ∃ k : Nat, k ≤ s.size ∧ i = .int .i64 (k : Int) ∧ Hid (∀ j (h : j < s.size), j < k → ((s[j]'h).toNat : Int) ≠ c)) (fun i => s.size - (intOf i).toNat)
  case atStart => exact ⟨0, Nat.zero_le _, rfl, fun j h hj => by omega⟩
  case round =>
    obtain ⟨k, hk, rfl, HA⟩ := hrel
    by_cases hlt : k < s.size
    · by_cases hc : ((s[k].toNat : Int) == c) = true
      · have HE : Hid (anyIs s.data.toList c = true) := by
          show _ = _
          unfold anyIs; rw [List.any_eq_true]
          exact ⟨s[k], by exact List.getElem_mem (l := s.data.toList) (by exact hlt), hc⟩
        go_wp2
        go_ret
        exact ⟨ret_b HE.out.symm, rfl⟩
      · have hc' : ((s[k].toNat : Int) == c) = false := by simpa using hc
        clear hc
        have HC : Hid (((s[k].toNat : Int) == c) = false) := hc'
        go_wp2
        go_round
        case rel =>
          refine ⟨k + 1, by omega, by go_num, fun j h hj => ?_⟩
          by_cases hjk : j = k
          · subst hjk; have := HC.out; simpa using this
          · exact HA.out j h (by omega)
        case measure => simp [intOf]; omega
    · have HE : Hid (anyIs s.data.toList c = false) := by
        show _ = _
        unfold anyIs; rw [List.any_eq_false]
        intro x hx
        obtain ⟨j, hj, rfl⟩ := List.getElem_of_mem hx
        have := HA.out j hj (by have : s.data.toList.length = s.size := rfl; omega)
        rw [beq_iff_eq]; exact this
      go_wp2
      go_ret
      exact ⟨ret_b HE.out.symm, rfl⟩

def letters : ByteArray := ⟨#[97, 98, 99, 100, 101, 102, 103, 104, 105, 106, 107, 108, 109, 110, 111, 112, 113, 114, 115, 116, 117, 118, 119, 120, 121, 122, 95]⟩
def alphaB (c : Int) : Bool := decide ((97 ≤ c ∧ c ≤ 122) ∨ c = 95)
theorem letters_any (c : Int) : anyIs letters.data.toList c = alphaB c := by
  rw [Bool.eq_iff_iff]
  simp [anyIs, letters, alphaB]
  omega
theorem in_letters (c : Int) (w : World) : Calls Tryz.prog 150 #[.string letters, .int .u8 c] w fun e w' => e = .returned (.bool (alphaB c)) ∧ w' = w :=
  (in_any letters c w (by decide)).mono fun e w' ⟨h1, h2⟩ => ⟨by rw [h1, letters_any], h2⟩

def goesB (long : Nat) (c : Int) : Bool := decide (long < 12 ∧ nameB c (long == 0) = true)

set_option maxHeartbeats 400000 in
theorem goes_any (long : Nat) (c : Int) (w : World) (hl : long ≤ 100) :
    Calls Tryz.prog 118 #[.int .i64 (long : Int), .int .u8 c] w fun e w' => e = .returned (.bool (goesB long c)) ∧ w' = w := by
  have key : ∀ r : Bool, (r = true ↔ (long < 12 ∧ (((97 ≤ c ∧ c ≤ 122) ∨ c = 95) ∨ (0 < long ∧ 48 ≤ c ∧ c ≤ 57)))) → r = goesB long c := by
    intro r h; rw [Bool.eq_iff_iff, h]; simp [goesB, nameB]; omega
  have KH : Hid (∀ r : Bool, _) := key
  clear key
  cases ha : alphaB c with
  | true =>
    have hA : (97 ≤ c ∧ c ≤ 122) ∨ c = 95 := by simpa [alphaB] using ha
    have HA : Hid ((97 ≤ c ∧ c ≤ 122) ∨ c = 95) := hA
    have HI : Hid (Calls Tryz.prog 150 #[.string letters, .int .u8 c] w fun e w' => e = .returned (.bool true) ∧ w' = w) := by
      have := in_letters c w; rw [ha] at this; exact this
    clear hA ha
    by_cases h12 : long < 12 <;> by_cases h48 : 48 ≤ c <;> by_cases h57 : c ≤ 57 <;> by_cases h0 : 0 < long <;> try (exfalso; omega)
    all_goals
      go_enter Tryz.func118, Tryz.ntmps118
      go_wp2_with (go_at_call 150; refine HI.out.mono ?_; rintro e w' ⟨rfl, rfl⟩)
      go_ret
      refine ⟨ret_b (KH.out _ ?_), rfl⟩
      have := HA.out
      simp
      try omega
  | false =>
    have hA : ¬ ((97 ≤ c ∧ c ≤ 122) ∨ c = 95) := by simpa [alphaB] using ha
    have HA : Hid (¬ ((97 ≤ c ∧ c ≤ 122) ∨ c = 95)) := hA
    have HI : Hid (Calls Tryz.prog 150 #[.string letters, .int .u8 c] w fun e w' => e = .returned (.bool false) ∧ w' = w) := by
      have := in_letters c w; rw [ha] at this; exact this
    clear hA ha
    by_cases h12 : long < 12 <;> by_cases h48 : 48 ≤ c <;> by_cases h57 : c ≤ 57 <;> by_cases h0 : 0 < long <;> try (exfalso; omega)
    all_goals
      go_enter Tryz.func118, Tryz.ntmps118
      go_wp2_with (go_at_call 150; refine HI.out.mono ?_; rintro e w' ⟨rfl, rfl⟩)
      go_ret
      refine ⟨ret_b (KH.out _ ?_), rfl⟩
      have := HA.out
      simp
      try omega

/-- The document's reader: what may come next, how much was read, the name, the labels with their values as written. -/
structure St where
  next : Nat
  long : Nat
  name : List UInt8
  labs : List Lab

/-- The reader's block and the row of its labels. -/
def TextAt (b : Nat) (st : St) (w : World) : Prop :=
  ∃ a c, w.heap[b]? = some (.cells #[.int .i64 (st.next : Int), .int .i64 (st.long : Int), .string (B st.name), .slice a st.labs.length c] 199) ∧
    w.ownsRow (b + 1) 202 3 (.slice a st.labs.length c) st.labs.length (labCells st.labs)


set_option maxHeartbeats 400000 in
theorem named_yes (b : Nat) (st : St) (x3 : Value) (c sign : Int) (w : World) (hb : w.heap[b]? = some (.cells #[.int .i64 (st.next : Int), .int .i64 (st.long : Int), .string (B st.name), x3] 199)) (hl : st.long ≤ 100) (hg : goesB st.long c = true) :
    Calls Tryz.prog 149 #[.pointer (some ⟨b, 0, none⟩), .int .u8 c, .int .u8 sign] w fun e w' => e = .returned (.int .i64 1) ∧ w' = w.setCell ⟨b, 1, none⟩ (.int .i64 ((st.long + 1 : Nat) : Int)) := by
  have c1 : w.cell? ⟨b, 1, none⟩ = some (.int .i64 (st.long : Int)) := by simp [World.cell?, hb]
  have f1 : w.frozen? ⟨b, 1, none⟩ = false := by simp [World.frozen?, hb]
  have HG : Hid (Calls Tryz.prog 118 #[.int .i64 (st.long : Int), .int .u8 c] w fun e w' => e = .returned (.bool true) ∧ w' = w) := by
    have := goes_any st.long c w hl; rw [hg] at this; exact this
  clear hb hg
  go_enter Tryz.func149, Tryz.ntmps149
  go_wp2_with (go_at_call 118; refine HG.out.mono ?_; rintro e w' ⟨rfl, rfl⟩)
  go_ret
  exact ⟨rfl, by congr 2⟩

set_option maxHeartbeats 400000 in
theorem named_sign (b : Nat) (st : St) (x3 : Value) (c sign : Int) (w : World) (hb : w.heap[b]? = some (.cells #[.int .i64 (st.next : Int), .int .i64 (st.long : Int), .string (B st.name), x3] 199)) (hl : st.long ≤ 100) (hg : goesB st.long c = false) (h0 : 0 < st.long) (hc : (c == sign) = true) :
    Calls Tryz.prog 149 #[.pointer (some ⟨b, 0, none⟩), .int .u8 c, .int .u8 sign] w fun e w' => e = .returned (.int .i64 2) ∧ w' = w.setCell ⟨b, 1, none⟩ (.int .i64 0) := by
  have c1 : w.cell? ⟨b, 1, none⟩ = some (.int .i64 (st.long : Int)) := by simp [World.cell?, hb]
  have f1 : w.frozen? ⟨b, 1, none⟩ = false := by simp [World.frozen?, hb]
  have HG : Hid (Calls Tryz.prog 118 #[.int .i64 (st.long : Int), .int .u8 c] w fun e w' => e = .returned (.bool false) ∧ w' = w) := by
    have := goes_any st.long c w hl; rw [hg] at this; exact this
  have h0' : (0 : Int) < (st.long : Int) := by omega
  clear hb hg
  go_enter Tryz.func149, Tryz.ntmps149
  go_wp2_with (go_at_call 118; refine HG.out.mono ?_; rintro e w' ⟨rfl, rfl⟩)
  go_ret
  exact ⟨rfl, rfl⟩

set_option maxHeartbeats 400000 in
theorem named_no (b : Nat) (st : St) (x3 : Value) (c sign : Int) (w : World) (hb : w.heap[b]? = some (.cells #[.int .i64 (st.next : Int), .int .i64 (st.long : Int), .string (B st.name), x3] 199)) (hl : st.long ≤ 100) (hg : goesB st.long c = false) (h0 : st.long = 0 ∨ (c == sign) = false) :
    Calls Tryz.prog 149 #[.pointer (some ⟨b, 0, none⟩), .int .u8 c, .int .u8 sign] w fun e w' => e = .returned (.int .i64 0) ∧ w' = w := by
  have c1 : w.cell? ⟨b, 1, none⟩ = some (.int .i64 (st.long : Int)) := by simp [World.cell?, hb]
  have HG : Hid (Calls Tryz.prog 118 #[.int .i64 (st.long : Int), .int .u8 c] w fun e w' => e = .returned (.bool false) ∧ w' = w) := by
    have := goes_any st.long c w hl; rw [hg] at this; exact this
  clear hb hg
  by_cases h1 : 0 < st.long
  · have h1' : (0 : Int) < (st.long : Int) := by omega
    have hc : (c == sign) = false := by rcases h0 with h | h
                                        · omega
                                        · exact h
    clear h0
    go_enter Tryz.func149, Tryz.ntmps149
    go_wp2_with (go_at_call 118; refine HG.out.mono ?_; rintro e w' ⟨rfl, rfl⟩)
    go_ret
    exact ⟨rfl, rfl⟩
  · have h1' : ¬ (0 : Int) < (st.long : Int) := by omega
    clear h0
    go_enter Tryz.func149, Tryz.ntmps149
    go_wp2_with (go_at_call 118; refine HG.out.mono ?_; rintro e w' ⟨rfl, rfl⟩)
    go_ret
    exact ⟨rfl, rfl⟩

end Go.Proofs.YtcfdemhokbddiaaGreatDoor

/-
  The document's own reader: one byte more.
-/
namespace Go.Proofs.YtcfdemhokbddiaaGreatDoor
open Go.RowKit

def modLast (f : Lab → Lab) : List Lab → List Lab
  | [] => []
  | [x] => [f x]
  | x :: y :: ls => x :: modLast f (y :: ls)
theorem modLast_snoc (f : Lab → Lab) (a : List Lab) (x : Lab) : modLast f (a ++ [x]) = a ++ [f x] := by
  induction a with
  | nil => rfl
  | cons y a ih =>
    cases a with
    | nil => rfl
    | cons z a => simp [modLast] at ih ⊢; exact ih

def stepR (st : St) (c : UInt8) (at_ : Nat) : Option St :=
  match st.next with
  | 0 => if goesB st.long (c.toNat : Int) = true then some { st with long := st.long + 1, name := st.name ++ [c] }
      else if 0 < st.long ∧ c.toNat = 123 then some { st with next := 1, long := 0, labs := st.labs ++ [⟨[], [], at_ + 1⟩] } else none
  | 1 => if goesB st.long (c.toNat : Int) = true then some { st with long := st.long + 1, labs := modLast (fun x => { x with name := x.name ++ [c] }) st.labs }
      else if 0 < st.long ∧ c.toNat = 61 then some { st with next := 2, long := 0 } else none
  | 2 => if c.toNat = 34 then some { st with next := 3 } else none
  | 3 => if c.toNat = 34 then some { st with next := 5, long := 0 }
      else if st.long + 1 ≤ 16 then some { st with next := if c.toNat = 92 then 4 else 3, long := st.long + 1, labs := modLast (fun x => { x with val := x.val ++ [c] }) st.labs } else none
  | 4 => if c.toNat = 34 ∨ c.toNat = 92 ∨ c.toNat = 110 then some { st with next := 3, labs := modLast (fun x => { x with val := x.val ++ [c] }) st.labs } else none
  | 5 => if c.toNat = 44 ∧ st.labs.length ≤ 2 then some { st with next := 1, labs := st.labs ++ [⟨[], [], at_ + 1⟩] }
      else if c.toNat = 125 then some { st with next := 6 } else none
  | _ => none

theorem one_bytes (c : UInt8) (w : World) (g : Nat) (cap : Nat) (h : w.cell? ⟨g, 0, none⟩ = some (.int .u8 (c.toNat : Int))) :
    (convert 133 9 (.slice (some ⟨g, 0, none⟩) 1 cap)).run Tryz.prog w = .ok (.string ⟨#[c]⟩) w :=
  run_convert_bytes_back w 133 9 5 ⟨g, 0, none⟩ cap [c] Tryz.underlying133 Tryz.underlying5 Tryz.underlying9 (fun j hj => by
    have : j = 0 := by simp at hj; omega
    subst this
    simpa [Addr.add] using h)

theorem alloc_keep {w : World} {b : Nat} {o : Obj} (h : w.heap[b]? = some o) (x : Obj) : (w.alloc x).heap[b]? = some o := by
  rw [Below.heap_alloc _ _ _ (lt_of h)]; exact h

theorem add_one (l : List UInt8) (c : UInt8) (h : l.length ≤ 1000) (w : World) : (Op.stringOp .add (B l) ⟨#[c]⟩).run Tryz.prog w = .ok (.string (B (l ++ [c]))) w := by
  have := run_string_add_lists (P := Tryz.prog) w l [c] (by omega) (by simp)
  exact this

set_option maxRecDepth 100000 in
set_option maxHeartbeats 1000000 in
theorem take0_yes (b : Nat) (st : St) (c : UInt8) (at_ : Nat) (w : World) (h : TextAt b st w) (hn : st.next = 0) (hl : st.long ≤ 100) (hg : goesB st.long (c.toNat : Int) = true) (hlen : st.name.length ≤ 1000) :
    Calls Tryz.prog 116 #[.pointer (some ⟨b, 0, none⟩), .int .u8 (c.toNat : Int), .int .i64 (at_ : Int)] w fun e w' => e = .returned (.bool true) ∧
      TextAt b { st with long := st.long + 1, name := st.name ++ [c] } w' ∧ Below b w w' := by
  obtain ⟨a, cp, hb, own⟩ := h
  rw [hn] at hb
  have c0 : w.cell? ⟨b, 0, none⟩ = some (.int .i64 0) := by simp [World.cell?, hb]
  have c3 : w.cell? ⟨b, 3, none⟩ = some (.slice a st.labs.length cp) := by simp [World.cell?, hb]
  have hy := named_yes b st _ (c.toNat : Int) 123 w (by rw [hn]; exact hb) hl hg
  have HY : Hid (Calls Tryz.prog 149 #[.pointer (some ⟨b, 0, none⟩), .int .u8 (c.toNat : Int), .int .u8 123] w _) := hy
  have HN : Hid (st.next = 0) := hn
  clear hy hg hn
  go_enter Tryz.func116, Tryz.ntmps116
  go_wp2_with fail
  refine HY.out.mono ?_
  rintro e w1 ⟨rfl, hw1⟩
  have hb1 : w1.heap[b]? = some (.cells #[.int .i64 0, .int .i64 ((st.long + 1 : Nat) : Int), .string (B st.name), .slice a st.labs.length cp] 199) := by rw [hw1, text_set hb]; rfl
  have own1 : w1.ownsRow (b + 1) 202 3 (.slice a st.labs.length cp) st.labs.length (labCells st.labs) := by rw [hw1]; exact own_set own (by omega)
  have B1 : Below b w w1 := by rw [hw1]; exact (Below.refl b w).setCell (p := ⟨b, 1, none⟩) (Nat.le_refl _) _
  clear hw1 c0 c3 hb own HY
  have d2 : w1.cell? ⟨b, 2, none⟩ = some (.string (B st.name)) := by simp [World.cell?, hb1]
  have f2 : w1.frozen? ⟨b, 2, none⟩ = false := by simp [World.frozen?, hb1]
  have hbl : b < w1.heap.size := lt_of hb1
  have ga := gb_alloc (gb_refl w1 none) (.cells #[.int .u8 (c.toNat : Int)] 5)
  have d2' := gb_cell ga d2 (by simp)
  have f2' := gb_froz ga hbl f2 (by simp)
  have hcv : (convert 133 9 (.slice (some ⟨w1.heap.size, 0, none⟩) 1 1)).run Tryz.prog (w1.alloc (.cells #[.int .u8 (c.toNat : Int)] 5)).drew = .ok (.string ⟨#[c]⟩) (w1.alloc (.cells #[.int .u8 (c.toNat : Int)] 5)).drew := one_bytes c _ _ _ (by simp)
  have hadd := add_one st.name c hlen
  clear ga
  go_wp2
  go_region
  all_goals go_wp2
  all_goals
    go_ret
    refine ⟨rfl, ⟨a, cp, ?_, ?_⟩, ?_⟩
    · rw [HN.out]; exact alloc_keep (text_set hb1 _) _
    · exact (own_set (R := b) own1 (by omega)).alloc _
    · exact ((B1.setCell (p := ⟨b, 2, none⟩) (Nat.le_refl _) _).alloc (by simp [World.setCell]; omega) _).drew

theorem Tryz.info62 : (Tryz.prog.info? 202).map (fun i => (i.zero, i.size, i.bytes)) = some (some (.agg #[.string ⟨#[]⟩, .string ⟨#[]⟩, .int .i64 0]), 3, 40) := by kernel_rfl

set_option maxRecDepth 100000 in
set_option maxHeartbeats 1000000 in
theorem take0_sign (b : Nat) (st : St) (c : UInt8) (at_ : Nat) (w : World) (h : TextAt b st w) (hn : st.next = 0) (hl : st.long ≤ 100) (hg : goesB st.long (c.toNat : Int) = false) (h0 : 0 < st.long) (hc : c.toNat = 123) (hat : at_ ≤ 1000) (hls : st.labs.length ≤ 100) :
    Calls Tryz.prog 116 #[.pointer (some ⟨b, 0, none⟩), .int .u8 (c.toNat : Int), .int .i64 (at_ : Int)] w fun e w' => e = .returned (.bool true) ∧
      TextAt b { st with next := 1, long := 0, labs := st.labs ++ [⟨[], [], at_ + 1⟩] } w' ∧ Below b w w' := by
  obtain ⟨a, cp, hb, own⟩ := h
  rw [hn] at hb
  have hbl0 : b < w.heap.size := lt_of hb
  have c0 : w.cell? ⟨b, 0, none⟩ = some (.int .i64 0) := by simp [World.cell?, hb]
  have c3 : w.cell? ⟨b, 3, none⟩ = some (.slice a st.labs.length cp) := by simp [World.cell?, hb]
  have hy := named_sign b st _ (c.toNat : Int) 123 w (by rw [hn]; exact hb) hl hg h0 (by simp; omega)
  have HY : Hid (Calls Tryz.prog 149 #[.pointer (some ⟨b, 0, none⟩), .int .u8 (c.toNat : Int), .int .u8 123] w _) := hy
  obtain ⟨i0, hi, hz0, hz1, hz2⟩ := info_parts Tryz.info62
  have HI : Hid (Tryz.prog.info? 202 = some i0 ∧ i0.zero = some (.agg #[.string ⟨#[]⟩, .string ⟨#[]⟩, .int .i64 0]) ∧ i0.size = 3 ∧ i0.bytes = 40) := ⟨hi, hz0, hz1, hz2⟩
  clear hy hg hn hc hi hz0 hz1 hz2
  go_enter Tryz.func116, Tryz.ntmps116
  go_wp2_with fail
  refine HY.out.mono ?_
  rintro e w1 ⟨rfl, hw1⟩
  have hb1 : w1.heap[b]? = some (.cells #[.int .i64 0, .int .i64 0, .string (B st.name), .slice a st.labs.length cp] 199) := by rw [hw1, text_set hb]; rfl
  have own1 : w1.ownsRow (b + 1) 202 3 (.slice a st.labs.length cp) st.labs.length (labCells st.labs) := by rw [hw1]; exact own_set own (by omega)
  have B1 : Below b w w1 := by rw [hw1]; exact (Below.refl b w).setCell (p := ⟨b, 1, none⟩) (Nat.le_refl _) _
  clear hw1 c0 c3 hb own HY
  have hbl : b < w1.heap.size := lt_of hb1
  have d0 : w1.cell? ⟨b, 0, none⟩ = some (.int .i64 0) := by simp [World.cell?, hb1]
  have f0 : w1.frozen? ⟨b, 0, none⟩ = false := by simp [World.frozen?, hb1]
  have hb2 : (w1.setCell ⟨b, 0, none⟩ (.int .i64 1)).heap[b]? = some (.cells #[.int .i64 1, .int .i64 0, .string (B st.name), .slice a st.labs.length cp] 199) := by rw [text_set hb1]; rfl
  have own2 : (w1.setCell ⟨b, 0, none⟩ (.int .i64 1)).ownsRow (b + 1) 202 3 (.slice a st.labs.length cp) st.labs.length (labCells st.labs) := own_set own1 (by omega)
  have B2 : Below b w (w1.setCell ⟨b, 0, none⟩ (.int .i64 1)) := B1.setCell (p := ⟨b, 0, none⟩) (Nat.le_refl _) _
  have e3 : (w1.setCell ⟨b, 0, none⟩ (.int .i64 1)).cell? ⟨b, 3, none⟩ = some (.slice a st.labs.length cp) := by simp [World.cell?, hb2]
  have hsz : (w1.setCell ⟨b, 0, none⟩ (.int .i64 1)).heap.size = w1.heap.size := by simp [World.setCell]
  go_wp2_with (at_builtin; refine wpList_append_own _ rfl _ _ 197 rfl (b + 1) 202 i0 (.agg #[.string ⟨#[]⟩, .string ⟨#[]⟩, .int .i64 0]) 3 40 Tryz.underlying197 HI.out.1 HI.out.2.1 HI.out.2.2.1 HI.out.2.2.2 rfl (by decide) _ _ _ rfl (own2.alloc _) ⟨w1.heap.size, 0, none⟩ 1 1 [.string ⟨#[]⟩, .string ⟨#[]⟩, .int .i64 ((at_ : Int) + 1)] rfl rfl ?c1 ?c2 ?c3 ?c4 ?c5 ?_)
  case c1 =>
    intro j u hj
    have hnew := alloc_new (w1.setCell ⟨b, 0, none⟩ (.int .i64 1)) (.cells #[.string ⟨#[]⟩, .string ⟨#[]⟩, .int .i64 ((at_ : Int) + 1)] 202) w1.heap.size hsz.symm
    rw [Addr.add_lit, Lib.cell_of_heap hnew]
    simpa using hj
  case c2 => intro u hu; simp at hu; rcases hu with rfl | rfl <;> rfl
  case c3 => unfold maxLen; omega
  case c4 => omega
  case c5 => simp [hsz]; omega
  intro v' w2 hown2 hgr _
  have hrow : ∀ k, Value.ownBlock (.slice a st.labs.length cp) = some k → b + 1 ≤ k := fun k hk => (own2.lt k hk).1
  have hb3 : w2.heap[b]? = some (.cells #[.int .i64 1, .int .i64 0, .string (B st.name), .slice a st.labs.length cp] 199) := by
    rw [hgr.block b (by simp [hsz]; omega) (fun e => by have := hrow b e.symm; omega)]; exact alloc_keep hb2 _
  have B3 : Below b w w2 := (B2.alloc (by omega) _).grown hgr (by simp [hsz]; omega) (fun k hk => by have := hrow k hk; omega)
  have hx : labCells st.labs ++ [.string ⟨#[]⟩, .string ⟨#[]⟩, .int .i64 ((at_ : Int) + 1)] = labCells (st.labs ++ [⟨[], [], at_ + 1⟩]) := by simp [labCells, Lab.cells, B]
  rw [hx] at hown2
  obtain ⟨g, cap, rfl⟩ : ∃ g cap, v' = .slice (some ⟨g, 0, none⟩) (st.labs.length + 1) cap := by
    rcases hown2.2 with ⟨_, h0⟩ | ⟨g', cap', cur', hv', _⟩
    · omega
    · exact ⟨g', cap', hv'⟩
  have c3' : w2.cell? ⟨b, 3, none⟩ = some (.slice a st.labs.length cp) := by simp [World.cell?, hb3]
  have f3' : w2.frozen? ⟨b, 3, none⟩ = false := by simp [World.frozen?, hb3]
  have hbl2 : b < w2.heap.size := lt_of hb3
  clear hx hgr hrow own2 own1 B2 B1 hb2 hb1 d0 f0 e3 hsz
  go_wp2
  go_ret
  refine ⟨rfl, ⟨some ⟨g, 0, none⟩, cap, ?_, ?_⟩, ?_⟩
  · rw [text_set hb3]; simp
  · have := own_set (R := b) (o := 3) (x := .slice (some ⟨g, 0, none⟩) (st.labs.length + 1) cap) hown2 (by omega)
    simpa using this
  · exact B3.setCell (p := ⟨b, 3, none⟩) (Nat.le_refl _) _

end Go.Proofs.YtcfdemhokbddiaaGreatDoor

/-
  The document's own reader: a byte of a label's name, of a value.
-/
namespace Go.Proofs.YtcfdemhokbddiaaGreatDoor
open Go.RowKit

theorem labCells_snoc (a : List Lab) (x : Lab) : labCells (a ++ [x]) = labCells a ++ x.cells := by simp [labCells]
theorem set_name (a : List Lab) (x : Lab) (l : List UInt8) : (labCells (a ++ [x])).set (a.length * 3) (.string (B l)) = labCells (a ++ [{ x with name := l }]) := by
  rw [labCells_snoc, labCells_snoc, List.set_append_right _ _ (by rw [labCells_len]; omega), labCells_len]
  simp [Lab.cells]
theorem set_val (a : List Lab) (x : Lab) (l : List UInt8) : (labCells (a ++ [x])).set (a.length * 3 + 1) (.string (B l)) = labCells (a ++ [{ x with val := l }]) := by
  rw [labCells_snoc, labCells_snoc, List.set_append_right _ _ (by rw [labCells_len]; omega), labCells_len]
  simp [Lab.cells]

/-- TextAt with a last label, its row's block known. -/
def TextL (b g cp next long : Nat) (name : List UInt8) (a : List Lab) (x : Lab) (w : World) : Prop :=
  w.heap[b]? = some (.cells #[.int .i64 (next : Int), .int .i64 (long : Int), .string (B name), .slice (some ⟨g, 0, none⟩) (a.length + 1) cp] 199) ∧
    w.ownsRow (b + 1) 202 3 (.slice (some ⟨g, 0, none⟩) (a.length + 1) cp) (a.length + 1) (labCells (a ++ [x]))
theorem TextL.of {b : Nat} {st : St} {w : World} {a : List Lab} {x : Lab} (h : TextAt b st w) (hl : st.labs = a ++ [x]) : ∃ g cp, TextL b g cp st.next st.long st.name a x w := by
  obtain ⟨ad, cp, h1, h2⟩ := h
  rw [hl] at h1 h2
  rcases h2.2 with ⟨_, h0⟩ | ⟨g, cap, cur, h3, _⟩
  · simp at h0
  · simp at h3
    obtain ⟨rfl, rfl⟩ := h3
    exact ⟨g, cp, by simpa using h1, by simpa using h2⟩
theorem TextL.to {b g cp next long : Nat} {name : List UInt8} {w : World} {a : List Lab} {x : Lab} (h : TextL b g cp next long name a x w) : TextAt b ⟨next, long, name, a ++ [x]⟩ w :=
  ⟨some ⟨g, 0, none⟩, cp, by simpa using h.1, by simpa using h.2⟩

set_option maxRecDepth 100000 in
set_option maxHeartbeats 1000000 in
theorem take1_yes (b g cp : Nat) (st : St) (a : List Lab) (x : Lab) (c : UInt8) (at_ : Nat) (w : World) (h : TextL b g cp 1 st.long st.name a x w) (hl : st.long ≤ 100) (hg : goesB st.long (c.toNat : Int) = true) (hlen : x.name.length ≤ 1000) (hal : a.length ≤ 100) :
    Calls Tryz.prog 116 #[.pointer (some ⟨b, 0, none⟩), .int .u8 (c.toNat : Int), .int .i64 (at_ : Int)] w fun e w' => e = .returned (.bool true) ∧
      TextL b g cp 1 (st.long + 1) st.name a { x with name := x.name ++ [c] } w' ∧ Below b w w' := by
  obtain ⟨hb, own⟩ := h
  have c0 : w.cell? ⟨b, 0, none⟩ = some (.int .i64 1) := by simp [World.cell?, hb]
  have c3 : w.cell? ⟨b, 3, none⟩ = some (.slice (some ⟨g, 0, none⟩) (a.length + 1) cp) := by simp [World.cell?, hb]
  have hy := named_yes b ⟨1, st.long, st.name, []⟩ _ (c.toNat : Int) 61 w hb hl hg
  have HY : Hid (Calls Tryz.prog 149 #[.pointer (some ⟨b, 0, none⟩), .int .u8 (c.toNat : Int), .int .u8 61] w _) := hy
  clear hy hg
  go_enter Tryz.func116, Tryz.ntmps116
  go_wp2_with fail
  refine HY.out.mono ?_
  rintro e w1 ⟨rfl, hw1⟩
  have hb1 : w1.heap[b]? = some (.cells #[.int .i64 1, .int .i64 ((st.long + 1 : Nat) : Int), .string (B st.name), .slice (some ⟨g, 0, none⟩) (a.length + 1) cp] 199) := by rw [hw1, text_set hb]; rfl
  have own1 : w1.ownsRow (b + 1) 202 3 (.slice (some ⟨g, 0, none⟩) (a.length + 1) cp) (a.length + 1) (labCells (a ++ [x])) := by rw [hw1]; exact own_set own (by omega)
  have B1 : Below b w w1 := by rw [hw1]; exact (Below.refl b w).setCell (p := ⟨b, 1, none⟩) (Nat.le_refl _) _
  clear hw1 c0 c3 hb own HY
  have hbl : b < w1.heap.size := lt_of hb1
  obtain ⟨hg1, hg2⟩ := own1.lt g rfl
  have d3 : w1.cell? ⟨b, 3, none⟩ = some (.slice (some ⟨g, 0, none⟩) (a.length + 1) cp) := by simp [World.cell?, hb1]
  have hx := (labCells_get (a ++ [x]) a.length (by simp)).1
  have dx : w1.cell? ⟨g, a.length * 3, none⟩ = some (.string (B x.name)) := by
    rw [own1.cellAt _ (by omega), hx]; simp
  have fx : w1.frozen? ⟨g, a.length * 3, none⟩ = false := own1.frozenAt _
  have ga := gb_alloc (gb_refl w1 none) (.cells #[.int .u8 (c.toNat : Int)] 5)
  have d3' := gb_cell ga d3 (by simp)
  have dx' := gb_cell ga dx (by simp)
  have fx' := gb_froz ga hg2 fx (by simp)
  have hcv : (convert 133 9 (.slice (some ⟨w1.heap.size, 0, none⟩) 1 1)).run Tryz.prog (w1.alloc (.cells #[.int .u8 (c.toNat : Int)] 5)).drew = .ok (.string ⟨#[c]⟩) (w1.alloc (.cells #[.int .u8 (c.toNat : Int)] 5)).drew := one_bytes c _ _ _ (by simp)
  have hadd := add_one x.name c hlen
  clear ga hx
  have hgb : g ≠ b := by omega
  go_wp2
  go_region
  all_goals go_wp2
  all_goals
    go_ret
    refine ⟨rfl, ⟨?_, ?_⟩, ?_⟩
    · exact alloc_keep (rdr_o hb1 (by omega)) _
    · have := (own1.stored (a.length * 3) (.string (B (x.name ++ [c])))).1
      rw [set_name] at this
      exact this.alloc _
    · exact ((B1.setCell (p := ⟨g, a.length * 3, none⟩) (by show b ≤ g; omega) _).alloc (by simp [World.setCell]; omega) _).drew

/-- What the value's two states do to the label: the byte goes on at the value's end; w1 is the world in which the block's first cells are written already. -/
theorem val_step (b g cp next long : Nat) (name : List UInt8) (a : List Lab) (x : Lab) (c : UInt8) (w1 : World) (h : TextL b g cp next long name a x w1) :
    w1.cell? ⟨b, 3, none⟩ = some (.slice (some ⟨g, 0, none⟩) (a.length + 1) cp) ∧ w1.cell? ⟨g, a.length * 3 + 1, none⟩ = some (.string (B x.val)) ∧ w1.frozen? ⟨g, a.length * 3 + 1, none⟩ = false ∧
      (w1.alloc (.cells #[.int .u8 (c.toNat : Int)] 5)).cell? ⟨b, 3, none⟩ = some (.slice (some ⟨g, 0, none⟩) (a.length + 1) cp) ∧
      (w1.alloc (.cells #[.int .u8 (c.toNat : Int)] 5)).cell? ⟨g, a.length * 3 + 1, none⟩ = some (.string (B x.val)) ∧ (w1.alloc (.cells #[.int .u8 (c.toNat : Int)] 5)).frozen? ⟨g, a.length * 3 + 1, none⟩ = false ∧
      (convert 133 9 (.slice (some ⟨w1.heap.size, 0, none⟩) 1 1)).run Tryz.prog (w1.alloc (.cells #[.int .u8 (c.toNat : Int)] 5)).drew = .ok (.string ⟨#[c]⟩) (w1.alloc (.cells #[.int .u8 (c.toNat : Int)] 5)).drew ∧ b + 1 ≤ g ∧ g < w1.heap.size ∧ b < w1.heap.size := by
  obtain ⟨hb1, own1⟩ := h
  have hbl : b < w1.heap.size := lt_of hb1
  obtain ⟨hg1, hg2⟩ := own1.lt g rfl
  have d3 : w1.cell? ⟨b, 3, none⟩ = some (.slice (some ⟨g, 0, none⟩) (a.length + 1) cp) := by simp [World.cell?, hb1]
  have hx := (labCells_get (a ++ [x]) a.length (by simp)).2.1
  have dx : w1.cell? ⟨g, a.length * 3 + 1, none⟩ = some (.string (B x.val)) := by
    rw [own1.cellAt _ (by omega), hx]; simp
  have fx : w1.frozen? ⟨g, a.length * 3 + 1, none⟩ = false := own1.frozenAt _
  have ga := gb_alloc (gb_refl w1 none) (.cells #[.int .u8 (c.toNat : Int)] 5)
  exact ⟨d3, dx, fx, gb_cell ga d3 (by simp), gb_cell ga dx (by simp), gb_froz ga hg2 fx (by simp), one_bytes c _ _ _ (by simp), hg1, hg2, hbl⟩

theorem TextL.setB {b g cp next long : Nat} {name : List UInt8} {a : List Lab} {x : Lab} {w : World} (h : TextL b g cp next long name a x w) (n : Nat) : TextL b g cp n long name a x (w.setCell ⟨b, 0, none⟩ (.int .i64 (n : Int))) :=
  ⟨by rw [text_set h.1]; rfl, own_set h.2 (by omega)⟩
theorem TextL.setLong {b g cp next long : Nat} {name : List UInt8} {a : List Lab} {x : Lab} {w : World} (h : TextL b g cp next long name a x w) (n : Nat) : TextL b g cp next n name a x (w.setCell ⟨b, 1, none⟩ (.int .i64 (n : Int))) :=
  ⟨by rw [text_set h.1]; rfl, own_set h.2 (by omega)⟩
theorem TextL.setVal {b g cp next long : Nat} {name : List UInt8} {a : List Lab} {x : Lab} {w : World} (h : TextL b g cp next long name a x w) (l : List UInt8) : TextL b g cp next long name a { x with val := l } (w.setCell ⟨g, a.length * 3 + 1, none⟩ (.string (B l))) := by
  have hg := (h.2.lt g rfl).1
  refine ⟨rdr_o h.1 (by omega), ?_⟩
  have := (h.2.stored (a.length * 3 + 1) (.string (B l))).1
  rw [set_val] at this
  exact this
theorem TextL.alloc {b g cp next long : Nat} {name : List UInt8} {a : List Lab} {x : Lab} {w : World} (h : TextL b g cp next long name a x w) (o : Obj) : TextL b g cp next long name a x (w.alloc o) :=
  ⟨alloc_keep h.1 _, h.2.alloc _⟩

set_option maxRecDepth 100000 in
set_option maxHeartbeats 1000000 in
theorem take4 (b g cp : Nat) (st : St) (a : List Lab) (x : Lab) (c : UInt8) (at_ : Nat) (w : World) (h : TextL b g cp 4 st.long st.name a x w) (hlen : x.val.length ≤ 1000) (hal : a.length ≤ 100) :
    Calls Tryz.prog 116 #[.pointer (some ⟨b, 0, none⟩), .int .u8 (c.toNat : Int), .int .i64 (at_ : Int)] w fun e w' => e = .returned (.bool (decide (c.toNat = 34 ∨ c.toNat = 92 ∨ c.toNat = 110))) ∧
      TextL b g cp 3 st.long st.name a { x with val := x.val ++ [c] } w' ∧ Below b w w' := by
  have hb := h.1
  have c0 : w.cell? ⟨b, 0, none⟩ = some (.int .i64 4) := by simp [World.cell?, hb]
  have c3 : w.cell? ⟨b, 3, none⟩ = some (.slice (some ⟨g, 0, none⟩) (a.length + 1) cp) := by simp [World.cell?, hb]
  have f0 : w.frozen? ⟨b, 0, none⟩ = false := by simp [World.frozen?, hb]
  have T1 : TextL b g cp 3 st.long st.name a x (w.setCell ⟨b, 0, none⟩ (.int .i64 3)) := h.setB 3
  have B1 : Below b w (w.setCell ⟨b, 0, none⟩ (.int .i64 3)) := (Below.refl b w).setCell (p := ⟨b, 0, none⟩) (Nat.le_refl _) _
  have hadd := add_one x.val c hlen
  have key : ∀ r : Bool, (r = true ↔ ((c.toNat : Int) = 34 ∨ (c.toNat : Int) = 92 ∨ (c.toNat : Int) = 110)) → r = decide (c.toNat = 34 ∨ c.toNat = 92 ∨ c.toNat = 110) := by
    intro r hr; rw [Bool.eq_iff_iff, hr]; simp; omega
  have KH : Hid (∀ r : Bool, _) := key
  clear hb key
  go_enter Tryz.func116, Tryz.ntmps116
  go_wp2
  generalize w.setCell ⟨b, 0, none⟩ (.int .i64 3) = w1 at *
  obtain ⟨k1, k2, k3, k4, k5, k6, k7, k8, k9, k10⟩ := val_step b g cp 3 st.long st.name a x c _ T1
  have hgb : g ≠ b := by omega
  clear c0 c3 f0
  go_region
  all_goals
    by_cases h1 : (c.toNat : Int) = 34
    · have h1' : ((c.toNat : Int) == 34) = true := by simp [h1]
      have H1 : Hid ((c.toNat : Int) = 34) := h1
      clear h1
      go_wp2
      go_ret
      refine ⟨ret_b (KH.out _ (by simp [H1.out])), (T1.setVal _).alloc _, ?_⟩
      exact ((B1.setCell (p := ⟨g, a.length * 3 + 1, none⟩) (by show b ≤ g; omega) _).alloc (by simp [World.setCell]; omega) _).drew
    · have h1' : ((c.toNat : Int) == 34) = false := by simpa using h1
      by_cases h2 : (c.toNat : Int) = 92
      · have h2' : ((c.toNat : Int) == 92) = true := by simp [h2]
        have H2 : Hid ((c.toNat : Int) = 92) := h2
        clear h1 h2
        go_wp2
        go_ret
        refine ⟨ret_b (KH.out _ (by simp [H2.out])), (T1.setVal _).alloc _, ?_⟩
        exact ((B1.setCell (p := ⟨g, a.length * 3 + 1, none⟩) (by show b ≤ g; omega) _).alloc (by simp [World.setCell]; omega) _).drew
      · have h2' : ((c.toNat : Int) == 92) = false := by simpa using h2
        have H1 : Hid (¬ (c.toNat : Int) = 34) := h1
        have H2 : Hid (¬ (c.toNat : Int) = 92) := h2
        clear h1 h2
        go_wp2
        go_ret
        refine ⟨ret_b (KH.out _ ?_), (T1.setVal _).alloc _, ?_⟩
        · have := H1.out; have := H2.out; simp; omega
        exact ((B1.setCell (p := ⟨g, a.length * 3 + 1, none⟩) (by show b ≤ g; omega) _).alloc (by simp [World.setCell]; omega) _).drew

end Go.Proofs.YtcfdemhokbddiaaGreatDoor

/-
  The document's own reader: the other states, and the step whole.
-/
namespace Go.Proofs.YtcfdemhokbddiaaGreatDoor
open Go.RowKit

set_option maxRecDepth 100000 in
set_option maxHeartbeats 1000000 in
theorem take3_esc (b g cp : Nat) (st : St) (a : List Lab) (x : Lab) (c : UInt8) (at_ : Nat) (w : World) (h : TextL b g cp 3 st.long st.name a x w) (hlen : x.val.length ≤ 1000) (hal : a.length ≤ 100) (hl : st.long ≤ 100) (hc : c.toNat = 92) :
    Calls Tryz.prog 116 #[.pointer (some ⟨b, 0, none⟩), .int .u8 (c.toNat : Int), .int .i64 (at_ : Int)] w fun e w' => e = .returned (.bool (decide (st.long + 1 ≤ 16))) ∧
      TextL b g cp 4 (st.long + 1) st.name a { x with val := x.val ++ [c] } w' ∧ Below b w w' := by
  have hb := h.1
  have c0 : w.cell? ⟨b, 0, none⟩ = some (.int .i64 3) := by simp [World.cell?, hb]
  have c3 : w.cell? ⟨b, 3, none⟩ = some (.slice (some ⟨g, 0, none⟩) (a.length + 1) cp) := by simp [World.cell?, hb]
  have f0 : w.frozen? ⟨b, 0, none⟩ = false := by simp [World.frozen?, hb]
  have T1 : TextL b g cp 4 st.long st.name a x (w.setCell ⟨b, 0, none⟩ (.int .i64 4)) := h.setB 4
  have B1 : Below b w (w.setCell ⟨b, 0, none⟩ (.int .i64 4)) := (Below.refl b w).setCell (p := ⟨b, 0, none⟩) (Nat.le_refl _) _
  have hadd := add_one x.val c hlen
  have h34 : ((c.toNat : Int) == 34) = false := by simp; omega
  have h92 : ((c.toNat : Int) == 92) = true := by simp; omega
  clear hb hc
  go_enter Tryz.func116, Tryz.ntmps116
  go_wp2
  generalize w.setCell ⟨b, 0, none⟩ (.int .i64 4) = w1 at *
  obtain ⟨k1, k2, k3, k4, k5, k6, k7, k8, k9, k10⟩ := val_step b g cp 4 st.long st.name a x c _ T1
  have hgb : g ≠ b := by omega
  clear c0 c3 f0
  go_region
  all_goals
    have T2 : TextL b g cp 4 st.long st.name a { x with val := x.val ++ [c] } ((w1.setCell ⟨g, a.length * 3 + 1, none⟩ (.string (B (x.val ++ [c])))).alloc (.cells #[.int .u8 (c.toNat : Int)] 5)).drew := (T1.setVal _).alloc _
    have B2 : Below b w ((w1.setCell ⟨g, a.length * 3 + 1, none⟩ (.string (B (x.val ++ [c])))).alloc (.cells #[.int .u8 (c.toNat : Int)] 5)).drew := ((B1.setCell (p := ⟨g, a.length * 3 + 1, none⟩) (by show b ≤ g; omega) _).alloc (by simp [World.setCell]; omega) _).drew
    clear T1 B1 k1 k2 k3 k4 k5 k6 k7 k9 k10
    generalize ((w1.setCell ⟨g, a.length * 3 + 1, none⟩ (.string (B (x.val ++ [c])))).alloc (.cells #[.int .u8 (c.toNat : Int)] 5)).drew = w2 at *
    have hb2 := T2.1
    have e1 : w2.cell? ⟨b, 1, none⟩ = some (.int .i64 (st.long : Int)) := by simp [World.cell?, hb2]
    have f1 : w2.frozen? ⟨b, 1, none⟩ = false := by simp [World.frozen?, hb2]
    have T3 := T2.setLong (st.long + 1)
    clear hb2
    go_wp2
    go_ret
    refine ⟨ret_b ?_, T3, B2.setCell (p := ⟨b, 1, none⟩) (Nat.le_refl _) _⟩
    rw [Bool.eq_iff_iff]; simp; omega

set_option maxRecDepth 100000 in
set_option maxHeartbeats 1000000 in
theorem take3_byte (b g cp : Nat) (st : St) (a : List Lab) (x : Lab) (c : UInt8) (at_ : Nat) (w : World) (h : TextL b g cp 3 st.long st.name a x w) (hlen : x.val.length ≤ 1000) (hal : a.length ≤ 100) (hl : st.long ≤ 100) (hc : c.toNat ≠ 92) (hc' : c.toNat ≠ 34) :
    Calls Tryz.prog 116 #[.pointer (some ⟨b, 0, none⟩), .int .u8 (c.toNat : Int), .int .i64 (at_ : Int)] w fun e w' => e = .returned (.bool (decide (st.long + 1 ≤ 16))) ∧
      TextL b g cp 3 (st.long + 1) st.name a { x with val := x.val ++ [c] } w' ∧ Below b w w' := by
  have hb := h.1
  have c0 : w.cell? ⟨b, 0, none⟩ = some (.int .i64 3) := by simp [World.cell?, hb]
  have B1 : Below b w w := Below.refl b w
  have hadd := add_one x.val c hlen
  have h34 : ((c.toNat : Int) == 34) = false := by simp; omega
  have h92 : ((c.toNat : Int) == 92) = false := by simp; omega
  obtain ⟨k1, k2, k3, k4, k5, k6, k7, k8, k9, k10⟩ := val_step b g cp 3 st.long st.name a x c _ h
  have hgb : g ≠ b := by omega
  clear hb hc hc'
  go_enter Tryz.func116, Tryz.ntmps116
  go_wp2
  go_region
  all_goals
    have T2 : TextL b g cp 3 st.long st.name a { x with val := x.val ++ [c] } ((w.setCell ⟨g, a.length * 3 + 1, none⟩ (.string (B (x.val ++ [c])))).alloc (.cells #[.int .u8 (c.toNat : Int)] 5)).drew := (h.setVal _).alloc _
    have B2 : Below b w ((w.setCell ⟨g, a.length * 3 + 1, none⟩ (.string (B (x.val ++ [c])))).alloc (.cells #[.int .u8 (c.toNat : Int)] 5)).drew := ((B1.setCell (p := ⟨g, a.length * 3 + 1, none⟩) (by show b ≤ g; omega) _).alloc (by simp [World.setCell]; omega) _).drew
    clear h B1 k1 k2 k3 k4 k5 k6 k7 k9 k10
    generalize ((w.setCell ⟨g, a.length * 3 + 1, none⟩ (.string (B (x.val ++ [c])))).alloc (.cells #[.int .u8 (c.toNat : Int)] 5)).drew = w2 at *
    have hb2 := T2.1
    have e1 : w2.cell? ⟨b, 1, none⟩ = some (.int .i64 (st.long : Int)) := by simp [World.cell?, hb2]
    have f1 : w2.frozen? ⟨b, 1, none⟩ = false := by simp [World.frozen?, hb2]
    have T3 := T2.setLong (st.long + 1)
    clear hb2
    go_wp2
    go_ret
    refine ⟨ret_b ?_, T3, B2.setCell (p := ⟨b, 1, none⟩) (Nat.le_refl _) _⟩
    rw [Bool.eq_iff_iff]; simp; omega

end Go.Proofs.YtcfdemhokbddiaaGreatDoor
