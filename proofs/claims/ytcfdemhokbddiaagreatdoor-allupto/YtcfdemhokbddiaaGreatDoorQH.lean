/-
  The search: cmp.Compare at strings, the closure of order.Find, slices.BinarySearchFunc, order.Find.
-/
import Derived.Test.YtcfdemhokbddiaaGreatDoorQE

namespace Go.Proofs.YtcfdemhokbddiaaGreatDoor
open Go.RowKit

set_option maxHeartbeats 400000 in
theorem nameOf_any (a v : ByteArray) (k : Int) (w : World) :
    Calls Tryz.prog 74 #[.agg #[.string a, .string v, .int .i64 k]] w fun e w' => e = .returned (.string a) ∧ w.grownBy w' none := by
  go_enter Tryz.func74, Tryz.ntmps74
  go_wp2
  go_ret
  exact ⟨rfl, gb_alloc (gb_refl _ _) _⟩

set_option maxHeartbeats 400000 in
theorem isNaN_any (a : ByteArray) (w : World) :
    Calls Tryz.prog 156 #[.string a] w fun e w' => e = .returned (.bool false) ∧ w' = w := by
  go_enter Tryz.func156, Tryz.ntmps156
  go_wp2
  go_ret
  exact ⟨by simp, rfl⟩

set_option maxHeartbeats 400000 in
theorem compare_any (a c : List UInt8) (w : World) :
    Calls Tryz.prog 128 #[.string (B a), .string (B c)] w fun e w' => e = .returned (.int .i64 (cmpB a c)) ∧ w' = w := by
  have ea := toList_B a
  have ec := toList_B c
  cases h : lt a c with
  | true =>
    have h' : Op.bytesLess a c = true := h
    have HE : Hid (cmpB a c = -1) := by simp [Hid, cmpB, h]
    clear h
    go_enter Tryz.func128, Tryz.ntmps128
    go_wp2_with (go_at_call 156; refine (isNaN_any _ _).mono ?_; rintro e w' ⟨rfl, rfl⟩)
    go_ret
    exact ⟨by rw [HE.out]; rfl, rfl⟩
  | false =>
    have h' : Op.bytesLess a c = false := h
    by_cases e : a = c
    · subst e
      have HE : Hid (cmpB a a = 0) := by simp [Hid, cmpB, h]
      clear h
      go_enter Tryz.func128, Tryz.ntmps128
      go_wp2_with (go_at_call 156; refine (isNaN_any _ _).mono ?_; rintro e w' ⟨rfl, rfl⟩)
      go_ret
      exact ⟨by rw [HE.out]; rfl, rfl⟩
    · have HE : Hid (cmpB a c = 1) := by simp [Hid, cmpB, h, e]
      have e' : (a == c) = false := by simpa using e
      clear h
      go_enter Tryz.func128, Tryz.ntmps128
      go_wp2_with (go_at_call 156; refine (isNaN_any _ _).mono ?_; rintro e w' ⟨rfl, rfl⟩)
      go_ret
      exact ⟨by rw [HE.out]; rfl, rfl⟩

def keyV : Value := .func (.func 74) #[] #[]

set_option maxHeartbeats 400000 in
theorem closure_any (a c : List UInt8) (v : ByteArray) (k : Int) (kb : Nat) (w : World) (hk : w.cell? ⟨kb, 0, none⟩ = some (.func (.func 74) #[] #[])) :
    Calls Tryz.prog 147 #[.agg #[.string (B a), .string v, .int .i64 k], .string (B c), .pointer (some ⟨kb, 0, none⟩)] w fun e w' => e = .returned (.int .i64 (cmpB a c)) ∧ w.grownBy w' none := by
  have hkl : kb < w.heap.size := World.block_lt_of_cell? _ _ hk
  go_enter Tryz.func147, Tryz.ntmps147
  go_wp2_with fail
  refine (nameOf_any _ _ _ _).mono ?_
  rintro e w1 ⟨rfl, g1⟩
  go_wp2_with fail
  refine (compare_any a c _).mono ?_
  rintro e w2 ⟨rfl, rfl⟩
  go_wp2
  go_ret
  exact ⟨rfl, gb_trans (gb_alloc (gb_refl _ _) _) g1⟩

/-- Does the name stand at its place? -/
def fnd (t : List UInt8) (ls : List Lab) : Bool := match ls[place t ls]? with | some x => x.name == t | none => false

theorem gb_cell {w w' : World} {r : Option Nat} (h : w.grownBy w' r) {b o : Nat} {v : Value} (hc : w.cell? ⟨b, o, none⟩ = some v) (hr : some b ≠ r) : w'.cell? ⟨b, o, none⟩ = some v := by
  rw [← hc]; exact World.cell?_of_block (w := w) (h.block b (World.block_lt_of_cell? _ _ hc) hr)

theorem lab_cells {w : World} {base g cap : Nat} {ls : List Lab} (h : w.ownsRow base 130 3 (.slice (some ⟨g, 0, none⟩) ls.length cap) ls.length (labCells ls)) (k : Nat) (hk : k < ls.length) :
    w.cell? ⟨g, k * 3, none⟩ = some (.string (B (ls[k]).name)) ∧ w.cell? ⟨g, k * 3 + 1, none⟩ = some (.string (B (ls[k]).val)) ∧ w.cell? ⟨g, k * 3 + 2, none⟩ = some (.int .i64 ((ls[k]).at_ : Int)) := by
  obtain ⟨h1, h2, h3⟩ := labCells_get ls k hk
  exact ⟨by rw [h.cellAt _ (by omega), h1], by rw [h.cellAt _ (by omega), h2], by rw [h.cellAt _ (by omega), h3]⟩

theorem cmpB_lt {a b : List UInt8} (h : lt a b = true) : cmpB a b < 0 := by simp [cmpB, h]
theorem cmpB_ge {a b : List UInt8} (h : lt a b = false) : 0 ≤ cmpB a b := by simp [cmpB, h]; split <;> decide
theorem cmpB_eq {a b : List UInt8} (h : lt a b = false) : (cmpB a b == 0) = (a == b) := by
  by_cases e : a = b
  · subst e; simp [cmpB, lt_irrefl]
  · simp [cmpB, h, e]

set_option maxHeartbeats 1000000 in
theorem search_any (g cap kb : Nat) (ls : List Lab) (t : List UInt8) (base : Nat) (w : World) (hown : w.ownsRow base 130 3 (.slice (some ⟨g, 0, none⟩) ls.length cap) ls.length (labCells ls)) (hl : ls.length ≤ 3) (hsrt : Srt ls)
    (hk : w.cell? ⟨kb, 0, none⟩ = some (.func (.func 74) #[] #[])) :
    Calls Tryz.prog 146 #[.slice (some ⟨g, 0, none⟩) ls.length cap, .string (B t), .func (.func 147) #[] #[.pointer (some ⟨kb, 0, none⟩)]] w
      fun e w' => e = .returned (.tuple #[.int .i64 (place t ls : Int), .bool (fnd t ls)]) ∧ w.grownBy w' none := by
  have HS : Hid (Srt ls) := hsrt
  clear hsrt
  go_enter Tryz.func146, Tryz.ntmps146
  go_wp2
  go_loopw [9, 10] (fun i j wr => ∃ (a c : Nat), i = .int .i64 (a : Int) ∧ j = .int .i64 (c : Int) ∧ a ≤ c ∧ c ≤ ls.length ∧ w.grownBy wr none ∧
      Hid ((∀ k (h : k < ls.length), k < a → lt (ls[k]).name t = true) ∧ (∀ k (h : k < ls.length), c ≤ k → lt (ls[k]).name t = false)))
    (fun i j _ => (intOf j - intOf i).toNat)
  case atStart => exact ⟨0, ls.length, rfl, rfl, by omega, by omega, gb_refl _ _, ⟨fun k h h0 => by omega, fun k h h0 => by omega⟩⟩
  case round =>
    obtain ⟨a, c, rfl, rfl, h1, h2, hg, HI⟩ := hrel
    by_cases hlt : a < c
    · have hm : (a + c) / 2 < ls.length := by omega
      obtain ⟨d0, d1, d2⟩ := lab_cells hown ((a + c) / 2) hm
      have e0 := gb_cell hg d0 (by simp)
      have e1 := gb_cell hg d1 (by simp)
      have e2 := gb_cell hg d2 (by simp)
      have ek := gb_cell hg hk (by simp)
      clear d0 d1 d2
      go_wp2_with fail
      refine (closure_any _ _ _ _ _ _ ek).mono ?_
      rintro e w1 ⟨rfl, g1⟩
      cases hq : lt (ls[(a + c) / 2]).name t with
      | true =>
        have hneg := cmpB_lt hq
        have HQ : Hid (lt (ls[(a + c) / 2]).name t = true) := hq
        clear hq
        generalize cmpB (ls[(a + c) / 2]).name t = q at hneg ⊢
        go_wp2
        go_roundw
        case rel =>
          refine ⟨(a + c) / 2 + 1, c, by go_num, rfl, by omega, h2, gb_trans hg g1, ⟨fun k h hk => ?_, HI.out.2⟩⟩
          by_cases hk2 : k = (a + c) / 2
          · subst hk2; exact HQ.out
          · exact lt_trans _ _ _ (HS.out.get k ((a + c) / 2) hm (by omega)) HQ.out
        case measure => simp [intOf]; omega
      | false =>
        have hneg := cmpB_ge hq
        have HQ : Hid (lt (ls[(a + c) / 2]).name t = false) := hq
        clear hq
        generalize cmpB (ls[(a + c) / 2]).name t = q at hneg ⊢
        go_wp2
        go_roundw
        case rel =>
          refine ⟨a, (a + c) / 2, rfl, by go_num, by omega, by omega, gb_trans hg g1, ⟨HI.out.1, fun k h hk => ?_⟩⟩
          by_cases hk2 : k = (a + c) / 2
          · subst hk2; exact HQ.out
          · cases hx : lt (ls[k]).name t with
            | false => rfl
            | true =>
              have := lt_trans _ _ _ (HS.out.get ((a + c) / 2) k h (by omega)) hx
              rw [HQ.out] at this; cases this
        case measure => simp [intOf]; omega
    · obtain rfl : a = c := by omega
      have hp : place t ls = a := place_of t ls a h2 HI.out.1 HI.out.2
      by_cases hn : a < ls.length
      · obtain ⟨d0, d1, d2⟩ := lab_cells hown a hn
        have e0 := gb_cell hg d0 (by simp)
        have e1 := gb_cell hg d1 (by simp)
        have e2 := gb_cell hg d2 (by simp)
        have ek := gb_cell hg hk (by simp)
        have hge := HI.out.2 a hn (Nat.le_refl _)
        have hf : fnd t ls = (cmpB (ls[a]).name t == 0) := by
          rw [cmpB_eq hge]; unfold fnd; rw [hp, List.getElem?_eq_getElem hn]
        have HF : Hid (fnd t ls = _) := hf
        have HP : Hid (place t ls = a) := hp
        clear d0 d1 d2 hp hf hge
        go_wp2_with fail
        refine (closure_any _ _ _ _ _ _ ek).mono ?_
        rintro e w1 ⟨rfl, g1⟩
        go_wp2
        go_ret2
        exact ⟨by rw [HF.out, HP.out]; rfl, gb_trans hg g1⟩
      · have HF : Hid (fnd t ls = false) := by
          show _ = _; unfold fnd; rw [hp, List.getElem?_eq_none (by omega)]
        have HP : Hid (place t ls = a) := hp
        clear hp
        go_wp2
        go_ret2
        exact ⟨by rw [HF.out, HP.out]; rfl, hg⟩

set_option maxHeartbeats 400000 in
theorem find_any (g cap : Nat) (ls : List Lab) (t : List UInt8) (base : Nat) (w : World) (hown : w.ownsRow base 130 3 (.slice (some ⟨g, 0, none⟩) ls.length cap) ls.length (labCells ls)) (hl : ls.length ≤ 3) (hsrt : Srt ls) :
    Calls Tryz.prog 111 #[.slice (some ⟨g, 0, none⟩) ls.length cap, .func (.func 74) #[] #[], .string (B t)] w
      fun e w' => e = .returned (.tuple #[.int .i64 (place t ls : Int), .bool (fnd t ls)]) ∧ w.grownBy w' none := by
  have HS : Hid (Srt ls) := hsrt
  clear hsrt
  go_enter Tryz.func111, Tryz.ntmps111
  go_wp2_with fail
  refine (search_any g cap w.heap.size ls t base _ (hown.alloc _) hl HS.out (by simp)).mono ?_
  rintro e w1 ⟨rfl, g1⟩
  go_wp2
  go_ret2
  exact ⟨rfl, gb_trans (gb_alloc (gb_refl _ _) _) g1⟩

end Go.Proofs.YtcfdemhokbddiaaGreatDoor
