/-
  The document's own reader: the states that write no label; the step whole.
-/
import Derived.Test.YtcfdemhokbddiaaGreatDoorQP
import Derived.Test.YtcfdemhokbddiaaGreatDoorQMa

namespace Go.Proofs.YtcfdemhokbddiaaGreatDoor
open Go.RowKit

theorem TextAt.cells {b : Nat} {st : St} {w : World} (h : TextAt b st w) : ∃ a cp, w.heap[b]? = some (.cells #[.int .i64 (st.next : Int), .int .i64 (st.long : Int), .string (B st.name), .slice a st.labs.length cp] 199) ∧
    w.cell? ⟨b, 0, none⟩ = some (.int .i64 (st.next : Int)) ∧ w.cell? ⟨b, 1, none⟩ = some (.int .i64 (st.long : Int)) ∧ w.cell? ⟨b, 3, none⟩ = some (.slice a st.labs.length cp) ∧ w.frozen? ⟨b, 0, none⟩ = false ∧ w.frozen? ⟨b, 1, none⟩ = false ∧ w.frozen? ⟨b, 3, none⟩ = false := by
  obtain ⟨a, cp, hb, _⟩ := h
  exact ⟨a, cp, hb, by simp [World.cell?, hb], by simp [World.cell?, hb], by simp [World.cell?, hb], by simp [World.frozen?, hb], by simp [World.frozen?, hb], by simp [World.frozen?, hb]⟩
theorem TextAt.setNext {b : Nat} {st : St} {w : World} (h : TextAt b st w) (n : Nat) : TextAt b { st with next := n } (w.setCell ⟨b, 0, none⟩ (.int .i64 (n : Int))) := by
  obtain ⟨a, cp, hb, own⟩ := h
  exact ⟨a, cp, by rw [text_set hb]; rfl, own_set own (by omega)⟩
theorem TextAt.setLong {b : Nat} {st : St} {w : World} (h : TextAt b st w) (n : Nat) : TextAt b { st with long := n } (w.setCell ⟨b, 1, none⟩ (.int .i64 (n : Int))) := by
  obtain ⟨a, cp, hb, own⟩ := h
  exact ⟨a, cp, by rw [text_set hb]; rfl, own_set own (by omega)⟩

set_option maxRecDepth 100000 in
set_option maxHeartbeats 1000000 in
theorem take01_no (b n : Nat) (st : St) (c : UInt8) (at_ : Nat) (w : World) (h : TextAt b st w) (hn : st.next = n) (hn' : n = 0 ∨ n = 1) (hl : st.long ≤ 100) (hls : st.labs.length ≤ 100) (hg : goesB st.long (c.toNat : Int) = false) (h0 : st.long = 0 ∨ (n = 0 ∧ c.toNat ≠ 123) ∨ (n = 1 ∧ c.toNat ≠ 61)) :
    Calls Tryz.prog 116 #[.pointer (some ⟨b, 0, none⟩), .int .u8 (c.toNat : Int), .int .i64 (at_ : Int)] w fun e w' => e = .returned (.bool false) ∧ Below b w w' := by
  obtain ⟨a, cp, hb, c0, c1, c3, _⟩ := h.cells
  rw [hn] at hb c0
  rcases hn' with rfl | rfl
  · have hy := named_no b st _ (c.toNat : Int) 123 w (by rw [hn]; exact hb) hl hg (by
      rcases h0 with h | h | h
      · exact Or.inl h
      · right; simp; omega
      · omega)
    have HY : Hid (Calls Tryz.prog 149 #[.pointer (some ⟨b, 0, none⟩), .int .u8 (c.toNat : Int), .int .u8 123] w _) := hy
    clear hy hb hn h0 hg
    go_enter Tryz.func116, Tryz.ntmps116
    go_wp2_with (go_at_call 149; refine HY.out.mono ?_; rintro e w1 ⟨rfl, rfl⟩)
    go_ret
    exact ⟨rfl, Below.refl _ _⟩
  · have hy := named_no b st _ (c.toNat : Int) 61 w (by rw [hn]; exact hb) hl hg (by
      rcases h0 with h | h | h
      · exact Or.inl h
      · omega
      · right; simp; omega)
    have HY : Hid (Calls Tryz.prog 149 #[.pointer (some ⟨b, 0, none⟩), .int .u8 (c.toNat : Int), .int .u8 61] w _) := hy
    clear hy hb hn h0 hg
    go_enter Tryz.func116, Tryz.ntmps116
    go_wp2_with (go_at_call 149; refine HY.out.mono ?_; rintro e w1 ⟨rfl, rfl⟩)
    go_ret
    exact ⟨rfl, Below.refl _ _⟩

set_option maxRecDepth 100000 in
set_option maxHeartbeats 1000000 in
theorem take1_sign (b : Nat) (st : St) (c : UInt8) (at_ : Nat) (w : World) (h : TextAt b st w) (hn : st.next = 1) (hl : st.long ≤ 100) (hls : st.labs.length ≤ 100) (hg : goesB st.long (c.toNat : Int) = false) (h0 : 0 < st.long) (hc : c.toNat = 61) :
    Calls Tryz.prog 116 #[.pointer (some ⟨b, 0, none⟩), .int .u8 (c.toNat : Int), .int .i64 (at_ : Int)] w fun e w' => e = .returned (.bool true) ∧ TextAt b { st with next := 2, long := 0 } w' ∧ Below b w w' := by
  obtain ⟨a, cp, hb, c0, c1, c3, f0, f1, f3⟩ := h.cells
  have hy := named_sign b st _ (c.toNat : Int) 61 w hb hl hg h0 (by simp; omega)
  have HY : Hid (Calls Tryz.prog 149 #[.pointer (some ⟨b, 0, none⟩), .int .u8 (c.toNat : Int), .int .u8 61] w _) := hy
  rw [hn] at c0
  have T1 : TextAt b { st with long := 0 } (w.setCell ⟨b, 1, none⟩ (.int .i64 0)) := h.setLong 0
  have B1 : Below b w (w.setCell ⟨b, 1, none⟩ (.int .i64 0)) := (Below.refl b w).setCell (p := ⟨b, 1, none⟩) (Nat.le_refl _) _
  clear hy hb hn hc hg
  go_enter Tryz.func116, Tryz.ntmps116
  go_wp2_with fail
  refine HY.out.mono ?_
  rintro e w1 ⟨rfl, rfl⟩
  generalize w.setCell ⟨b, 1, none⟩ (.int .i64 0) = w1 at *
  clear c0 c1 c3 f0 f1 f3
  obtain ⟨a', cp', hb', c0, c1, c3, f0, f1, f3⟩ := T1.cells
  have T2 := T1.setNext 2
  clear hb'
  go_wp2
  go_ret
  exact ⟨rfl, T2, B1.setCell (p := ⟨b, 0, none⟩) (Nat.le_refl _) _⟩

set_option maxRecDepth 100000 in
set_option maxHeartbeats 1000000 in
theorem take2 (b : Nat) (st : St) (c : UInt8) (at_ : Nat) (w : World) (h : TextAt b st w) (hn : st.next = 2) (hls : st.labs.length ≤ 100) :
    Calls Tryz.prog 116 #[.pointer (some ⟨b, 0, none⟩), .int .u8 (c.toNat : Int), .int .i64 (at_ : Int)] w fun e w' => e = .returned (.bool (decide (c.toNat = 34))) ∧ TextAt b { st with next := 3 } w' ∧ Below b w w' := by
  obtain ⟨a, cp, hb, c0, c1, c3, f0, f1, f3⟩ := h.cells
  rw [hn] at c0
  have T1 : TextAt b { st with next := 3 } (w.setCell ⟨b, 0, none⟩ (.int .i64 3)) := h.setNext 3
  clear hb hn
  go_enter Tryz.func116, Tryz.ntmps116
  go_wp2
  go_ret
  refine ⟨ret_b ?_, T1, (Below.refl b w).setCell (p := ⟨b, 0, none⟩) (Nat.le_refl _) _⟩
  rw [Bool.eq_iff_iff]; simp; omega

set_option maxRecDepth 100000 in
set_option maxHeartbeats 1000000 in
theorem take3_quote (b : Nat) (st : St) (c : UInt8) (at_ : Nat) (w : World) (h : TextAt b st w) (hn : st.next = 3) (hls : st.labs.length ≤ 100) (hc : c.toNat = 34) :
    Calls Tryz.prog 116 #[.pointer (some ⟨b, 0, none⟩), .int .u8 (c.toNat : Int), .int .i64 (at_ : Int)] w fun e w' => e = .returned (.bool true) ∧ TextAt b { st with next := 5, long := 0 } w' ∧ Below b w w' := by
  obtain ⟨a, cp, hb, c0, c1, c3, f0, f1, f3⟩ := h.cells
  rw [hn] at c0
  have T1 : TextAt b { st with next := 5 } (w.setCell ⟨b, 0, none⟩ (.int .i64 5)) := h.setNext 5
  have T2 := T1.setLong 0
  have h34 : ((c.toNat : Int) == 34) = true := by simp; omega
  clear hb hn hc
  go_enter Tryz.func116, Tryz.ntmps116
  go_wp2
  go_ret
  exact ⟨rfl, T2, ((Below.refl b w).setCell (p := ⟨b, 0, none⟩) (Nat.le_refl _) _).setCell (p := ⟨b, 1, none⟩) (Nat.le_refl _) _⟩

set_option maxRecDepth 100000 in
set_option maxHeartbeats 1000000 in
theorem take5_end (b : Nat) (st : St) (c : UInt8) (at_ : Nat) (w : World) (h : TextAt b st w) (hn : st.next = 5) (hls : st.labs.length ≤ 100) (hc : ¬ (c.toNat = 44 ∧ st.labs.length ≤ 2)) :
    Calls Tryz.prog 116 #[.pointer (some ⟨b, 0, none⟩), .int .u8 (c.toNat : Int), .int .i64 (at_ : Int)] w fun e w' => e = .returned (.bool (decide (c.toNat = 125))) ∧ TextAt b { st with next := 6 } w' ∧ Below b w w' := by
  obtain ⟨a, cp, hb, c0, c1, c3, f0, f1, f3⟩ := h.cells
  rw [hn] at c0
  have T1 : TextAt b { st with next := 6 } (w.setCell ⟨b, 0, none⟩ (.int .i64 6)) := h.setNext 6
  clear hb hn
  by_cases h44 : c.toNat = 44
  · have h44' : ((c.toNat : Int) == 44) = true := by simp; omega
    have hk : ¬ (st.labs.length : Int) - 1 < 2 := by omega
    have HE : Hid (c.toNat = 44) := h44
    clear hc h44
    go_enter Tryz.func116, Tryz.ntmps116
    go_wp2
    go_ret
    refine ⟨ret_b ?_, T1, (Below.refl b w).setCell (p := ⟨b, 0, none⟩) (Nat.le_refl _) _⟩
    have := HE.out
    rw [Bool.eq_iff_iff]; simp; omega
  · have h44' : ((c.toNat : Int) == 44) = false := by simp; omega
    clear hc h44
    go_enter Tryz.func116, Tryz.ntmps116
    go_wp2
    go_ret
    refine ⟨ret_b ?_, T1, (Below.refl b w).setCell (p := ⟨b, 0, none⟩) (Nat.le_refl _) _⟩
    rw [Bool.eq_iff_iff]; simp; omega

set_option maxRecDepth 100000 in
set_option maxHeartbeats 1000000 in
theorem take6 (b : Nat) (st : St) (c : UInt8) (at_ : Nat) (w : World) (h : TextAt b st w) (hn : st.next = 6) (hls : st.labs.length ≤ 100) :
    Calls Tryz.prog 116 #[.pointer (some ⟨b, 0, none⟩), .int .u8 (c.toNat : Int), .int .i64 (at_ : Int)] w fun e w' => e = .returned (.bool false) ∧ Below b w w' := by
  obtain ⟨a, cp, hb, c0, c1, c3, f0, f1, f3⟩ := h.cells
  rw [hn] at c0
  clear hb hn
  go_enter Tryz.func116, Tryz.ntmps116
  go_wp2
  go_ret
  exact ⟨rfl, Below.refl _ _⟩

end Go.Proofs.YtcfdemhokbddiaaGreatDoor

/-
  The document's own reader: a comma between labels; the step whole, at every state.
-/
namespace Go.Proofs.YtcfdemhokbddiaaGreatDoor
open Go.RowKit

set_option maxRecDepth 100000 in
set_option maxHeartbeats 1000000 in
theorem take5_comma (b : Nat) (st : St) (c : UInt8) (at_ : Nat) (w : World) (h : TextAt b st w) (hn : st.next = 5) (hc : c.toNat = 44) (hat : at_ ≤ 1000) (hls : st.labs.length ≤ 2) :
    Calls Tryz.prog 116 #[.pointer (some ⟨b, 0, none⟩), .int .u8 (c.toNat : Int), .int .i64 (at_ : Int)] w fun e w' => e = .returned (.bool true) ∧
      TextAt b { st with next := 1, labs := st.labs ++ [⟨[], [], at_ + 1⟩] } w' ∧ Below b w w' := by
  have T1 : TextAt b { st with next := 1 } (w.setCell ⟨b, 0, none⟩ (.int .i64 1)) := h.setNext 1
  obtain ⟨a, cp, hb, own⟩ := h
  have c0 : w.cell? ⟨b, 0, none⟩ = some (.int .i64 5) := by simp [World.cell?, hb, hn]
  have f0 : w.frozen? ⟨b, 0, none⟩ = false := by simp [World.frozen?, hb]
  have c3 : w.cell? ⟨b, 3, none⟩ = some (.slice a st.labs.length cp) := by simp [World.cell?, hb]
  obtain ⟨i0, hi, hz0, hz1, hz2⟩ := info_parts Tryz.info62
  have HI : Hid (Tryz.prog.info? 202 = some i0 ∧ i0.zero = some (.agg #[.string ⟨#[]⟩, .string ⟨#[]⟩, .int .i64 0]) ∧ i0.size = 3 ∧ i0.bytes = 40) := ⟨hi, hz0, hz1, hz2⟩
  have h44 : ((c.toNat : Int) == 44) = true := by simp; omega
  have hk : (st.labs.length : Int) - 1 < 2 := by omega
  have hbl : b < w.heap.size := lt_of hb
  have hb2 : (w.setCell ⟨b, 0, none⟩ (.int .i64 1)).heap[b]? = some (.cells #[.int .i64 1, .int .i64 (st.long : Int), .string (B st.name), .slice a st.labs.length cp] 199) := by rw [text_set hb]; rfl
  have own2 : (w.setCell ⟨b, 0, none⟩ (.int .i64 1)).ownsRow (b + 1) 202 3 (.slice a st.labs.length cp) st.labs.length (labCells st.labs) := own_set own (by omega)
  have B2 : Below b w (w.setCell ⟨b, 0, none⟩ (.int .i64 1)) := (Below.refl b w).setCell (p := ⟨b, 0, none⟩) (Nat.le_refl _) _
  have e3 : (w.setCell ⟨b, 0, none⟩ (.int .i64 1)).cell? ⟨b, 3, none⟩ = some (.slice a st.labs.length cp) := by simp [World.cell?, hb2]
  have hsz : (w.setCell ⟨b, 0, none⟩ (.int .i64 1)).heap.size = w.heap.size := by simp [World.setCell]
  clear hn hc hi hz0 hz1 hz2 T1
  go_enter Tryz.func116, Tryz.ntmps116
  go_wp2_with (at_builtin; refine wpList_append_own _ rfl _ _ 197 rfl (b + 1) 202 i0 (.agg #[.string ⟨#[]⟩, .string ⟨#[]⟩, .int .i64 0]) 3 40 Tryz.underlying197 HI.out.1 HI.out.2.1 HI.out.2.2.1 HI.out.2.2.2 rfl (by decide) _ _ _ rfl (own2.alloc _) ⟨w.heap.size, 0, none⟩ 1 1 [.string ⟨#[]⟩, .string ⟨#[]⟩, .int .i64 ((at_ : Int) + 1)] rfl rfl ?c1 ?c2 ?c3 ?c4 ?c5 ?_)
  case c1 =>
    intro j u hj
    have hnew := alloc_new (w.setCell ⟨b, 0, none⟩ (.int .i64 1)) (.cells #[.string ⟨#[]⟩, .string ⟨#[]⟩, .int .i64 ((at_ : Int) + 1)] 202) w.heap.size hsz.symm
    rw [Addr.add_lit, Lib.cell_of_heap hnew]
    simpa using hj
  case c2 => intro u hu; simp at hu; rcases hu with rfl | rfl <;> rfl
  case c3 => unfold maxLen; omega
  case c4 => omega
  case c5 => simp [hsz]; omega
  intro v' w2 hown2 hgr _
  have hrow : ∀ k, Value.ownBlock (.slice a st.labs.length cp) = some k → b + 1 ≤ k := fun k hk => (own2.lt k hk).1
  have hb3 : w2.heap[b]? = some (.cells #[.int .i64 1, .int .i64 (st.long : Int), .string (B st.name), .slice a st.labs.length cp] 199) := by
    rw [hgr.block b (by simp [hsz]; omega) (fun e => by have := hrow b e.symm; omega)]; exact alloc_keep hb2 _
  have B3 : Below b w w2 := (B2.alloc (by omega) _).grown hgr (by simp [hsz]; omega) (fun k hk => by have := hrow k hk; omega)
  have hx : labCells st.labs ++ [.string ⟨#[]⟩, .string ⟨#[]⟩, .int .i64 ((at_ : Int) + 1)] = labCells (st.labs ++ [⟨[], [], at_ + 1⟩]) := by simp [labCells, Lab.cells, B]
  rw [hx] at hown2
  obtain ⟨g, cap, rfl⟩ : ∃ g cap, v' = .slice (some ⟨g, 0, none⟩) (st.labs.length + 1) cap := by
    rcases hown2.2 with ⟨_, h0⟩ | ⟨g', cap', cur', hv', _⟩
    · omega
    · exact ⟨g', cap', hv'⟩
  have c3' : w2.cell? ⟨b, 3, none⟩ = some (.slice a st.labs.length cp) := by simp [World.cell?, hb3]
  have f3' : w2.frozen? ⟨b, 3, none⟩ = false := by simp [World.frozen?, hb3]
  have hbl2 : b < w2.heap.size := lt_of hb3
  clear hx hgr hrow own2 own B2 hb2 hb c0 f0 c3 e3 hsz
  go_wp2
  go_ret
  refine ⟨rfl, ⟨some ⟨g, 0, none⟩, cap, ?_, ?_⟩, ?_⟩
  · rw [text_set hb3]; simp
  · have := own_set (R := b) (o := 3) (x := .slice (some ⟨g, 0, none⟩) (st.labs.length + 1) cap) hown2 (by omega)
    simpa using this
  · exact B3.setCell (p := ⟨b, 3, none⟩) (Nat.le_refl _) _

/-- What holds of the document's reader behind k bytes. -/
structure Inv (k : Nat) (st : St) : Prop where
  long : st.long ≤ k
  name : st.name.length ≤ k
  len : st.labs.length ≤ k
  each : ∀ x ∈ st.labs, x.name.length ≤ k ∧ x.val.length ≤ k
  some : 1 ≤ st.next → st.next ≤ 4 → st.labs ≠ []
  next : st.next ≤ 6

theorem snoc_of {l : List Lab} (h : l ≠ []) : ∃ a x, l = a ++ [x] := ⟨l.dropLast, l.getLast h, (List.dropLast_concat_getLast h).symm⟩

theorem modLast_inv (k : Nat) (f : Lab → Lab) (l : List Lab) (hf : ∀ x, x.name.length ≤ k → x.val.length ≤ k → (f x).name.length ≤ k + 1 ∧ (f x).val.length ≤ k + 1) (h : ∀ x ∈ l, x.name.length ≤ k ∧ x.val.length ≤ k) :
    (modLast f l).length = l.length ∧ ∀ x ∈ modLast f l, x.name.length ≤ k + 1 ∧ x.val.length ≤ k + 1 := by
  by_cases hl : l = []
  · subst hl; simp [modLast]
  · obtain ⟨a, x, rfl⟩ := snoc_of hl
    rw [modLast_snoc]
    refine ⟨by simp, fun y hy => ?_⟩
    simp at hy
    rcases hy with hy | rfl
    · have := h y (by simp [hy]); omega
    · have := h x (by simp); exact hf x this.1 this.2

theorem step_inv (k at_ : Nat) (st st' : St) (c : UInt8) (h : Inv k st) (hs : stepR st c at_ = some st') : Inv (k + 1) st' := by
  obtain ⟨h1, h2, h3, h4, h5, h6⟩ := h
  have hN := modLast_inv k (fun x => { x with name := x.name ++ [c] }) st.labs (fun x a b => by simp; omega) h4
  have hV := modLast_inv k (fun x => { x with val := x.val ++ [c] }) st.labs (fun x a b => by simp; omega) h4
  have hE : ∀ x ∈ st.labs, x.name.length ≤ k + 1 ∧ x.val.length ≤ k + 1 := fun x hx => by have := h4 x hx; omega
  have hA : ∀ x ∈ st.labs ++ [(⟨[], [], at_ + 1⟩ : Lab)], x.name.length ≤ k + 1 ∧ x.val.length ≤ k + 1 := fun x hx => by
    simp at hx
    rcases hx with hx | rfl
    · exact hE x hx
    · simp
  have hne : ∀ f, st.labs ≠ [] → modLast f st.labs ≠ [] := fun f h e => by
    obtain ⟨a, x, e2⟩ := snoc_of h
    rw [e2, modLast_snoc] at e; simp at e
  unfold stepR at hs
  split at hs
  all_goals (repeat' split at hs) <;> simp only [Option.some.injEq, reduceCtorEq] at hs
  all_goals subst hs
  all_goals constructor <;> simp only
  all_goals first
    | omega
    | (simp; omega)
    | exact hE
    | exact hA
    | exact hN.2
    | exact hV.2
    | (rw [hN.1]; omega)
    | (rw [hV.1]; omega)
    | (intro _ _; exact hne _ (h5 (by omega) (by omega)))
    | (intro _ _; exact h5 (by omega) (by omega))
    | (intro _ _; simp)
    | (intro _ _; omega)
    | (split <;> omega)

theorem step_any (k b : Nat) (st : St) (c : UInt8) (at_ : Nat) (w : World) (h : TextAt b st w) (hI : Inv k st) (hk : k ≤ 100) (hat : at_ ≤ 1000) :
    Calls Tryz.prog 116 #[.pointer (some ⟨b, 0, none⟩), .int .u8 (c.toNat : Int), .int .i64 (at_ : Int)] w fun e w' => e = .returned (.bool (stepR st c at_).isSome) ∧ (∀ st', stepR st c at_ = some st' → TextAt b st' w') ∧ Below b w w' := by
  obtain ⟨h1, h2, h3, h4, h5, h6⟩ := hI
  obtain ⟨next, long, name, labs⟩ := st
  simp only at h1 h2 h3 h4 h5 h6
  have yes : ∀ (st' : St), stepR ⟨next, long, name, labs⟩ c at_ = some st' → (∀ (e : Ending) (w' : World), (e = .returned (.bool true) ∧ TextAt b st' w' ∧ Below b w w') → (e = .returned (.bool (stepR ⟨next, long, name, labs⟩ c at_).isSome) ∧ (∀ st', stepR ⟨next, long, name, labs⟩ c at_ = some st' → TextAt b st' w') ∧ Below b w w')) := by
    rintro st' hs e w' ⟨rfl, a1, a2⟩
    exact ⟨by rw [hs]; rfl, (fun st'' e => by rw [hs] at e; cases e; exact a1), a2⟩
  have no : stepR ⟨next, long, name, labs⟩ c at_ = none → (∀ (e : Ending) (w' : World), (e = .returned (.bool false) ∧ Below b w w') → (e = .returned (.bool (stepR ⟨next, long, name, labs⟩ c at_).isSome) ∧ (∀ st', stepR ⟨next, long, name, labs⟩ c at_ = some st' → TextAt b st' w') ∧ Below b w w')) := by
    rintro hs e w' ⟨rfl, a2⟩
    exact ⟨by rw [hs]; rfl, (fun st'' e => by rw [hs] at e; cases e), a2⟩
  have hn : next = 0 ∨ next = 1 ∨ next = 2 ∨ next = 3 ∨ next = 4 ∨ next = 5 ∨ next = 6 := by omega
  rcases hn with rfl | rfl | rfl | rfl | rfl | rfl | rfl
  · by_cases hg : goesB long (c.toNat : Int) = true
    · have hs : stepR ⟨0, long, name, labs⟩ c at_ = some ⟨0, long + 1, name ++ [c], labs⟩ := by simp [stepR, hg]
      exact (take0_yes b ⟨0, long, name, labs⟩ c at_ w h rfl (by show long ≤ 100; omega) hg (by show name.length ≤ 1000; omega)).mono (yes _ hs)
    · have hg' : goesB long (c.toNat : Int) = false := by simpa using hg
      by_cases h0 : 0 < long ∧ c.toNat = 123
      · have hs : stepR ⟨0, long, name, labs⟩ c at_ = some ⟨1, 0, name, labs ++ [⟨[], [], at_ + 1⟩]⟩ := by
          unfold stepR; simp only; rw [if_neg hg, if_pos h0]
        exact (take0_sign b ⟨0, long, name, labs⟩ c at_ w h rfl (by show long ≤ 100; omega) hg' h0.1 h0.2 hat (by show labs.length ≤ 100; omega)).mono (yes _ hs)
      · have hs : stepR ⟨0, long, name, labs⟩ c at_ = none := by
          unfold stepR; simp only; rw [if_neg hg, if_neg h0]
        exact (take01_no b 0 ⟨0, long, name, labs⟩ c at_ w h rfl (Or.inl rfl) (by show long ≤ 100; omega) (by show labs.length ≤ 100; omega) hg' (by show long = 0 ∨ _; omega)).mono (no hs)
  · obtain ⟨a, x, rfl⟩ := snoc_of (h5 (by omega) (by omega))
    have hx := h4 x (by simp)
    have hal : a.length ≤ 100 := by simp at h3; omega
    by_cases hg : goesB long (c.toNat : Int) = true
    · have hs : stepR ⟨1, long, name, a ++ [x]⟩ c at_ = some ⟨1, long + 1, name, a ++ [{ x with name := x.name ++ [c] }]⟩ := by simp [stepR, hg, modLast_snoc]
      obtain ⟨g, cp, hT⟩ := TextL.of h rfl
      refine (take1_yes b g cp ⟨1, long, name, []⟩ a x c at_ w hT (by show long ≤ 100; omega) hg (by omega) hal).mono ?_
      rintro e w' ⟨e1, e2, e3⟩
      exact yes _ hs e w' ⟨e1, e2.to, e3⟩
    · have hg' : goesB long (c.toNat : Int) = false := by simpa using hg
      by_cases h0 : 0 < long ∧ c.toNat = 61
      · have hs : stepR ⟨1, long, name, a ++ [x]⟩ c at_ = some ⟨2, 0, name, a ++ [x]⟩ := by
          unfold stepR; simp only; rw [if_neg hg, if_pos h0]
        exact (take1_sign b ⟨1, long, name, a ++ [x]⟩ c at_ w h rfl (by show long ≤ 100; omega) (by show (a ++ [x]).length ≤ 100; omega) hg' h0.1 h0.2).mono (yes _ hs)
      · have hs : stepR ⟨1, long, name, a ++ [x]⟩ c at_ = none := by
          unfold stepR; simp only; rw [if_neg hg, if_neg h0]
        exact (take01_no b 1 ⟨1, long, name, a ++ [x]⟩ c at_ w h rfl (Or.inr rfl) (by show long ≤ 100; omega) (by show (a ++ [x]).length ≤ 100; omega) hg' (by show long = 0 ∨ _; omega)).mono (no hs)
  · refine (take2 b ⟨2, long, name, labs⟩ c at_ w h rfl (by show labs.length ≤ 100; omega)).mono ?_
    rintro e w' ⟨rfl, e2, e3⟩
    by_cases hc : c.toNat = 34
    · have hs : stepR ⟨2, long, name, labs⟩ c at_ = some ⟨3, long, name, labs⟩ := by simp [stepR, hc]
      exact yes _ hs _ w' ⟨by simp [hc], e2, e3⟩
    · have hs : stepR ⟨2, long, name, labs⟩ c at_ = none := by simp [stepR, hc]
      exact no hs _ w' ⟨by simp [hc], e3⟩
  · obtain ⟨a, x, rfl⟩ := snoc_of (h5 (by omega) (by omega))
    have hx := h4 x (by simp)
    have hal : a.length ≤ 100 := by simp at h3; omega
    by_cases hc : c.toNat = 34
    · have hs : stepR ⟨3, long, name, a ++ [x]⟩ c at_ = some ⟨5, 0, name, a ++ [x]⟩ := by simp [stepR, hc]
      exact (take3_quote b ⟨3, long, name, a ++ [x]⟩ c at_ w h rfl (by show (a ++ [x]).length ≤ 100; omega) hc).mono (yes _ hs)
    · obtain ⟨g, cp, hT⟩ := TextL.of h rfl
      by_cases h92 : c.toNat = 92
      · refine (take3_esc b g cp ⟨3, long, name, []⟩ a x c at_ w hT (by omega) hal (by show long ≤ 100; omega) h92).mono ?_
        rintro e w' ⟨rfl, e2, e3⟩
        by_cases hl : long + 1 ≤ 16
        · have hs : stepR ⟨3, long, name, a ++ [x]⟩ c at_ = some ⟨4, long + 1, name, a ++ [{ x with val := x.val ++ [c] }]⟩ := by simp [stepR, h92, modLast_snoc]; omega
          exact yes _ hs _ w' ⟨by simp; omega, e2.to, e3⟩
        · have hs : stepR ⟨3, long, name, a ++ [x]⟩ c at_ = none := by simp [stepR, hc]; omega
          exact no hs _ w' ⟨by simp; omega, e3⟩
      · refine (take3_byte b g cp ⟨3, long, name, []⟩ a x c at_ w hT (by omega) hal (by show long ≤ 100; omega) h92 hc).mono ?_
        rintro e w' ⟨rfl, e2, e3⟩
        by_cases hl : long + 1 ≤ 16
        · have hs : stepR ⟨3, long, name, a ++ [x]⟩ c at_ = some ⟨3, long + 1, name, a ++ [{ x with val := x.val ++ [c] }]⟩ := by simp [stepR, h92, hc, modLast_snoc]; omega
          exact yes _ hs _ w' ⟨by simp; omega, e2.to, e3⟩
        · have hs : stepR ⟨3, long, name, a ++ [x]⟩ c at_ = none := by simp [stepR, hc]; omega
          exact no hs _ w' ⟨by simp; omega, e3⟩
  · obtain ⟨a, x, rfl⟩ := snoc_of (h5 (by omega) (by omega))
    have hx := h4 x (by simp)
    have hal : a.length ≤ 100 := by simp at h3; omega
    obtain ⟨g, cp, hT⟩ := TextL.of h rfl
    refine (take4 b g cp ⟨4, long, name, []⟩ a x c at_ w hT (by omega) hal).mono ?_
    rintro e w' ⟨rfl, e2, e3⟩
    by_cases hc : c.toNat = 34 ∨ c.toNat = 92 ∨ c.toNat = 110
    · have hs : stepR ⟨4, long, name, a ++ [x]⟩ c at_ = some ⟨3, long, name, a ++ [{ x with val := x.val ++ [c] }]⟩ := by simp [stepR, hc, modLast_snoc]
      exact yes _ hs _ w' ⟨by simp [hc], e2.to, e3⟩
    · have hs : stepR ⟨4, long, name, a ++ [x]⟩ c at_ = none := by simp [stepR, hc]
      exact no hs _ w' ⟨by simp [hc], e3⟩
  · by_cases hc : c.toNat = 44 ∧ labs.length ≤ 2
    · have hs : stepR ⟨5, long, name, labs⟩ c at_ = some ⟨1, long, name, labs ++ [⟨[], [], at_ + 1⟩]⟩ := by simp [stepR, hc]
      exact (take5_comma b ⟨5, long, name, labs⟩ c at_ w h rfl hc.1 hat hc.2).mono (yes _ hs)
    · refine (take5_end b ⟨5, long, name, labs⟩ c at_ w h rfl (by show labs.length ≤ 100; omega) hc).mono ?_
      rintro e w' ⟨rfl, e2, e3⟩
      by_cases h125 : c.toNat = 125
      · have hs : stepR ⟨5, long, name, labs⟩ c at_ = some ⟨6, long, name, labs⟩ := by simp [stepR, h125]
        exact yes _ hs _ w' ⟨by simp [h125], e2, e3⟩
      · have hs : stepR ⟨5, long, name, labs⟩ c at_ = none := by simp only [stepR, hc, h125, if_false]
        exact no hs _ w' ⟨by simp [h125], e3⟩
  · exact (take6 b ⟨6, long, name, labs⟩ c at_ w h rfl (by show labs.length ≤ 100; omega)).mono (no rfl)

end Go.Proofs.YtcfdemhokbddiaaGreatDoor

/-
  The document's own plain value; what its reading comes to, as plain functions.
-/
namespace Go.Proofs.YtcfdemhokbddiaaGreatDoor
open Go.RowKit

def pvB (c : UInt8) : List UInt8 := if c.toNat = 10 then [92, 110] else [c]
def plainV (l : List UInt8) : List UInt8 := l.flatMap pvB
theorem plainV_len (l : List UInt8) : (plainV l).length ≤ 2 * l.length := by
  induction l with
  | nil => simp [plainV]
  | cons c l ih =>
    have : (pvB c).length ≤ 2 := by unfold pvB; split <;> simp
    simp [plainV] at ih ⊢; omega

theorem two_bytes (w : World) (g cap : Nat) (h0 : w.cell? ⟨g, 0, none⟩ = some (.int .u8 92)) (h1 : w.cell? ⟨g, 1, none⟩ = some (.int .u8 110)) :
    (convert 133 9 (.slice (some ⟨g, 0, none⟩) 2 cap)).run Tryz.prog w = .ok (.string (B [92, 110])) w :=
  run_convert_bytes_back w 133 9 5 ⟨g, 0, none⟩ cap [92, 110] Tryz.underlying133 Tryz.underlying5 Tryz.underlying9 (fun j hj => by
    match j, hj with
    | 0, _ => simpa [Addr.add] using h0
    | 1, _ => simpa [Addr.add] using h1)

set_option maxHeartbeats 400000 in
theorem plainValue_any (v : List UInt8) (w : World) (hv : v.length ≤ 1000) :
    Calls Tryz.prog 117 #[.string (B v)] w fun e w' => e = .returned (.string (B (plainV v))) ∧ Below w.heap.size w w' := by
  have hsz := B_size v
  have HSZ : Hid ((B v).size = v.length) := hsz
  clear hsz
  go_enter Tryz.func117, Tryz.ntmps117
  go_wp2
  go_loopw [3, 4] (fun o i wr => ∃ k : Nat, k ≤ v.length ∧ i = .int .i64 (k : Int) ∧ o = .string (B (plainV (v.take k))) ∧ Below w.heap.size w wr) (fun _ i _ => 1000 - (intOf i).toNat)
  case atStart => exact ⟨0, Nat.zero_le _, rfl, rfl, Below.refl _ _⟩
  case round =>
    obtain ⟨k, hk, rfl, rfl, hB⟩ := hrel
    by_cases hlt : k < v.length
    · have hlt' : (k : Int) < ((B v).size : Int) := by rw [HSZ.out]; omega
      have hlt2 : k < (B v).size := by rw [HSZ.out]; omega
      have hpl := plainV_len (v.take k)
      have hpl' : (plainV (v.take k)).length ≤ 2000 := by simp at hpl; omega
      have HT : Hid (v.take (k + 1) = v.take k ++ [v[k]]) := List.take_succ_eq_append_getElem hlt
      by_cases h10 : v[k].toNat = 10
      · have e10 : (((B v)[k].toNat : Int) == 10) = true := by
          have : (B v)[k] = v[k] := rfl
          rw [this]; simp; omega
        have hadd := add_lists (plainV (v.take k)) [92, 110] (by omega) (by simp)
        have hcv : (convert 133 9 (.slice (some ⟨wr.heap.size, 0, none⟩) 2 2)).run Tryz.prog (wr.alloc (.cells #[.int .u8 92, .int .u8 110] 5)) = .ok (.string (B [92, 110])) (wr.alloc (.cells #[.int .u8 92, .int .u8 110] 5)) := two_bytes _ _ _ (by simp) (by simp)
        have H10 : Hid (v[k].toNat = 10) := h10
        clear h10 hpl
        go_wp2
        go_roundw
        case rel =>
          refine ⟨k + 1, by omega, by go_num, ?_, hB.alloc (by have := hB.size; omega) _⟩
          rw [HT.out]; simp [plainV, pvB, H10.out]
        case measure => simp [intOf]; omega
      · have e10 : (((B v)[k].toNat : Int) == 10) = false := by
          have : (B v)[k] = v[k] := rfl
          rw [this]; simp; omega
        have hsl : (B v).extract k (k + 1) = B [v[k]] := by
          rw [extract_B]
          show B ((v.drop k).take 1) = _
          rw [List.drop_eq_getElem_cons hlt]; rfl
        have hadd := add_lists (plainV (v.take k)) [v[k]] (by omega) (by simp)
        have H10 : Hid (v[k].toNat ≠ 10) := h10
        clear h10 hpl
        go_wp2
        go_roundw
        case rel =>
          refine ⟨k + 1, by omega, by go_num, ?_, hB⟩
          rw [HT.out]; simp [plainV, pvB, H10.out]
        case measure => simp [intOf]; omega
    · have hge : ¬ (k : Int) < ((B v).size : Int) := by rw [HSZ.out]; omega
      have HEQ : Hid (v.take k = v) := List.take_of_length_le (by omega)
      go_wp2
      go_ret
      exact ⟨by rw [HEQ.out]; rfl, hB⟩

def st0 : St := ⟨0, 0, [], []⟩
/-- The document's reader over all bytes: the place at which it stops, or where it stands at the end. -/
def runR : St → Nat → List UInt8 → Except Nat St
  | st, _, [] => .ok st
  | st, i, c :: l => match stepR st c i with
    | none => .error i
    | some st' => runR st' (i + 1) l
/-- The text ends too early. -/
def badEnd (st : St) : Bool := st.next != 6 && (st.next != 0 || st.name.isEmpty)

/-- The least of the first k names that are above last: its place. -/
def bestTo (last : List UInt8) (ls : List Lab) : Nat → Option Nat
  | 0 => none
  | k + 1 => if h : k < ls.length then
      (match bestTo last ls k with
      | none => if lt last (ls[k]).name then some k else none
      | some j => if lt last (ls[k]).name && lt (ls[k]).name ((ls[j]?.getD ⟨[], [], 0⟩).name) then some k else some j)
    else bestTo last ls k

theorem best_spec (last : List UInt8) (ls : List Lab) (k : Nat) (hk : k ≤ ls.length) :
    (bestTo last ls k = none ∧ ∀ j (h : j < ls.length), j < k → lt last (ls[j]).name = false) ∨
    (∃ j, ∃ h : j < ls.length, bestTo last ls k = some j ∧ j < k ∧ lt last (ls[j]).name = true ∧ ∀ i (hi : i < ls.length), i < k → lt last (ls[i]).name = true → lt (ls[i]).name (ls[j]).name = false) := by
  induction k with
  | zero => left; exact ⟨rfl, fun j h hj => by omega⟩
  | succ k ih =>
    have hk' : k < ls.length := by omega
    rcases ih (by omega) with ⟨h1, h2⟩ | ⟨j, hj, h1, h2, h3, h4⟩
    · cases hl : lt last (ls[k]).name with
      | false =>
        left
        refine ⟨by simp [bestTo, hk', h1, hl], fun i hi hik => ?_⟩
        by_cases e : i = k
        · subst e; exact hl
        · exact h2 i hi (by omega)
      | true =>
        right
        refine ⟨k, hk', by simp [bestTo, hk', h1, hl], by omega, hl, fun i hi hik hlt => ?_⟩
        by_cases e : i = k
        · subst e; exact lt_irrefl _
        · have := h2 i hi (by omega); rw [this] at hlt; cases hlt
    · right
      cases hb : (lt last (ls[k]).name && lt (ls[k]).name (ls[j]).name) with
      | true =>
        simp only [Bool.and_eq_true] at hb
        refine ⟨k, hk', by simp [bestTo, hk', h1, hj, hb], by omega, hb.1, fun i hi hik hlt => ?_⟩
        by_cases e : i = k
        · subst e; exact lt_irrefl _
        · have hij := h4 i hi (by omega) hlt
          cases hx : lt (ls[i]).name (ls[k]).name with
          | false => rfl
          | true => have := lt_trans _ _ _ hx hb.2; rw [hij] at this; cases this
      | false =>
        have hb' : ¬ (lt last (ls[k]).name = true ∧ lt (ls[k]).name (ls[j]).name = true) := by
          intro h; rw [h.1, h.2] at hb; cases hb
        refine ⟨j, hj, by simp [bestTo, hk', h1, hj]; intro a b; exact absurd ⟨a, b⟩ hb', by omega, h3, fun i hi hik hlt => ?_⟩
        by_cases e : i = k
        · subst e
          cases hx : lt (ls[i]).name (ls[j]).name with
          | false => rfl
          | true => exact absurd ⟨hlt, hx⟩ hb'
        · exact h4 i hi (by omega) hlt

/-- The name that was written last. -/
def lastOf (r : List Lab) (n : Nat) : List UInt8 := if n = 0 then [] else (r[n - 1]?.getD ⟨[], [], 0⟩).name

/-- Of the labels whose names are above the last one written, the least is the next of the sorted ones. -/
theorem best_next (ls r : List Lab) (n : Nat) (hs : Srt r) (hm : ∀ x, x ∈ ls ↔ x ∈ r) (hn : n < r.length) (hne : ∀ x ∈ r, x.name ≠ []) :
    ∃ j, ∃ h : j < ls.length, bestTo (lastOf r n) ls ls.length = some j ∧ ls[j] = r[n] := by
  have hlast : lt (lastOf r n) (r[n]).name = true := by
    unfold lastOf
    split
    · have := hne r[n] (List.getElem_mem hn)
      cases hc : (r[n]).name with
      | nil => exact absurd hc this
      | cons a b => rfl
    · rw [List.getElem?_eq_getElem (by omega)]
      exact hs.get (n - 1) n hn (by omega)
  obtain ⟨j0, hj0, e0⟩ := List.getElem_of_mem ((hm r[n]).2 (List.getElem_mem hn))
  rcases best_spec (lastOf r n) ls ls.length (Nat.le_refl _) with ⟨_, h2⟩ | ⟨j, hj, h1, h2, h3, h4⟩
  · have := h2 j0 hj0 hj0
    rw [e0, hlast] at this; cases this
  · refine ⟨j, hj, h1, ?_⟩
    obtain ⟨m, hmr, em⟩ := List.getElem_of_mem ((hm ls[j]).1 (List.getElem_mem hj))
    have hmn : n ≤ m := by
      rcases Nat.lt_or_ge m n with h | h
      · exfalso
        rw [← em] at h3
        unfold lastOf at h3
        rw [if_neg (by omega), List.getElem?_eq_getElem (by omega)] at h3
        simp only [Option.getD_some] at h3
        by_cases e : m = n - 1
        · subst e; rw [lt_irrefl] at h3; cases h3
        · have := lt_trans _ _ _ h3 (hs.get m (n - 1) (by omega) (by omega))
          rw [lt_irrefl] at this; cases this
      · exact h
    have hnm : ¬ n < m := fun h => by
      have h5 := hs.get n m hmr h
      have h6 := h4 j0 hj0 hj0 (by rw [e0]; exact hlast)
      rw [e0, ← em, h5] at h6; cases h6
    have : m = n := by omega
    subst this
    exact em.symm

def labQ (x : Lab) : List UInt8 := x.name ++ [61, 34] ++ plainV x.val ++ [34]
def outQ : UInt8 → List Lab → List UInt8
  | _, [] => []
  | a, x :: ls => a :: labQ x ++ outQ 44 ls
def plainQ (nm : List UInt8) (ls : List Lab) : List UInt8 := nm ++ outQ 123 ls ++ (if ls.isEmpty then [] else [125])

end Go.Proofs.YtcfdemhokbddiaaGreatDoor
