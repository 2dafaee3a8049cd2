/-
  The document's own reader: one byte more.
-/
import Derived.Test.YtcfdemhokbddiaaP
namespace Go.Proofs.Ytcfdemhokbddiaa
open Go.RowKit

def modLast (f : Lab → Lab) : List Lab → List Lab
  | [] => []
  | [x] => [f x]
  | x :: y :: ls => x :: modLast f (y :: ls)
theorem modLast_snoc (f : Lab → Lab) (a : List Lab) (x : Lab) : modLast f (a ++ [x]) = a ++ [f x] := by
  induction a with
  | nil => rfl
  | cons y a ih =>
    cases a with
    | nil => rfl
    | cons z a => simp [modLast] at ih ⊢; exact ih

def stepR (st : St) (c : UInt8) (at_ : Nat) : Option St :=
  match st.next with
  | 0 => if goesB st.long (c.toNat : Int) = true then some { st with long := st.long + 1, name := st.name ++ [c] }
      else if 0 < st.long ∧ c.toNat = 123 then some { st with next := 1, long := 0, labs := st.labs ++ [⟨[], [], at_ + 1⟩] } else none
  | 1 => if goesB st.long (c.toNat : Int) = true then some { st with long := st.long + 1, labs := modLast (fun x => { x with name := x.name ++ [c] }) st.labs }
      else if 0 < st.long ∧ c.toNat = 61 then some { st with next := 2, long := 0 } else none
  | 2 => if c.toNat = 34 then some { st with next := 3 } else none
  | 3 => if c.toNat = 34 then some { st with next := 5, long := 0 }
      else if st.long + 1 ≤ 16 then some { st with next := if c.toNat = 92 then 4 else 3, long := st.long + 1, labs := modLast (fun x => { x with val := x.val ++ [c] }) st.labs } else none
  | 4 => if c.toNat = 34 ∨ c.toNat = 92 ∨ c.toNat = 110 then some { st with next := 3, labs := modLast (fun x => { x with val := x.val ++ [c] }) st.labs } else none
  | 5 => if c.toNat = 44 ∧ st.labs.length ≤ 2 then some { st with next := 1, labs := st.labs ++ [⟨[], [], at_ + 1⟩] }
      else if c.toNat = 125 then some { st with next := 6 } else none
  | _ => none

theorem one_bytes (c : UInt8) (w : World) (g : Nat) (cap : Nat) (h : w.cell? ⟨g, 0, none⟩ = some (.int .u8 (c.toNat : Int))) :
    (convert 47 9 (.slice (some ⟨g, 0, none⟩) 1 cap)).run Try.prog w = .ok (.string ⟨#[c]⟩) w :=
  run_convert_bytes_back w 47 9 5 ⟨g, 0, none⟩ cap [c] Try.underlying47 Try.underlying5 Try.underlying9 (fun j hj => by
    have : j = 0 := by simp at hj; omega
    subst this
    simpa [Addr.add] using h)

theorem alloc_keep {w : World} {b : Nat} {o : Obj} (h : w.heap[b]? = some o) (x : Obj) : (w.alloc x).heap[b]? = some o := by
  rw [Below.heap_alloc _ _ _ (lt_of h)]; exact h

theorem add_one (l : List UInt8) (c : UInt8) (h : l.length ≤ 1000) (w : World) : (Op.stringOp .add (B l) ⟨#[c]⟩).run Try.prog w = .ok (.string (B (l ++ [c]))) w := by
  have := run_string_add_lists (P := Try.prog) w l [c] (by omega) (by simp)
  exact this

set_option maxRecDepth 100000 in
set_option maxHeartbeats 1000000 in
theorem take0_yes (b : Nat) (st : St) (c : UInt8) (at_ : Nat) (w : World) (h : TextAt b st w) (hn : st.next = 0) (hl : st.long ≤ 100) (hg : goesB st.long (c.toNat : Int) = true) (hlen : st.name.length ≤ 1000) :
    Calls Try.prog 17 #[.pointer (some ⟨b, 0, none⟩), .int .u8 (c.toNat : Int), .int .i64 (at_ : Int)] w fun e w' => e = .returned (.bool true) ∧
      TextAt b { st with long := st.long + 1, name := st.name ++ [c] } w' ∧ Below b w w' := by
  obtain ⟨a, cp, hb, own⟩ := h
  rw [hn] at hb
  have c0 : w.cell? ⟨b, 0, none⟩ = some (.int .i64 0) := by simp [World.cell?, hb]
  have c3 : w.cell? ⟨b, 3, none⟩ = some (.slice a st.labs.length cp) := by simp [World.cell?, hb]
  have hy := named_yes b st _ (c.toNat : Int) 123 w (by rw [hn]; exact hb) hl hg
  have HY : Hid (Calls Try.prog 26 #[.pointer (some ⟨b, 0, none⟩), .int .u8 (c.toNat : Int), .int .u8 123] w _) := hy
  have HN : Hid (st.next = 0) := hn
  clear hy hg hn
  go_enter Try.func17, Try.ntmps17
  go_wp2_with fail
  refine HY.out.mono ?_
  rintro e w1 ⟨rfl, hw1⟩
  have hb1 : w1.heap[b]? = some (.cells #[.int .i64 0, .int .i64 ((st.long + 1 : Nat) : Int), .string (B st.name), .slice a st.labs.length cp] 59) := by rw [hw1, text_set hb]; rfl
  have own1 : w1.ownsRow (b + 1) 62 3 (.slice a st.labs.length cp) st.labs.length (labCells st.labs) := by rw [hw1]; exact own_set own (by omega)
  have B1 : Below b w w1 := by rw [hw1]; exact (Below.refl b w).setCell (p := ⟨b, 1, none⟩) (Nat.le_refl _) _
  clear hw1 c0 c3 hb own HY
  have d2 : w1.cell? ⟨b, 2, none⟩ = some (.string (B st.name)) := by simp [World.cell?, hb1]
  have f2 : w1.frozen? ⟨b, 2, none⟩ = false := by simp [World.frozen?, hb1]
  have hbl : b < w1.heap.size := lt_of hb1
  have ga := gb_alloc (gb_refl w1 none) (.cells #[.int .u8 (c.toNat : Int)] 5)
  have d2' := gb_cell ga d2 (by simp)
  have f2' := gb_froz ga hbl f2 (by simp)
  have hcv : (convert 47 9 (.slice (some ⟨w1.heap.size, 0, none⟩) 1 1)).run Try.prog (w1.alloc (.cells #[.int .u8 (c.toNat : Int)] 5)).drew = .ok (.string ⟨#[c]⟩) (w1.alloc (.cells #[.int .u8 (c.toNat : Int)] 5)).drew := one_bytes c _ _ _ (by simp)
  have hadd := add_one st.name c hlen
  clear ga
  go_wp2
  go_region
  all_goals go_wp2
  all_goals
    go_ret
    refine ⟨rfl, ⟨a, cp, ?_, ?_⟩, ?_⟩
    · rw [HN.out]; exact alloc_keep (text_set hb1 _) _
    · exact (own_set (R := b) own1 (by omega)).alloc _
    · exact ((B1.setCell (p := ⟨b, 2, none⟩) (Nat.le_refl _) _).alloc (by simp [World.setCell]; omega) _).drew

theorem Try.info62 : (Try.prog.info? 62).map (fun i => (i.zero, i.size, i.bytes)) = some (some (.agg #[.string ⟨#[]⟩, .string ⟨#[]⟩, .int .i64 0]), 3, 40) := by kernel_rfl

set_option maxRecDepth 100000 in
set_option maxHeartbeats 1000000 in
theorem take0_sign (b : Nat) (st : St) (c : UInt8) (at_ : Nat) (w : World) (h : TextAt b st w) (hn : st.next = 0) (hl : st.long ≤ 100) (hg : goesB st.long (c.toNat : Int) = false) (h0 : 0 < st.long) (hc : c.toNat = 123) (hat : at_ ≤ 1000) (hls : st.labs.length ≤ 100) :
    Calls Try.prog 17 #[.pointer (some ⟨b, 0, none⟩), .int .u8 (c.toNat : Int), .int .i64 (at_ : Int)] w fun e w' => e = .returned (.bool true) ∧
      TextAt b { st with next := 1, long := 0, labs := st.labs ++ [⟨[], [], at_ + 1⟩] } w' ∧ Below b w w' := by
  obtain ⟨a, cp, hb, own⟩ := h
  rw [hn] at hb
  have hbl0 : b < w.heap.size := lt_of hb
  have c0 : w.cell? ⟨b, 0, none⟩ = some (.int .i64 0) := by simp [World.cell?, hb]
  have c3 : w.cell? ⟨b, 3, none⟩ = some (.slice a st.labs.length cp) := by simp [World.cell?, hb]
  have hy := named_sign b st _ (c.toNat : Int) 123 w (by rw [hn]; exact hb) hl hg h0 (by simp; omega)
  have HY : Hid (Calls Try.prog 26 #[.pointer (some ⟨b, 0, none⟩), .int .u8 (c.toNat : Int), .int .u8 123] w _) := hy
  obtain ⟨i0, hi, hz0, hz1, hz2⟩ := info_parts Try.info62
  have HI : Hid (Try.prog.info? 62 = some i0 ∧ i0.zero = some (.agg #[.string ⟨#[]⟩, .string ⟨#[]⟩, .int .i64 0]) ∧ i0.size = 3 ∧ i0.bytes = 40) := ⟨hi, hz0, hz1, hz2⟩
  clear hy hg hn hc hi hz0 hz1 hz2
  go_enter Try.func17, Try.ntmps17
  go_wp2_with fail
  refine HY.out.mono ?_
  rintro e w1 ⟨rfl, hw1⟩
  have hb1 : w1.heap[b]? = some (.cells #[.int .i64 0, .int .i64 0, .string (B st.name), .slice a st.labs.length cp] 59) := by rw [hw1, text_set hb]; rfl
  have own1 : w1.ownsRow (b + 1) 62 3 (.slice a st.labs.length cp) st.labs.length (labCells st.labs) := by rw [hw1]; exact own_set own (by omega)
  have B1 : Below b w w1 := by rw [hw1]; exact (Below.refl b w).setCell (p := ⟨b, 1, none⟩) (Nat.le_refl _) _
  clear hw1 c0 c3 hb own HY
  have hbl : b < w1.heap.size := lt_of hb1
  have d0 : w1.cell? ⟨b, 0, none⟩ = some (.int .i64 0) := by simp [World.cell?, hb1]
  have f0 : w1.frozen? ⟨b, 0, none⟩ = false := by simp [World.frozen?, hb1]
  have hb2 : (w1.setCell ⟨b, 0, none⟩ (.int .i64 1)).heap[b]? = some (.cells #[.int .i64 1, .int .i64 0, .string (B st.name), .slice a st.labs.length cp] 59) := by rw [text_set hb1]; rfl
  have own2 : (w1.setCell ⟨b, 0, none⟩ (.int .i64 1)).ownsRow (b + 1) 62 3 (.slice a st.labs.length cp) st.labs.length (labCells st.labs) := own_set own1 (by omega)
  have B2 : Below b w (w1.setCell ⟨b, 0, none⟩ (.int .i64 1)) := B1.setCell (p := ⟨b, 0, none⟩) (Nat.le_refl _) _
  have e3 : (w1.setCell ⟨b, 0, none⟩ (.int .i64 1)).cell? ⟨b, 3, none⟩ = some (.slice a st.labs.length cp) := by simp [World.cell?, hb2]
  have hsz : (w1.setCell ⟨b, 0, none⟩ (.int .i64 1)).heap.size = w1.heap.size := by simp [World.setCell]
  go_wp2_with (at_builtin; refine wpList_append_own _ rfl _ _ 57 rfl (b + 1) 62 i0 (.agg #[.string ⟨#[]⟩, .string ⟨#[]⟩, .int .i64 0]) 3 40 Try.underlying57 HI.out.1 HI.out.2.1 HI.out.2.2.1 HI.out.2.2.2 rfl (by decide) _ _ _ rfl (own2.alloc _) ⟨w1.heap.size, 0, none⟩ 1 1 [.string ⟨#[]⟩, .string ⟨#[]⟩, .int .i64 ((at_ : Int) + 1)] rfl rfl ?c1 ?c2 ?c3 ?c4 ?c5 ?_)
  case c1 =>
    intro j u hj
    have hnew := alloc_new (w1.setCell ⟨b, 0, none⟩ (.int .i64 1)) (.cells #[.string ⟨#[]⟩, .string ⟨#[]⟩, .int .i64 ((at_ : Int) + 1)] 62) w1.heap.size hsz.symm
    rw [Addr.add_lit, Lib.cell_of_heap hnew]
    simpa using hj
  case c2 => intro u hu; simp at hu; rcases hu with rfl | rfl <;> rfl
  case c3 => unfold maxLen; omega
  case c4 => omega
  case c5 => simp [hsz]; omega
  intro v' w2 hown2 hgr _
  have hrow : ∀ k, Value.ownBlock (.slice a st.labs.length cp) = some k → b + 1 ≤ k := fun k hk => (own2.lt k hk).1
  have hb3 : w2.heap[b]? = some (.cells #[.int .i64 1, .int .i64 0, .string (B st.name), .slice a st.labs.length cp] 59) := by
    rw [hgr.block b (by simp [hsz]; omega) (fun e => by have := hrow b e.symm; omega)]; exact alloc_keep hb2 _
  have B3 : Below b w w2 := (B2.alloc (by omega) _).grown hgr (by simp [hsz]; omega) (fun k hk => by have := hrow k hk; omega)
  have hx : labCells st.labs ++ [.string ⟨#[]⟩, .string ⟨#[]⟩, .int .i64 ((at_ : Int) + 1)] = labCells (st.labs ++ [⟨[], [], at_ + 1⟩]) := by simp [labCells, Lab.cells, B]
  rw [hx] at hown2
  obtain ⟨g, cap, rfl⟩ : ∃ g cap, v' = .slice (some ⟨g, 0, none⟩) (st.labs.length + 1) cap := by
    rcases hown2.2 with ⟨_, h0⟩ | ⟨g', cap', cur', hv', _⟩
    · omega
    · exact ⟨g', cap', hv'⟩
  have c3' : w2.cell? ⟨b, 3, none⟩ = some (.slice a st.labs.length cp) := by simp [World.cell?, hb3]
  have f3' : w2.frozen? ⟨b, 3, none⟩ = false := by simp [World.frozen?, hb3]
  have hbl2 : b < w2.heap.size := lt_of hb3
  clear hx hgr hrow own2 own1 B2 B1 hb2 hb1 d0 f0 e3 hsz
  go_wp2
  go_ret
  refine ⟨rfl, ⟨some ⟨g, 0, none⟩, cap, ?_, ?_⟩, ?_⟩
  · rw [text_set hb3]; simp
  · have := own_set (R := b) (o := 3) (x := .slice (some ⟨g, 0, none⟩) (st.labs.length + 1) cap) hown2 (by omega)
    simpa using this
  · exact B3.setCell (p := ⟨b, 3, none⟩) (Nat.le_refl _) _

end Go.Proofs.Ytcfdemhokbddiaa
