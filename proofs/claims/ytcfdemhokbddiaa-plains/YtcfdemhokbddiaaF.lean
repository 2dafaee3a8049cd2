/-
  The reader's labels: one to three labels between braces, gathered in a list of the call's own.
-/
import Derived.Test.YtcfdemhokbddiaaE
namespace Go.Proofs.Ytcfdemhokbddiaa
open Go.RowKit

/-- A label as the program keeps it: name, value without escapes, place. -/
structure Lab where
  name : List UInt8
  val : List UInt8
  at_ : Nat

def Lab.cells (x : Lab) : List Value := [.string (B x.name), .string (B x.val), .int .i64 (x.at_ : Int)]
def labCells (ls : List Lab) : List Value := ls.flatMap Lab.cells
theorem labCells_len (ls : List Lab) : (labCells ls).length = ls.length * 3 := by
  induction ls with
  | nil => rfl
  | cons x ls ih => simp [labCells] at ih ⊢; rw [ih]; simp [Lab.cells]; omega

def closeP (x : Lab) (l : List UInt8) : Option (List Lab) × List UInt8 :=
  match takeP 125 l with
  | none => (none, l)
  | some l2 => (some [x], l2)

/-- Labels behind an opened brace, of a text of N bytes; r more may follow the first. -/
def labelsP (N : Nat) : Nat → List UInt8 → Option (List Lab) × List UInt8
  | r, l => match labelP l with
    | (none, l1) => (none, l1)
    | (some p, l1) => match r with
      | 0 => closeP ⟨p.1, p.2, N - l.length⟩ l1
      | r + 1 => match takeP 44 l1 with
        | none => closeP ⟨p.1, p.2, N - l.length⟩ l1
        | some l2 => match labelsP N r l2 with
          | (none, l3) => (none, l3)
          | (some ls, l3) => (some (⟨p.1, p.2, N - l.length⟩ :: ls), l3)

def prepL (a : List Lab) (p : Option (List Lab) × List UInt8) : Option (List Lab) × List UInt8 := (p.1.map (a ++ ·), p.2)
theorem prepL_nil (p : Option (List Lab) × List UInt8) : prepL [] p = p := by
  obtain ⟨a, l⟩ := p; cases a <;> simp [prepL]
theorem prepL_prepL (a b : List Lab) (p : Option (List Lab) × List UInt8) : prepL a (prepL b p) = prepL (a ++ b) p := by
  obtain ⟨o, l⟩ := p; cases o <;> simp [prepL]
theorem labelsP_none (N r : Nat) (l l1 : List UInt8) (h : labelP l = (none, l1)) : labelsP N r l = (none, l1) := by
  unfold labelsP; rw [h]
theorem labelsP_zero (N : Nat) (l l1 : List UInt8) (p) (h : labelP l = (some p, l1)) : labelsP N 0 l = closeP ⟨p.1, p.2, N - l.length⟩ l1 := by
  unfold labelsP; rw [h]
theorem labelsP_stop (N r : Nat) (l l1 : List UInt8) (p) (h : labelP l = (some p, l1)) (h2 : takeP 44 l1 = none) : labelsP N r l = closeP ⟨p.1, p.2, N - l.length⟩ l1 := by
  cases r with
  | zero => exact labelsP_zero N l l1 p h
  | succ r => unfold labelsP; rw [h]; simp only [h2]
theorem labelsP_more (N r : Nat) (l l1 l2 : List UInt8) (p) (h : labelP l = (some p, l1)) (h2 : takeP 44 l1 = some l2) : labelsP N (r + 1) l = prepL [⟨p.1, p.2, N - l.length⟩] (labelsP N r l2) := by
  conv => lhs; unfold labelsP
  rw [h]; simp only [h2]
  rcases hq : labelsP N r l2 with ⟨o, l3⟩
  cases o <;> simp [prepL]

def bracesP (N : Nat) (l : List UInt8) : Option (List Lab) × List UInt8 :=
  match takeP 123 l with
  | none => (none, l)
  | some l1 => labelsP N 2 l1

theorem Try.info44 : (Try.prog.info? 44).map (fun i => (i.zero, i.size, i.bytes)) = some (some (.agg #[.string ⟨#[]⟩, .string ⟨#[]⟩, .int .i64 0]), 3, 40) := by kernel_rfl

theorem drop_len (s : ByteArray) (n : Nat) (h : n ≤ s.size) : s.size - (s.data.toList.drop n).length = n := by
  rw [List.length_drop]; show s.size - (s.size - n) = n; omega

set_option maxHeartbeats 1000000 in
theorem labels_any (b : Nat) (s : ByteArray) (n : Nat) (w : World) (hb : w.heap[b]? = some (rdr s n)) (hn : n ≤ s.size) (hs : s.size ≤ 100) :
    Calls Try.prog 21 #[.pointer (some ⟨b, 0, none⟩)] w fun e w' => ∃ (m : Nat) (o : Option (List Lab)) (v : Value), n ≤ m ∧ m ≤ s.size ∧ bracesP s.size (s.data.toList.drop n) = (o, s.data.toList.drop m) ∧
      e = .returned (.tuple #[v, .bool o.isSome]) ∧ w'.heap[b]? = some (rdr s m) ∧ w.grownBy w' (some b) ∧
      (∀ ls, o = some ls → w'.ownsRow w.heap.size 44 3 v ls.length (labCells ls) ∧ ls.length ≤ 3) := by
  have hbl := lt_of hb
  obtain ⟨i0, hi, hz0, hz1, hz2⟩ := info_parts Try.info44
  have HI : Hid (Try.prog.info? 44 = some i0 ∧ i0.zero = some (.agg #[.string ⟨#[]⟩, .string ⟨#[]⟩, .int .i64 0]) ∧ i0.size = 3 ∧ i0.bytes = 40) := ⟨hi, hz0, hz1, hz2⟩
  clear hi hz0 hz1 hz2
  go_enter Try.func21, Try.ntmps21
  go_wp2_with fail
  refine (take_any b s n 123 _ (by exact hb) hn hs).mono ?_
  rintro e w0 (⟨rfl, lt0, t0, q0, g0⟩ | ⟨rfl, t0, q0, g0⟩)
  · have T0 : Hid (takeP 123 (s.data.toList.drop n) = some (s.data.toList.drop (n + 1))) := t0
    clear t0 hb
    go_wp2
    go_loopw [4] (fun v wr => ∃ (m : Nat) (ls : List Lab), wr.heap[b]? = some (rdr s m) ∧ wr.ownsRow w.heap.size 44 3 v ls.length (labCells ls) ∧ w.grownBy wr (some b) ∧
        n + 1 ≤ m ∧ m ≤ s.size ∧ ls.length ≤ 2 ∧ labelsP s.size 2 (s.data.toList.drop (n + 1)) = prepL ls (labelsP s.size (2 - ls.length) (s.data.toList.drop m)))
      (fun _ wr => 100 - posOf b wr)
    case atStart => exact ⟨n + 1, [], q0, World.ownsRow_nil _ _ _ _, g0, Nat.le_refl _, by omega, by simp, by simp [prepL_nil]⟩
    case round =>
      obtain ⟨m, ls, hm, hown, hg, h1, h2, h3, h4⟩ := hrel
      have H4 : Hid (labelsP s.size 2 (s.data.toList.drop (n + 1)) = prepL ls (labelsP s.size (2 - ls.length) (s.data.toList.drop m))) := h4
      clear h4 q0 g0
      go_wp2_with fail
      refine (label_any b s m _ hm h2 hs).mono ?_
      rintro e w1 ⟨m1, o, a0, a1, a2, a3, rfl, q1, g1⟩
      have A3 : Hid (labelP (s.data.toList.drop m) = (o, s.data.toList.drop m1)) := a3
      clear a3
      have hgw := gb_trans hg g1
      have hown1 : w1.ownsRow w.heap.size 44 3 _ ls.length (labCells ls) := hown.kept g1 (by
        rcases hk : Value.ownBlock _ with _ | k
        · exact Or.inl rfl
        · right; intro e; have := (hown.lt k hk).1; simp at e; omega)
      clear hown g1
      cases o with
      | none =>
        simp only [labV, Option.isSome_none]
        go_wp2
        go_ret2
        refine ⟨m1, none, _, by omega, a2, ?_, rfl, ?_, gb_alloc hgw _, fun _ h => by simp at h⟩
        · unfold bracesP; rw [T0.out]; simp only; rw [H4.out, labelsP_none _ _ _ _ A3.out]; rfl
        · rw [Below.heap_alloc _ _ _ (by have := hgw.size; omega)]; exact q1
      | some p =>
        have a1' := a1 rfl
        clear a1
        simp only [labV, Option.isSome_some]
        go_wp2_with (at_builtin; refine wpList_append_own _ rfl _ _ 29 rfl w.heap.size 44 i0 (.agg #[.string ⟨#[]⟩, .string ⟨#[]⟩, .int .i64 0]) 3 40 Try.underlying29 HI.out.1 HI.out.2.1 HI.out.2.2.1 HI.out.2.2.2 rfl (by decide) _ _ _ rfl ((hown1.alloc _).alloc _) ⟨w1.heap.size + 1, 0, none⟩ 1 1 [.string (B p.1), .string (B p.2), .int .i64 (m : Int)] rfl rfl ?c1 ?c2 ?c3 ?c4 ?c5 ?_)
        case c1 =>
          intro j u hj
          match j, hj with
          | 0, hj => simp at hj; subst hj; simp [Addr.add]
          | 1, hj => simp at hj; subst hj; simp [Addr.add]
          | 2, hj => simp at hj; subst hj; simp [Addr.add]
        case c2 => intro u hu; simp at hu; rcases hu with rfl | rfl | rfl <;> rfl
        case c3 => unfold maxLen; omega
        case c4 => omega
        case c5 => have := hgw.size; simp; omega
        intro v' w2 hown2 hgr _
        have hrow : ∀ k, Value.ownBlock _ = some k → w.heap.size ≤ k := fun k hk => (hown1.lt k hk).1
        have hgw2 : w.grownBy w2 (some b) := gb_row (gb_alloc (gb_alloc hgw _) _) hgr hrow
        have q2 : w2.heap[b]? = some (rdr s m1) := by
          have hlt1 : b < w1.heap.size := lt_of q1
          rw [hgr.block b (by simp; omega) (fun e => by have := hrow b e.symm; omega), Below.heap_alloc _ _ _ (by simp; omega), Below.heap_alloc _ _ _ hlt1]; exact q1
        have hx : labCells ls ++ [.string (B p.1), .string (B p.2), .int .i64 (m : Int)] = labCells (ls ++ [⟨p.1, p.2, m⟩]) := by simp [labCells, Lab.cells]
        rw [hx] at hown2
        clear hx hgr hrow hown1 hgw q1
        obtain ⟨g, cap, rfl⟩ : ∃ g cap, v' = .slice (some ⟨g, 0, none⟩) (ls.length + 1) cap := by
          rcases hown2.2 with ⟨_, h0⟩ | ⟨g', cap', cur', hv', _⟩
          · omega
          · exact ⟨g', cap', hv'⟩
        have hgl : w.heap.size ≤ g := (hown2.lt g rfl).1
        have own_kept : ∀ w3, w2.grownBy w3 (some b) → w3.ownsRow w.heap.size 44 3 (.slice (some ⟨g, 0, none⟩) (ls.length + 1) cap) (ls.length + 1) (labCells (ls ++ [⟨p.1, p.2, m⟩])) :=
          fun w3 h => hown2.kept h (Or.inr (by intro e; simp [Value.ownBlock] at e; omega))
        have OK : Hid (∀ w3, w2.grownBy w3 (some b) → _) := own_kept
        clear own_kept hown2
        have hat : s.size - (s.data.toList.drop m).length = m := drop_len s m h2
        have HAT : Hid (s.size - (s.data.toList.drop m).length = m) := hat
        clear hat
        by_cases h22 : ls.length = 2
        · have X : ((ls.length : Int) + 1 == 3) = true := by simp; omega
          have HL : Hid (ls.length = 2) := h22
          clear h22
          go_wp2_with fail
          refine (take_any b s m1 125 _ (by exact q2) a2 hs).mono ?_
          rintro e w3 (⟨rfl, lt3, t3, q3, g3⟩ | ⟨rfl, t3, q3, g3⟩)
          · have T3 : Hid (takeP 125 (s.data.toList.drop m1) = some (s.data.toList.drop (m1 + 1))) := t3
            clear t3
            go_wp2
            go_ret2
            refine ⟨m1 + 1, some (ls ++ [⟨p.1, p.2, m⟩]), _, by omega, by omega, ?_, rfl, q3, gb_trans hgw2 g3, ?_⟩
            · unfold bracesP; rw [T0.out]; simp only; rw [H4.out, HL.out, labelsP_zero _ _ _ _ A3.out, HAT.out]; simp [closeP, T3.out, prepL]
            · intro ls' h; simp at h; subst h; simp only [List.length_append, List.length_cons, List.length_nil]; exact ⟨OK.out _ g3, by omega⟩
          · have T3 : Hid (takeP 125 (s.data.toList.drop m1) = none) := t3
            clear t3
            go_wp2
            go_ret2
            refine ⟨m1, none, _, by omega, by omega, ?_, rfl, q3, gb_trans hgw2 g3, fun _ h => by simp at h⟩
            unfold bracesP; rw [T0.out]; simp only; rw [H4.out, HL.out, labelsP_zero _ _ _ _ A3.out, HAT.out]; simp [closeP, T3.out, prepL]
        · have X : ((ls.length : Int) + 1 == 3) = false := by simp; omega
          go_wp2_with fail
          refine (take_any b s m1 44 _ (by exact q2) a2 hs).mono ?_
          rintro e w3 (⟨rfl, lt3, t3, q3, g3⟩ | ⟨rfl, t3, q3, g3⟩)
          · have T3 : Hid (takeP 44 (s.data.toList.drop m1) = some (s.data.toList.drop (m1 + 1))) := t3
            clear t3
            go_wp2
            go_roundw
            case rel =>
              refine ⟨m1 + 1, ls ++ [⟨p.1, p.2, m⟩], q3, ?_, gb_trans hgw2 g3, by omega, by omega, by simp; omega, ?_⟩
              · have := OK.out _ g3; simpa using this
              · rw [H4.out, show 2 - ls.length = (1 - ls.length) + 1 from by omega, labelsP_more _ _ _ _ _ _ A3.out T3.out, prepL_prepL, HAT.out]
                congr 2; simp
            case measure => rw [posOf_rdr hm, posOf_rdr q3]; omega
          · have T3 : Hid (takeP 44 (s.data.toList.drop m1) = none) := t3
            clear t3
            go_wp2_with fail
            refine (take_any b s m1 125 _ (by exact q3) a2 hs).mono ?_
            rintro e w4 (⟨rfl, lt4, t4, q4, g4⟩ | ⟨rfl, t4, q4, g4⟩)
            · have T4 : Hid (takeP 125 (s.data.toList.drop m1) = some (s.data.toList.drop (m1 + 1))) := t4
              clear t4
              go_wp2
              go_ret2
              refine ⟨m1 + 1, some (ls ++ [⟨p.1, p.2, m⟩]), _, by omega, by omega, ?_, rfl, q4, gb_trans (gb_trans hgw2 g3) g4, ?_⟩
              · unfold bracesP; rw [T0.out]; simp only; rw [H4.out, labelsP_stop _ _ _ _ _ A3.out T3.out, HAT.out]; simp [closeP, T4.out, prepL]
              · intro ls' h; simp at h; subst h; simp only [List.length_append, List.length_cons, List.length_nil]; exact ⟨OK.out _ (gb_trans g3 g4), by omega⟩
            · have T4 : Hid (takeP 125 (s.data.toList.drop m1) = none) := t4
              clear t4
              go_wp2
              go_ret2
              refine ⟨m1, none, _, by omega, by omega, ?_, rfl, q4, gb_trans (gb_trans hgw2 g3) g4, fun _ h => by simp at h⟩
              unfold bracesP; rw [T0.out]; simp only; rw [H4.out, labelsP_stop _ _ _ _ _ A3.out T3.out, HAT.out]; simp [closeP, T4.out, prepL]
  · have T0 : Hid (takeP 123 (s.data.toList.drop n) = none) := t0
    clear t0
    go_wp2
    go_ret2
    refine ⟨n, none, _, by omega, hn, ?_, rfl, q0, g0, fun _ h => by simp at h⟩
    unfold bracesP; rw [T0.out]

end Go.Proofs.Ytcfdemhokbddiaa
