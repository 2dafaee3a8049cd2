/-
  A board in someone's hands: it stands, and what a call does to it and to the rest of memory.
-/
import Derived.Test.YtcfdemhokbddiaaGreatDoorQOg
import Derived.ProofKit
import Derived.SizedLaws
import Derived.LaidMore
import Derived.OpenShut
import Derived.Deep.Slices
import Derived.Lib.LaidTab

namespace Go.Proofs.YtcfdemhokbddiaaGreatDoor
open Go.RowKit

structure Bd (base m : Nat) (w : World) (t : GT) : Prop where
  at_ : GT.At w t
  ok : GT.Ok m t
  rd : RdOk t
  low : ∀ b ∈ t.own, base ≤ b
  tab : Tab w
  pos : 0 < base
  size : base ≤ w.heap.size
theorem Bd.mono {base m k : Nat} {w : World} {t : GT} (h : Bd base m w t) (hk : m ≤ k) : Bd base k w t := ⟨h.at_, h.ok.mono hk, h.rd, h.low, h.tab, h.pos, h.size⟩
theorem Bd.kept {base m : Nat} {w w' : World} {t : GT} {L : List Nat} (h : Bd base m w t) (hk : Kept L w w') (hL : ∀ b ∈ L, base ≤ b ∧ b ∉ t.own) : Bd base m w' t :=
  ⟨h.at_.kept hk fun b hb hm => (hL b hm).2 hb, h.ok, h.rd, h.low, h.tab.same (hk.block 0 h.tab.lt fun hm => by have := (hL 0 hm).1; have := h.pos; omega), h.pos, Nat.le_trans h.size hk.size⟩
theorem Bd.gb {base m : Nat} {w w' : World} {t : GT} (h : Bd base m w t) (hg : w.grownBy w' none) : Bd base m w' t := h.kept (L := []) (Kept.of_none hg _) (by simp)
theorem Bd.ne0 {base m : Nat} {w : World} {t : GT} (h : Bd base m w t) : ∀ b ∈ t.own, b ≠ 0 := fun b hb => by have := h.low b hb; have := h.pos; omega
theorem Bd.lt {base m : Nat} {w : World} {t : GT} (h : Bd base m w t) : ∀ b ∈ t.own, b < w.heap.size := h.at_.lt

/-- The board t has become t'. -/
structure Stp (base m : Nat) (t t' : GT) (w w' : World) : Prop where
  bd : Bd base m w' t'
  b : t'.b = t.b
  kept : Kept t.own w w'
  sub : ∀ x ∈ t'.own, x ∈ t.own ∨ w.heap.size ≤ x
theorem Stp.refl {base m : Nat} {t : GT} {w : World} (h : Bd base m w t) : Stp base m t t w w := ⟨h, rfl, Kept.refl _ _, fun _ hx => Or.inl hx⟩
theorem Stp.trans {base m k : Nat} {t t1 t2 : GT} {w w1 w2 : World} (h : Stp base m t t1 w w1) (g : Stp base k t1 t2 w1 w2) : Stp base k t t2 w w2 :=
  ⟨g.bd, g.b.trans h.b, h.kept.then g.kept h.sub, fun x hx => by
    rcases g.sub x hx with h1 | h1
    · exact h.sub x h1
    · exact Or.inr (Nat.le_trans h.kept.size h1)⟩
theorem Stp.to {base m : Nat} {t t' : GT} {w w1 w' : World} (h : Stp base m t t' w w1) (hg : w1.grownBy w' none) : Stp base m t t' w w' :=
  ⟨h.bd.gb hg, h.b, h.kept.trans (Kept.of_none hg _), h.sub⟩
theorem Stp.from {base m : Nat} {t t' : GT} {w w1 w' : World} (hg : w.grownBy w1 none) (h : Stp base m t t' w1 w') : Stp base m t t' w w' :=
  ⟨h.bd, h.b, (Kept.of_none hg _).trans h.kept, fun x hx => by
    rcases h.sub x hx with h1 | h1
    · exact Or.inl h1
    · exact Or.inr (Nat.le_trans hg.size h1)⟩
theorem Stp.mono {base m k : Nat} {t t' : GT} {w w' : World} (h : Stp base m t t' w w') (hk : m ≤ k) : Stp base k t t' w w' := ⟨h.bd.mono hk, h.b, h.kept, h.sub⟩
theorem Out.stp {base m k : Nat} {t t' : GT} {w w' : World} (h : Out k t t' w w') (hb : Bd base m w t) (hr : RdOk t') : Stp base k t t' w w' :=
  ⟨⟨h.at_, h.ok, hr, fun x hx => by
    rcases h.sub x hx with h1 | h1
    · exact hb.low x h1
    · have := hb.size; omega, hb.tab.same (h.kept.block 0 hb.tab.lt fun hm => hb.ne0 0 hm rfl), hb.pos, Nat.le_trans hb.size h.kept.size⟩, h.b, h.kept, h.sub⟩
/-- Another board, of other blocks, stands as it did. -/
theorem Bd.other {base m k : Nat} {w w' : World} {t t' c : GT} (h : Bd base m w c) (hs : Stp base k t t' w w') (hb : ∀ b ∈ t.own, base ≤ b) (hd : ∀ b ∈ t.own, b ∉ c.own) : Bd base m w' c ∧ ∀ b ∈ t'.own, b ∉ c.own :=
  ⟨h.kept hs.kept fun b hb' => ⟨hb b hb', hd b hb'⟩, fun b hb' hm => by
    rcases hs.sub b hb' with h1 | h1
    · exact hd b h1 hm
    · have := h.lt b hm; omega⟩

theorem rdOk_of {t t' : GT} (h : RdOk t) (e : t'.rds = t.rds) : RdOk t' := fun r hr => h r (by rw [← e]; exact hr)
theorem rview_of {t t' : GT} (e : t'.rds = t.rds) : t'.rview = t.rview := by unfold GT.rview; rw [e]

section
variable {base m : Nat} {t : GT} {w : World}
theorem cFamily (hb : Bd base m w t) (nm : List UInt8) (kind : Int) (v : Value) (xs : List Int) (hv : IntSl w v xs) (hx : xs.length ≤ 9223372036854775807) :
    Calls Tryz.prog 33 #[.pointer (some ⟨t.b, 0, none⟩), .string (B nm), .int .i64 kind, v] w fun e w' => ∃ t' code, e = .returned (.int .i64 code) ∧ Stp base m t t' w w' ∧ t'.rview = t.rview ∧ (code, t'.view) = famP t.view nm kind xs :=
  (bFamily_any t nm kind v xs m w hb.at_ hb.ok hv hx).mono fun _ _ ⟨t', code, h1, h2, h3, h4⟩ => ⟨t', code, h1, h2.stp hb (rdOk_of hb.rd h3), rview_of h3, h4⟩
theorem cChange (hb : Bd base m w t) (s : ByteArray) (n : Int) (hm : m ≤ 4611686018427387904) :
    Calls Tryz.prog 20 #[.pointer (some ⟨t.b, 0, none⟩), .string s, .int .i64 n] w fun e w' => ∃ t' code, e = .returned (.int .i64 code) ∧ Stp base (m + 1) t t' w w' ∧ t'.rview = t.rview ∧ (code, t'.view) = chgP t.view s.data.toList n :=
  (bChange_any t s n m w hb.at_ hb.ok hm).mono fun _ _ ⟨t', code, h1, h2, h3, h4⟩ => ⟨t', code, h1, h2.stp hb (rdOk_of hb.rd h3), rview_of h3, h4⟩
theorem cDrop (hb : Bd base m w t) (s : ByteArray) :
    Calls Tryz.prog 27 #[.pointer (some ⟨t.b, 0, none⟩), .string s] w fun e w' => ∃ t' code, e = .returned (.int .i64 code) ∧ Stp base m t t' w w' ∧ t'.rview = t.rview ∧ (code, t'.view) = drpP t.view s.data.toList :=
  (bDrop_any t s m w hb.at_ hb.ok).mono fun _ _ ⟨t', code, h1, h2, h3, h4⟩ => ⟨t', code, h1, h2.stp hb (rdOk_of hb.rd h3), rview_of h3, h4⟩
theorem cTick (hb : Bd base m w t) :
    Calls Tryz.prog 22 #[.pointer (some ⟨t.b, 0, none⟩)] w fun e w' => e = .returned (.tuple #[]) ∧ ∃ t', Stp base m t t' w w' ∧ t'.view = t.view ∧ t'.rview = tickP t.rview :=
  (bTick_any t m w hb.at_ hb.ok hb.rd).mono fun _ _ ⟨h1, t', h2, _, h3, h4, h5⟩ => ⟨h1, t', h2.stp hb h3, h4, h5⟩
theorem cPage (hb : Bd base m w t) (n k : Int) (hm : m ≤ 4611686018427387904) :
    Calls Tryz.prog 16 #[.pointer (some ⟨t.b, 0, none⟩), .int .i64 n, .int .i64 k] w fun e w' => ∃ t' v lines more c, e = .returned (.tuple #[v, .bool more, .int .i64 c]) ∧ Stp base m t t' w w' ∧ t'.own = t.own ∧ t'.view = t.view ∧ w'.ownsRow w.heap.size 9 1 v lines.length (strs lines) ∧ ((lines, more, c), t'.rview) = pageP t.rview n k :=
  (bPage_any t n k m w hb.at_ hb.ok hb.rd hm hb.tab hb.ne0).mono fun _ _ ⟨t', v, lines, more, c, h1, h2, h3, h4, h5, h6, h7⟩ => ⟨t', v, lines, more, c, h1, h2.stp hb h4, h3, h5, h6, h7⟩
theorem cOpen (hb : Bd base m w t) (s : ByteArray) (hm : m ≤ 4611686018427387904) :
    Calls Tryz.prog 15 #[.pointer (some ⟨t.b, 0, none⟩), .string s] w fun e w' => ∃ t' i c, e = .returned (.tuple #[.int .i64 i, .int .i64 c]) ∧ Stp base (m + 1) t t' w w' ∧ t'.view = t.view ∧ ((i, c), t'.rview) = openP t.view t.rview s.data.toList :=
  (bOpen_any t s m w hb.at_ hb.ok hb.rd hm).mono fun _ _ ⟨t', i, c, h1, h2, h3, h4, h5⟩ => ⟨t', i, c, h1, h2.stp hb h3, h4, h5⟩
end
theorem cNew (base : Nat) (w : World) (ht : Tab w) (hp : 0 < base) (hs : base ≤ w.heap.size) : Calls Tryz.prog 32 #[] w fun e w' => ∃ t, e = .returned (.pointer (some ⟨t.b, 0, none⟩)) ∧ w.grownBy w' none ∧ Bd base 0 w' t ∧ t.view = [] ∧ t.rview = [none, none, none] ∧ ∀ b ∈ t.own, w.heap.size ≤ b :=
  (bNew_any w).mono fun _ _ ⟨t, h1, h2, h3, h4, h5, h6, h7, h8, h9⟩ => ⟨t, h1, h3, ⟨h4, h5, h6, by rw [h9]; simpa using hs, ht.gb h3, hp, by omega⟩, h7, h8, by rw [h9]; simp⟩

/-- append of a row of texts onto a row of one's own. -/
theorem run_append_rows (w : World) (base base' : Nat) (v : Value) (n : Nat) (xs : List Value) (hv : w.ownsRow base 9 1 v n xs) (u : Value) (k : Nat) (ls : List (List UInt8)) (hu : w.ownsRow base' 9 1 u k (strs ls)) (hb : base ≤ w.heap.size) (hn : n + k ≤ 100000) :
    ∃ v' w', (Builtin.append_ #[32, 32] 32 #[v, u]).run Tryz.prog w = .ok v' w' ∧ w'.ownsRow base 9 1 v' (n + k) (xs ++ strs ls) ∧ w.grownBy w' v.ownBlock := by
  obtain ⟨i0, hi, hz0, hz1, hz2⟩ := info_parts Tryz.info9
  rcases hu.2 with ⟨rfl, rfl⟩ | ⟨g, cap, cur, rfl, _⟩
  · have e : strs ls = [] := List.eq_nil_of_length_eq_zero (by simpa using hu.1)
    rw [e, List.append_nil]
    exact ⟨v, w, run_append_owned_none w base 32 32 9 i0 1 Tryz.underlying32 hi v n xs hv, hv, gb_refl _ _⟩
  · obtain ⟨v', w', h1, h2, h3, _⟩ := run_append_own (P := Tryz.prog) w base 32 32 9 i0 (.string ⟨#[]⟩) 1 16 Tryz.underlying32 hi hz0 hz1 hz2 rfl (by omega) v n xs hv ⟨g, 0, none⟩ k cap (strs ls) hu.1 (fun j u hj => own_cells1 hu rfl j u hj) (fun u hu => by
      simp only [strs, List.mem_map] at hu
      obtain ⟨a, _, rfl⟩ := hu
      rfl) (by unfold maxLen; omega) (by omega) hb
    exact ⟨v', w', h1, h2, h3⟩
theorem wpList_append_rows (w : World) {ops : Array Oper} {rest : List Oper} {o : Oper} {a : Act} {Q : Exit → Act → World → Prop} (hg : o.guard = none) (s x : Operand) (hop : o.op = Op.call { callee := Callee.builtin Builtin.append, args := #[s, x], argTypes := #[32, 32] }) (hty : o.type = 32)
    (base base' : Nat) (v : Value) (n : Nat) (xs : List Value) (hs : a.eval s = v) (hv : w.ownsRow base 9 1 v n xs) (u : Value) (k : Nat) (ls : List (List UInt8)) (hx : a.eval x = u) (hu : w.ownsRow base' 9 1 u k (strs ls)) (hb : base ≤ w.heap.size) (hn : n + k ≤ 100000)
    (hK : ∀ v' w', w'.ownsRow base 9 1 v' (n + k) (xs ++ strs ls) → w.grownBy w' v.ownBlock → wpList Tryz.prog ops Q rest (a.put o.dst v') w') : wpList Tryz.prog ops Q (o :: rest) a w := by
  refine wpList_plain hg fun K hK' => ?_
  obtain ⟨v', w', hrun, r1, r2⟩ := run_append_rows w base base' v n xs hv u k ls hu hb hn
  unfold Oper.wp
  simp [execOp, hop, hty, resolve, invoke, builtin, hs, hx, hrun, Result.andThen]
  exact hK' _ _ (hK v' w' r1 r2)

end Go.Proofs.YtcfdemhokbddiaaGreatDoor

/-
  The tables that are laid.
-/
namespace Go.Proofs.YtcfdemhokbddiaaGreatDoor
open Go.ChangeShapes Go.WideShapes Go.ChangeAt Go.RowKit

theorem Tryz.own : ownKnob Tryz.prog.godebug = none := by kernel_rfl
theorem Tryz.laidOut : laidOutB Tryz.prog = true := by kernel_rfl
theorem Tryz.cells31 : Tryz.prog.cellsOf 31 = 3 := by kernel_rfl
theorem Tryz.cells3 : Tryz.prog.cellsOf 3 = 1 := by kernel_rfl
theorem Tryz.bytes31 : Tryz.prog.bytesOf 31 = 24 := by kernel_rfl
theorem Tryz.bytes3 : Tryz.prog.bytesOf 3 = 8 := by kernel_rfl

def laid3 : List (String × DataW Unit) := [("math/bits.deBruijn32tab", Rows.laid_math_bits_deBruijn32tab), ("math/bits.deBruijn64tab", Rows.laid_math_bits_deBruijn64tab), ("internal/strconv.uint64pow10", Rows.laid_internal_strconv_uint64pow10)]

/-- The door's own heap meets the condition: three closed facts. -/
theorem door_met (os : Os) (args : Array Value) : laidMetH Tryz.prog laid3 ((World.doorLaid Tryz.prog 400 os).forCall (fun _ _ => 0) ⟨#[], args, []⟩).memory :=
  laidMetH_of_parts3 (fuel := 8) (laidMet_of_run' 8 (by kernel_rfl) (by kernel_rfl)) (by kernel_rfl) (by kernel_rfl)

set_option maxRecDepth 100000 in
theorem tab_of_laid {W : World} (h : laidMetH Tryz.prog laid3 W) : Tab W := by
  have h' : laidMet Tryz.prog laid3 W := h
  obtain ⟨ps, h1, _⟩ := h'
  obtain ⟨g1, t1, cs1, f1, p1, q1, _, _, _, _, h2, _⟩ := h1
  obtain ⟨g2, t2, cs2, f2, p2, q2, _, _, _, _, h3, _⟩ := h2
  obtain ⟨g3, t3, cs3, f3, p3, q3, hg, ht, hvar, hd, _, _⟩ := h3
  have hg' : Tryz.prog.globalNamed "internal/strconv.uint64pow10" = some 0 := laysIt.m17
  obtain rfl := Option.some.inj (hg'.symm.trans hg)
  have hty : (Tryz.prog.globals[0]?).map (·.type) = some 223 := by kernel_rfl
  obtain rfl := Option.some.inj (hty.symm.trans ht)
  unfold Tab Lib.TabIs
  rw [hvar, ← Lib.cells_of_tab (k := .u64) (zs := Lib.pow10Tab) Tryz.underlying223 Tryz.underlying183 (by kernel_rfl) (by kernel_rfl) hd]

end Go.Proofs.YtcfdemhokbddiaaGreatDoor
