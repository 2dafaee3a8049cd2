/-
  What is handed in, opened: lists of acts, numbers; the tables that are laid.
-/
import Derived.Test.YtcfdemhokbddiaaGreatDoorQUf
import Derived.ProofKit
import Derived.SizedLaws
import Derived.LaidMore
import Derived.OpenShut
import Derived.Deep.Slices
import Derived.Lib.LaidTab

namespace Go.Proofs.YtcfdemhokbddiaaGreatDoor
open Go.ChangeShapes Go.WideShapes Go.ChangeAt Go.RowKit

theorem Tryz.own : ownKnob Tryz.prog.godebug = none := by kernel_rfl
theorem Tryz.laidOut : laidOutB Tryz.prog = true := by kernel_rfl
theorem Tryz.cells31 : Tryz.prog.cellsOf 31 = 3 := by kernel_rfl
theorem Tryz.cells3 : Tryz.prog.cellsOf 3 = 1 := by kernel_rfl
theorem Tryz.bytes31 : Tryz.prog.bytesOf 31 = 24 := by kernel_rfl
theorem Tryz.bytes3 : Tryz.prog.bytesOf 3 = 8 := by kernel_rfl

def laid3 : List (String × DataW Unit) := [("math/bits.deBruijn32tab", Rows.laid_math_bits_deBruijn32tab), ("math/bits.deBruijn64tab", Rows.laid_math_bits_deBruijn64tab), ("internal/strconv.uint64pow10", Rows.laid_internal_strconv_uint64pow10)]

/-- The door's own heap meets the condition: three closed facts. -/
theorem door_met (os : Os) (args : Array Value) : laidMetH Tryz.prog laid3 ((World.doorLaid Tryz.prog 400 os).forCall (fun _ _ => 0) ⟨#[], args, []⟩).memory :=
  laidMetH_of_parts3 (fuel := 8) (laidMet_of_run' 8 (by kernel_rfl) (by kernel_rfl)) (by kernel_rfl) (by kernel_rfl)

set_option maxRecDepth 100000 in
theorem tab_of_laid {W : World} (h : laidMetH Tryz.prog laid3 W) : Tab W := by
  have h' : laidMet Tryz.prog laid3 W := h
  obtain ⟨ps, h1, _⟩ := h'
  obtain ⟨g1, t1, cs1, f1, p1, q1, _, _, _, _, h2, _⟩ := h1
  obtain ⟨g2, t2, cs2, f2, p2, q2, _, _, _, _, h3, _⟩ := h2
  obtain ⟨g3, t3, cs3, f3, p3, q3, hg, ht, hvar, hd, _, _⟩ := h3
  have hg' : Tryz.prog.globalNamed "internal/strconv.uint64pow10" = some 0 := laysIt.m17
  obtain rfl := Option.some.inj (hg'.symm.trans hg)
  have hty : (Tryz.prog.globals[0]?).map (·.type) = some 223 := by kernel_rfl
  obtain rfl := Option.some.inj (hty.symm.trans ht)
  unfold Tab Lib.TabIs
  rw [hvar, ← Lib.cells_of_tab (k := .u64) (zs := Lib.pow10Tab) Tryz.underlying223 Tryz.underlying183 (by kernel_rfl) (by kernel_rfl) hd]

theorem wf_i64 {k : Int} (g : (Lit.int .i64 k).wf = true) : I64 k := by
  simp only [Lit.wf, Bool.and_eq_true, decide_eq_true_eq] at g
  rw [show IntKind.i64.min = -9223372036854775808 by decide, show IntKind.i64.max = 9223372036854775807 by decide] at g
  exact g

theorem act_open {H : Type} {enc : TypeId × Value → H} {w : World} {held : Bool} {m : Nat} {cs : List Value} {x : DataW H × List MemPlace} {b o : Nat}
    (hcs : w.cells? 0 ⟨b, o, none⟩ 3 = some cs) (h : DataW.trod enc Tryz.prog w 0 (fun _ => true) held m 31 cs = some x) :
    ∃ a : AA, (I64 a.1 ∧ I64 a.2.1 ∧ I64 a.2.2) ∧ w.cell? ⟨b, o, none⟩ = some (.int .i64 a.1) ∧ w.cell? ⟨b, o + 1, none⟩ = some (.int .i64 a.2.1) ∧ w.cell? ⟨b, o + 2, none⟩ = some (.int .i64 a.2.2) := by
  obtain ⟨_, hlen, hc⟩ := World.cells?_some hcs
  match cs, hlen with
  | [v0, v1, v2], _ =>
    have q0 : w.cell? ⟨b, o, none⟩ = some v0 := by simpa [Addr.add] using hc 0 (by omega)
    have q1 : w.cell? ⟨b, o + 1, none⟩ = some v1 := by simpa [Addr.add] using hc 1 (by omega)
    have q2 : w.cell? ⟨b, o + 2, none⟩ = some v2 := by simpa [Addr.add] using hc 2 (by omega)
    obtain ⟨ys, n, _, hx, _, hyl, hf⟩ := DataW.trod_struct Tryz.underlying31 h
    match ys, hyl with
    | [y0, y1, y2], _ =>
      have f0 : DataW.trod enc Tryz.prog w 0 (fun _ => true) held n 3 [v0] = some y0 := by
        have q := hf 0 { name := "What", type := 3, offset := 0, embedded := false, tag := "", pkgPath := "", byteOffset := 0 } rfl
        rw [show Tryz.prog.cellsOf 3 = 1 from Tryz.cells3] at q
        exact q
      have f1 : DataW.trod enc Tryz.prog w 0 (fun _ => true) held n 3 [v1] = some y1 := by
        have q := hf 1 { name := "Series", type := 3, offset := 1, embedded := false, tag := "", pkgPath := "", byteOffset := 8 } rfl
        rw [show Tryz.prog.cellsOf 3 = 1 from Tryz.cells3] at q
        exact q
      have f2 : DataW.trod enc Tryz.prog w 0 (fun _ => true) held n 3 [v2] = some y2 := by
        have q := hf 2 { name := "N", type := 3, offset := 2, embedded := false, tag := "", pkgPath := "", byteOffset := 16 } rfl
        rw [show Tryz.prog.cellsOf 3 = 1 from Tryz.cells3] at q
        exact q
      obtain ⟨k0, e0, _, g0⟩ := DataW.trod_int Tryz.underlying3 f0
      obtain ⟨k1, e1, _, g1⟩ := DataW.trod_int Tryz.underlying3 f1
      obtain ⟨k2, e2, _, g2⟩ := DataW.trod_int Tryz.underlying3 f2
      simp only [List.cons.injEq, and_true] at e0 e1 e2
      subst e0 e1 e2
      exact ⟨(k0, k1, k2), ⟨wf_i64 g0, wf_i64 g1, wf_i64 g2⟩, q0, q1, q2⟩

/-- A list of acts among the arguments. -/
theorem acts_open {H : Type} {enc : TypeId × Value → H} {w : World} {held : Bool} {a0 : Option Addr} {len cap : Nat} {d : DataW H} {p : List MemPlace} (h : DataW.Trod enc Tryz.prog w 0 (fun _ => true) held 25 (.slice a0 len cap) d p) (hsz : ∀ n ∈ d.weights Tryz.prog 25, n ≤ reachBytes) :
    ∃ acts : List AA, acts.length ≤ 17592186044416 ∧ ActsAt w.heap.size w (.slice a0 len cap) acts := by
  obtain ⟨fuel, hf⟩ := h
  rcases Deep.open_slice Tryz.underlying25 hf with ⟨hcs, _⟩ | ⟨a, len', cap', m, n, D, Pl, hcs, _, hl, hm, hmm, hx, hel⟩
  · simp [Value.cells] at hcs
    obtain ⟨rfl, rfl, rfl⟩ := hcs
    exact ⟨[], by simp, none, 0, rfl, by simp, Or.inl rfl⟩
  · simp [Value.cells] at hcs
    obtain ⟨rfl, rfl, rfl⟩ := hcs
    simp only [if_true] at hmm
    subst hmm
    simp only [Prod.mk.injEq] at hx
    obtain ⟨hd, _⟩ := hx
    have hn : (len + (m - len)) * 24 ≤ reachBytes := by
      refine hsz _ ?_
      rw [hd]
      simp only [DataW.weights, Tryz.underlying25, Tryz.bytes31]
      refine List.mem_cons.2 (Or.inl ?_)
      simp
    have hlb : len ≤ 17592186044416 := by unfold reachBytes at hn; omega
    by_cases hl0 : len = 0
    · subst hl0
      exact ⟨[], by simp, some a, m, rfl, by simp, Or.inl rfl⟩
    · rw [Tryz.cells31] at hel
      obtain ⟨b, off, spot⟩ := a
      obtain ⟨cs0, h1, _⟩ := hel 0 (by omega)
      obtain ⟨_, hlen0, hc0⟩ := World.cells?_some h1
      have h2 := hc0 0 (by omega)
      rw [List.getElem?_eq_getElem (by omega)] at h2
      have hspot : spot = none := by simpa [Addr.add] using World.cell?_spot h2
      subst hspot
      have hblt : b < w.heap.size := by
        have := World.block_lt_of_cell? _ _ h2
        simpa [Addr.add] using this
      have hex : ∀ i, ∃ x : AA, i < len → (I64 x.1 ∧ I64 x.2.1 ∧ I64 x.2.2) ∧ w.cell? ⟨b, off + i * 3, none⟩ = some (.int .i64 x.1) ∧ w.cell? ⟨b, off + i * 3 + 1, none⟩ = some (.int .i64 x.2.1) ∧ w.cell? ⟨b, off + i * 3 + 2, none⟩ = some (.int .i64 x.2.2) := fun i => by
        by_cases hi : i < len
        · obtain ⟨cs', h1, h2⟩ := hel i (by omega)
          rw [Addr.add_lit] at h1
          obtain ⟨x, hx⟩ := act_open h1 h2
          exact ⟨x, fun _ => hx⟩
        · exact ⟨(0, 0, 0), fun h => absurd h hi⟩
      refine ⟨(List.range len).map fun i => (hex i).choose, by simpa using hlb, some ⟨b, off, none⟩, m, by simp, fun x hx => ?_, Or.inr ⟨b, off, rfl, hblt, fun i hi => ?_⟩⟩
      · obtain ⟨i, hi, rfl⟩ := List.mem_map.1 hx
        exact ((hex i).choose_spec (List.mem_range.1 hi)).1
      · have hi' : i < len := by simpa using hi
        have := ((hex i).choose_spec hi').2
        simpa using this

/-- Numbers among the arguments. -/
theorem ints_open {H : Type} {enc : TypeId × Value → H} {w : World} {held : Bool} {a0 : Option Addr} {len cap : Nat} {d : DataW H} {p : List MemPlace} (h : DataW.Trod enc Tryz.prog w 0 (fun _ => true) held 26 (.slice a0 len cap) d p) (hsz : ∀ n ∈ d.weights Tryz.prog 26, n ≤ reachBytes) :
    ∃ zs : List Int, zs.length ≤ 17592186044416 ∧ IntsArg w.heap.size w (.slice a0 len cap) zs := by
  obtain ⟨fuel, hf⟩ := h
  rcases open_ints Tryz.underlying26 Tryz.underlying3 Tryz.cells3 hf with ⟨hv, _⟩ | ⟨a, len', cap', zs, hv, _, hl, hm, hz, hy, hcell, hwf⟩
  · simp [Value.cells] at hv
    obtain ⟨rfl, rfl, rfl⟩ := hv
    exact ⟨[], by simp, none, 0, rfl, by simp, by simp, Or.inl rfl⟩
  · simp [Value.cells] at hv
    obtain ⟨rfl, rfl, rfl⟩ := hv
    simp only [if_true] at hz
    have hy1 : d = .slice (lits .i64 (zs.take len)) (lits .i64 (zs.drop len)) := congrArg Prod.fst hy
    have hw8 : (len + (cap - len)) * 8 ≤ reachBytes := by
      refine hsz _ ?_
      rw [hy1]
      simp only [DataW.weights, Tryz.underlying26, Tryz.bytes3]
      refine List.mem_cons.2 (Or.inl ?_)
      simp [lits, hz, Nat.min_eq_left hl]
    have htl : (zs.take len).length = len := by simp [hz, Nat.min_eq_left hl]
    refine ⟨zs.take len, by rw [htl]; unfold reachBytes at hw8; omega, some a, cap, by rw [htl], by omega, fun x hx => wf_i64 (hwf x (List.mem_of_mem_take hx)), ?_⟩
    by_cases hl0 : len = 0
    · exact Or.inl (by simp [hl0])
    · right
      have h0 := hcell 0 (by omega)
      obtain ⟨b', off', spot⟩ := a
      have hspot : spot = none := by simpa [Addr.add] using World.cell?_spot h0
      subst hspot
      have hbW : b' < w.heap.size := World.block_lt_of_cell? _ _ h0
      refine ⟨b', off', rfl, hbW, fun k hk => ?_⟩
      rw [htl] at hk
      have := hcell k (by omega)
      rw [← Addr.add_lit, this]
      simp [List.getD, List.getElem?_eq_getElem (show k < zs.length by omega)]

end Go.Proofs.YtcfdemhokbddiaaGreatDoor

/-
  Numbers among the arguments, with the bound on all that is handed in.
-/
namespace Go.Proofs.YtcfdemhokbddiaaGreatDoor
open Go.ChangeShapes Go.WideShapes Go.ChangeAt Go.RowKit

theorem bulk_pos {H : Type} (d : DataW H) : 0 < Rows.uptoBulk d := by
  cases d with
  | lit l => cases l <;> simp [Rows.uptoBulk]
  | _ => simp [Rows.uptoBulk]
theorem bulk_count {H : Type} : ∀ l : List (DataW H), l.length ≤ Rows.uptoBulkAll l
  | [] => Nat.zero_le _
  | x :: r => by
    have h1 := bulk_pos x
    have h2 := bulk_count r
    simp only [Rows.uptoBulkAll, List.length_cons]
    omega

theorem ints_open2 {H : Type} {enc : TypeId × Value → H} {w : World} {held : Bool} {a0 : Option Addr} {len cap : Nat} {d : DataW H} {p : List MemPlace} (h : DataW.Trod enc Tryz.prog w 0 (fun _ => true) held 26 (.slice a0 len cap) d p) :
    ∃ zs : List Int, zs.length ≤ Rows.uptoBulk d ∧ IntsArg w.heap.size w (.slice a0 len cap) zs := by
  obtain ⟨fuel, hf⟩ := h
  rcases open_ints Tryz.underlying26 Tryz.underlying3 Tryz.cells3 hf with ⟨hv, _⟩ | ⟨a, len', cap', zs, hv, _, hl, hm, hz, hy, hcell, hwf⟩
  · simp [Value.cells] at hv
    obtain ⟨rfl, rfl, rfl⟩ := hv
    exact ⟨[], by simp, none, 0, rfl, by simp, by simp, Or.inl rfl⟩
  · simp [Value.cells] at hv
    obtain ⟨rfl, rfl, rfl⟩ := hv
    simp only [if_true] at hz
    have hy1 : d = .slice (lits .i64 (zs.take len)) (lits .i64 (zs.drop len)) := congrArg Prod.fst hy
    have htl : (zs.take len).length = len := by simp [hz, Nat.min_eq_left hl]
    have hbk : (zs.take len).length ≤ Rows.uptoBulk d := by
      have h1 := bulk_count (lits (H := H) .i64 (zs.take len))
      have h2 : (lits (H := H) .i64 (zs.take len)).length = (zs.take len).length := by simp [lits]
      rw [hy1]
      simp only [Rows.uptoBulk]
      omega
    refine ⟨zs.take len, hbk, some a, cap, by rw [htl], by omega, fun x hx => wf_i64 (hwf x (List.mem_of_mem_take hx)), ?_⟩
    by_cases hl0 : len = 0
    · exact Or.inl (by simp [hl0])
    · right
      have h0 := hcell 0 (by omega)
      obtain ⟨b', off', spot⟩ := a
      have hspot : spot = none := by simpa [Addr.add] using World.cell?_spot h0
      subst hspot
      have hbW : b' < w.heap.size := World.block_lt_of_cell? _ _ h0
      refine ⟨b', off', rfl, hbW, fun k hk => ?_⟩
      rw [htl] at hk
      have := hcell k (by omega)
      rw [← Addr.add_lit, this]
      simp [List.getD, List.getElem?_eq_getElem (show k < zs.length by omega)]

end Go.Proofs.YtcfdemhokbddiaaGreatDoor
