import Derived.Test.YtecmkooiaghgcaaGreatDoorLi
import Derived.ProofKit
import Derived.SizedLaws
import Derived.Deep.Slices

namespace Go.Proofs.YtecmkooiaghgcaaGreatDoor
open Go.ChangeShapes Go.WideShapes Go.ChangeAt Go.RowKit

theorem Tryz.cells33 : Tryz.prog.cellsOf 33 = 6 := by kernel_rfl
theorem Tryz.cells28 : Tryz.prog.cellsOf 28 = 1 := by kernel_rfl
theorem Tryz.cells3 : Tryz.prog.cellsOf 3 = 1 := by kernel_rfl
theorem Tryz.cells9 : Tryz.prog.cellsOf 9 = 1 := by kernel_rfl
theorem Tryz.bytes33 : Tryz.prog.bytesOf 33 = 72 := by kernel_rfl
theorem Tryz.bytes3 : Tryz.prog.bytesOf 3 = 8 := by kernel_rfl

theorem weights_all_mem {H : Type} {P : Program} {e : TypeId} : ∀ {l : List (DataW H)} {d : DataW H}, d ∈ l → ∀ n ∈ d.weights P e, n ∈ DataW.weightsAll P e l
  | x :: r, d, h, n, hn => by
    simp only [DataW.weightsAll, List.mem_append]
    rcases List.mem_cons.1 h with rfl | h
    · exact Or.inl hn
    · exact Or.inr (weights_all_mem h n hn)

/-- One step among the arguments, opened. -/
theorem step_open {H : Type} {enc : TypeId × Value → H} {w : World} {held : Bool} {m : Nat} {cs : List Value} {d : DataW H} {pl : List MemPlace} {b o : Nat}
    (hcs : w.cells? 0 ⟨b, o, none⟩ 6 = some cs) (h : DataW.trod enc Tryz.prog w 0 (fun _ => true) held m 33 cs = some (d, pl)) (hsz : ∀ n ∈ d.weights Tryz.prog 33, n ≤ reachBytes) :
    ∃ kind e s a c v xs, StepIs w b o kind e s a c v xs := by
  obtain ⟨_, hlen, hc⟩ := World.cells?_some hcs
  match cs, hlen with
  | [v0, v1, v2, v3, v4, v5], _ =>
    have q0 : w.cell? ⟨b, o, none⟩ = some v0 := by simpa [Addr.add] using hc 0 (by omega)
    have q1 : w.cell? ⟨b, o + 1, none⟩ = some v1 := by simpa [Addr.add] using hc 1 (by omega)
    have q2 : w.cell? ⟨b, o + 2, none⟩ = some v2 := by simpa [Addr.add] using hc 2 (by omega)
    have q3 : w.cell? ⟨b, o + 3, none⟩ = some v3 := by simpa [Addr.add] using hc 3 (by omega)
    have q4 : w.cell? ⟨b, o + 4, none⟩ = some v4 := by simpa [Addr.add] using hc 4 (by omega)
    have q5 : w.cell? ⟨b, o + 5, none⟩ = some v5 := by simpa [Addr.add] using hc 5 (by omega)
    obtain ⟨ys, n, _, hx, _, hyl, hf⟩ := DataW.trod_struct Tryz.underlying33 h
    match ys, hyl with
    | [y0, y1, y2, y3, y4, y5], _ =>
      have f0 : DataW.trod enc Tryz.prog w 0 (fun _ => true) held n 3 [v0] = some y0 := by
        have q := hf 0 { name := "Kind", type := 3, offset := 0, embedded := false, tag := "", pkgPath := "", byteOffset := 0 } rfl
        rw [show Tryz.prog.cellsOf 3 = 1 from Tryz.cells3] at q
        exact q
      have f1 : DataW.trod enc Tryz.prog w 0 (fun _ => true) held n 3 [v1] = some y1 := by
        have q := hf 1 { name := "E", type := 3, offset := 1, embedded := false, tag := "", pkgPath := "", byteOffset := 8 } rfl
        rw [show Tryz.prog.cellsOf 3 = 1 from Tryz.cells3] at q
        exact q
      have f2 : DataW.trod enc Tryz.prog w 0 (fun _ => true) held n 9 [v2] = some y2 := by
        have q := hf 2 { name := "S", type := 9, offset := 2, embedded := false, tag := "", pkgPath := "", byteOffset := 16 } rfl
        rw [show Tryz.prog.cellsOf 9 = 1 from Tryz.cells9] at q
        exact q
      have f3 : DataW.trod enc Tryz.prog w 0 (fun _ => true) held n 3 [v3] = some y3 := by
        have q := hf 3 { name := "A", type := 3, offset := 3, embedded := false, tag := "", pkgPath := "", byteOffset := 32 } rfl
        rw [show Tryz.prog.cellsOf 3 = 1 from Tryz.cells3] at q
        exact q
      have f4 : DataW.trod enc Tryz.prog w 0 (fun _ => true) held n 3 [v4] = some y4 := by
        have q := hf 4 { name := "B", type := 3, offset := 4, embedded := false, tag := "", pkgPath := "", byteOffset := 40 } rfl
        rw [show Tryz.prog.cellsOf 3 = 1 from Tryz.cells3] at q
        exact q
      have f5 : DataW.trod enc Tryz.prog w 0 (fun _ => true) held n 28 [v5] = some y5 := by
        have q := hf 5 { name := "L", type := 28, offset := 5, embedded := false, tag := "", pkgPath := "", byteOffset := 48 } rfl
        rw [show Tryz.prog.cellsOf 28 = 1 from Tryz.cells28] at q
        exact q
      obtain ⟨k0, e0, _, _⟩ := DataW.trod_int Tryz.underlying3 f0
      obtain ⟨k1, e1, _, g1⟩ := DataW.trod_int Tryz.underlying3 f1
      obtain ⟨k2, e2, _, _⟩ := DataW.trod_string Tryz.underlying9 f2
      obtain ⟨k3, e3, _, _⟩ := DataW.trod_int Tryz.underlying3 f3
      obtain ⟨k4, e4, _, _⟩ := DataW.trod_int Tryz.underlying3 f4
      simp only [List.cons.injEq, and_true] at e0 e1 e2 e3 e4
      subst e0 e1 e2 e3 e4
      have g1' : -9223372036854775808 ≤ k1 ∧ k1 ≤ 9223372036854775807 := by
        simp only [Lit.wf, Bool.and_eq_true, decide_eq_true_eq] at g1
        rw [show IntKind.i64.min = -9223372036854775808 by decide, show IntKind.i64.max = 9223372036854775807 by decide] at g1
        exact g1
      simp only [Prod.mk.injEq] at hx
      obtain ⟨hd, _⟩ := hx
      rcases open_ints Tryz.underlying28 Tryz.underlying3 Tryz.cells3 f5 with ⟨hv, _⟩ | ⟨a, len, cap, zs, hv, _, hl, hm, hz, hy, hcell, _⟩
      · simp only [List.cons.injEq, and_true] at hv
        subst hv
        exact ⟨k0, k1, k2, k3, k4, _, [], ⟨q0, q1, q2, q3, q4, q5, g1', ⟨none, 0, rfl, Nat.le_refl _, Or.inl rfl⟩, Nat.zero_le _⟩⟩
      · simp only [List.cons.injEq, and_true] at hv
        subst hv
        simp only [if_true] at hz
        have hy1 : y5.1 = .slice (lits .i64 (zs.take len)) (lits .i64 (zs.drop len)) := congrArg Prod.fst hy
        have hw8 : (len + (cap - len)) * 8 ≤ reachBytes := by
          refine hsz _ ?_
          rw [hd]
          simp only [DataW.weights, Tryz.underlying33, List.map_cons, List.map_nil, DataW.weightsEach, hy1, Tryz.underlying28, Tryz.bytes3, List.mem_append, List.append_nil]
          iterate 5 refine Or.inr ?_
          refine List.mem_cons.2 (Or.inl ?_)
          simp [lits, hz, Nat.min_eq_left hl]
        have htl : (zs.take len).length = len := by simp [hz, Nat.min_eq_left hl]
        refine ⟨k0, k1, k2, k3, k4, _, zs.take len, ⟨q0, q1, q2, q3, q4, q5, g1', ⟨some a, cap, by rw [htl], by omega, ?_⟩, ?_⟩⟩
        · by_cases hl0 : len = 0
          · exact Or.inl (by simp [hl0])
          · right
            have h0 := hcell 0 (by omega)
            obtain ⟨b', off', spot⟩ := a
            have hspot : spot = none := by simpa [Addr.add] using World.cell?_spot h0
            subst hspot
            have hbW : b' < w.heap.size := World.block_lt_of_cell? _ _ h0
            refine ⟨b', off', rfl, by simp, hbW, fun k hk => ?_⟩
            have := hcell k (by omega)
            rw [← Addr.add_lit, this]
            simp [List.getD, List.getElem?_eq_getElem (show k < zs.length by omega)]
        · unfold reachBytes at hw8
          omega

end Go.Proofs.YtecmkooiaghgcaaGreatDoor
