/-
  Lists of pointers copied; a series copied, a family copied, a series of a family owned; one taken away.
-/
import Derived.Test.YtcfdemhokbddiaaGreatDoorQKj
import Derived.Deep.DeepCutAuto
import Derived.Deep.RegionWith

namespace Go.Proofs.YtcfdemhokbddiaaGreatDoor
open Go.RowKit

def cut1 {α : Type} (l : List α) (i : Nat) : List α := l.take i ++ l.drop (i + 1)
theorem cut1_len {α : Type} (l : List α) (i : Nat) (h : i < l.length) : (cut1 l i).length = l.length - 1 := by simp [cut1]; omega
theorem delRow_take (cur : List Value) (i n cap : Nat) (hi : i < n) (hn : n ≤ cap) (hl : cur.length = cap) : (delRow cur i n).take (n - 1) = cut1 (cur.take n) i := by
  unfold delRow cut1
  rw [List.take_set_of_le (Nat.le_refl _), List.take_append_of_le_length (by simp [hl]; omega), List.take_of_length_le (by simp [hl]; omega), List.take_take, List.drop_take, Nat.min_eq_left (by omega)]
theorem delRow_len (cur : List Value) (i n cap : Nat) (hi : i < n) (hn : n ≤ cap) (hl : cur.length = cap) : (delRow cur i n).length = cap := by
  simp [delRow, hl]; omega

theorem own_emptyF (w : World) : (w.alloc (.cells #[] 112)).ownsRow w.heap.size 112 1 (.slice (some ⟨w.heap.size, 0, none⟩) 0 0) 0 [] :=
  ⟨rfl, Or.inr ⟨w.heap.size, 0, #[], rfl, Nat.le_refl _, by show (w.heap.push _)[w.heap.size]? = _; simp, Nat.le_refl _, by unfold maxLen; omega, rfl, rfl⟩⟩
theorem own_emptyC (w : World) : (w.alloc (.cells #[] 120)).ownsRow w.heap.size 120 1 (.slice (some ⟨w.heap.size, 0, none⟩) 0 0) 0 [] :=
  ⟨rfl, Or.inr ⟨w.heap.size, 0, #[], rfl, Nat.le_refl _, by show (w.heap.push _)[w.heap.size]? = _; simp, Nat.le_refl _, by unfold maxLen; omega, rfl, rfl⟩⟩

set_option maxRecDepth 100000 in
set_option maxHeartbeats 400000 in
theorem cloneF_any (v : Value) (base : Nat) (ps : List Nat) (w : World) (hv : w.ownsRow base 112 1 v ps.length (ptrs ps)) (hl : ps.length ≤ 24) :
    Calls Tryz.prog 99 #[v] w fun e w' => ∃ u, e = .returned u ∧ w'.ownsRow w.heap.size 112 1 u ps.length (ptrs ps) ∧ w.grownBy w' none := by
  obtain ⟨i0, hi, hz0, hz1, hz2⟩ := info_parts Tryz.info112
  have HI : Hid (Tryz.prog.info? 112 = some i0 ∧ i0.zero = some (.pointer none) ∧ i0.size = 1 ∧ i0.bytes = 8) := ⟨hi, hz0, hz1, hz2⟩
  clear hi hz0 hz1 hz2
  have own0 := own_emptyF w
  have hq := fun (w : World) (a : Option Addr) (n c n' c' : Nat) => Lib.run_eql_slice_nil (P := Tryz.prog) w 68 112 a n c n' c' Tryz.underlying68
  obtain ⟨sa, ca, rfl, hc, hxs⟩ := own_shape1 hv
  rcases hxs with ⟨rfl, h0, rfl⟩ | ⟨g, rfl, hg⟩
  · obtain rfl : ps = [] := List.eq_nil_of_length_eq_zero h0
    go_enter Tryz.func99, Tryz.ntmps99
    go_wp2
    go_ret
    exact ⟨_, rfl, World.ownsRow_nil _ _ _ _, gb_refl _ _⟩
  · have HX : Hid (∀ j u, (ptrs ps)[j]? = some u → (w.alloc (.cells #[] 112)).cell? ((⟨g, 0, none⟩ : Addr).add j) = some u) := by
      intro j u hj
      exact own_cells1 (hv.alloc _) rfl j u hj
    have HL : Hid ((ptrs ps).length = ps.length * 1) := by show _ = _; simp [ptrs]
    clear hv
    go_enter Tryz.func99, Tryz.ntmps99
    go_wp2_with (at_builtin; refine wpList_append_own _ rfl _ _ 68 rfl w.heap.size 112 i0 (.pointer none) 1 8 Tryz.underlying68 HI.out.1 HI.out.2.1 HI.out.2.2.1 HI.out.2.2.2 rfl (by decide) _ 0 [] rfl own0 ⟨g, 0, none⟩ ps.length ca (ptrs ps) rfl HL.out HX.out (ptrs_one _) (by unfold maxLen; omega) (by omega) (by simp) ?_; intro u w1 own1 g1 _)
    go_ret
    refine ⟨_, rfl, ?_, gb_new (gb_alloc (gb_refl _ _) _) g1 (Nat.le_refl _)⟩
    rw [Nat.zero_add, List.nil_append] at own1
    exact own1

set_option maxRecDepth 100000 in
set_option maxHeartbeats 400000 in
theorem cloneC_any (v : Value) (base : Nat) (ps : List Nat) (w : World) (hv : w.ownsRow base 120 1 v ps.length (ptrs ps)) (hl : ps.length ≤ 24) :
    Calls Tryz.prog 135 #[v] w fun e w' => ∃ u, e = .returned u ∧ w'.ownsRow w.heap.size 120 1 u ps.length (ptrs ps) ∧ w.grownBy w' none := by
  obtain ⟨i0, hi, hz0, hz1, hz2⟩ := info_parts Tryz.info120
  have HI : Hid (Tryz.prog.info? 120 = some i0 ∧ i0.zero = some (.pointer none) ∧ i0.size = 1 ∧ i0.bytes = 8) := ⟨hi, hz0, hz1, hz2⟩
  clear hi hz0 hz1 hz2
  have own0 := own_emptyC w
  have hq := fun (w : World) (a : Option Addr) (n c n' c' : Nat) => Lib.run_eql_slice_nil (P := Tryz.prog) w 169 120 a n c n' c' Tryz.underlying169
  obtain ⟨sa, ca, rfl, hc, hxs⟩ := own_shape1 hv
  rcases hxs with ⟨rfl, h0, rfl⟩ | ⟨g, rfl, hg⟩
  · obtain rfl : ps = [] := List.eq_nil_of_length_eq_zero h0
    go_enter Tryz.func135, Tryz.ntmps135
    go_wp2
    go_ret
    exact ⟨_, rfl, World.ownsRow_nil _ _ _ _, gb_refl _ _⟩
  · have HX : Hid (∀ j u, (ptrs ps)[j]? = some u → (w.alloc (.cells #[] 120)).cell? ((⟨g, 0, none⟩ : Addr).add j) = some u) := by
      intro j u hj
      exact own_cells1 (hv.alloc _) rfl j u hj
    have HL : Hid ((ptrs ps).length = ps.length * 1) := by show _ = _; simp [ptrs]
    clear hv
    go_enter Tryz.func135, Tryz.ntmps135
    go_wp2_with (at_builtin; refine wpList_append_own _ rfl _ _ 169 rfl w.heap.size 120 i0 (.pointer none) 1 8 Tryz.underlying169 HI.out.1 HI.out.2.1 HI.out.2.2.1 HI.out.2.2.2 rfl (by decide) _ 0 [] rfl own0 ⟨g, 0, none⟩ ps.length ca (ptrs ps) rfl HL.out HX.out (ptrs_one _) (by unfold maxLen; omega) (by omega) (by simp) ?_; intro u w1 own1 g1 _)
    go_ret
    refine ⟨_, rfl, ?_, gb_new (gb_alloc (gb_refl _ _) _) g1 (Nat.le_refl _)⟩
    rw [Nat.zero_add, List.nil_append] at own1
    exact own1

theorem us4 {x : Cnt} (h : x.us.length = 4) : ∃ u0 u1 u2 u3, x.us = [u0, u1, u2, u3] := by
  match hx : x.us, h with
  | [a, b, c, d], _ => exact ⟨a, b, c, d, rfl⟩

set_option maxHeartbeats 400000 in
theorem cntCopied_any (c ac ag : Nat) (x : Cnt) (w : World) (hc : w.heap[c]? = some (cntObj ac x)) (h4 : x.us.length = 4) :
    Calls Tryz.prog 105 #[.pointer (some ⟨c, 0, none⟩), .int .i64 (ag : Int)] w fun e w' => e = .returned (.pointer (some ⟨w.heap.size, 0, none⟩)) ∧ w'.heap[w.heap.size]? = some (cntObj ag x) ∧ w.grownBy w' none := by
  obtain ⟨u0, u1, u2, u3, hu⟩ := us4 h4
  obtain ⟨pl, nu, al, us⟩ := x
  simp only at hu
  subst hu
  have e0 : w.cell? ⟨c, 0, none⟩ = some (.int .i64 (ac : Int)) := by simp [World.cell?, hc, cntObj]
  have e1 : w.cell? ⟨c, 1, none⟩ = some (.string (B pl)) := by simp [World.cell?, hc, cntObj]
  have e2 : w.cell? ⟨c, 2, none⟩ = some (.int .i64 nu) := by simp [World.cell?, hc, cntObj]
  have e3 : w.cell? ⟨c, 3, none⟩ = some (.int .i64 al) := by simp [World.cell?, hc, cntObj]
  have e4 : w.cell? ⟨c, 4, none⟩ = some (.int .i64 u0) := by simp [World.cell?, hc, cntObj, ints]
  have e5 : w.cell? ⟨c, 5, none⟩ = some (.int .i64 u1) := by simp [World.cell?, hc, cntObj, ints]
  have e6 : w.cell? ⟨c, 6, none⟩ = some (.int .i64 u2) := by simp [World.cell?, hc, cntObj, ints]
  have e7 : w.cell? ⟨c, 7, none⟩ = some (.int .i64 u3) := by simp [World.cell?, hc, cntObj, ints]
  clear hc h4
  go_enter Tryz.func105, Tryz.ntmps105
  go_wp2
  go_ret
  refine ⟨rfl, ?_, gb_alloc (gb_refl _ _) _⟩
  rw [alloc_new _ _ _ rfl]
  simp [cntObj, ints]

set_option maxHeartbeats 400000 in
theorem famCopied_any (f ag a2 : Nat) (nm : List UInt8) (kind : Int) (lv sv : Value) (ps : List Nat) (ls : List Int) (w : World) (hf : w.heap[f]? = some (famObj ag nm kind lv sv)) (hlv : w.ownsRow 0 3 1 lv ls.length (ints ls)) (hsv : w.ownsRow 0 120 1 sv ps.length (ptrs ps)) (hl : ps.length ≤ 24) :
    Calls Tryz.prog 100 #[.pointer (some ⟨f, 0, none⟩), .int .i64 (a2 : Int)] w fun e w' => ∃ sv', e = .returned (.pointer (some ⟨w.heap.size, 0, none⟩)) ∧ w'.heap[w.heap.size]? = some (famObj a2 nm kind lv sv') ∧ w'.ownsRow (w.heap.size + 1) 120 1 sv' ps.length (ptrs ps) ∧ w.grownBy w' none := by
  obtain ⟨c0, c1, c2, c3, _⟩ := fam_cells hf
  have cA := fam_age hf
  obtain ⟨la, lc, rfl, _, _⟩ := own_shape1 hlv
  obtain ⟨sa, sc, rfl, _, _⟩ := own_shape1 hsv
  obtain ⟨W, hW⟩ : ∃ W, W = w.alloc (famObj a2 nm kind (.slice la ls.length lc) (.slice sa ps.length sc)) := ⟨_, rfl⟩
  have gW : w.grownBy W none := by rw [hW]; exact gb_alloc (gb_refl _ _) _
  have bW : W.heap[w.heap.size]? = some (famObj a2 nm kind (.slice la ls.length lc) (.slice sa ps.length sc)) := by
    rw [hW]; exact alloc_new _ _ _ rfl
  have hWz : W.heap.size = w.heap.size + 1 := by rw [hW]; simp
  have HC : Hid (Calls Tryz.prog 135 #[.slice sa ps.length sc] W _) := cloneC_any _ 0 ps W (hsv.kept gW (ownNe _)) hl
  have d3 := gb_cell gW c3 (by simp)
  have HWE : Hid (w.alloc (.cells #[.int .i64 (a2 : Int), .string (B nm), .int .i64 kind, .slice la ls.length lc, .slice sa ps.length sc] 171) = W) := hW.symm
  have HWB : Hid (W.heap[w.heap.size]? = some (famObj a2 nm kind (.slice la ls.length lc) (.slice sa ps.length sc))) := bW
  clear hW hf hlv hsv bW
  go_enter Tryz.func100, Tryz.ntmps100
  go_upto_region 3 with fail
  rw [HWE.out]
  go_wp2_with fail
  refine HC.out.mono ?_
  rintro e w1 ⟨u, rfl, own1, g1⟩
  obtain ⟨ua, uc, rfl, _, _⟩ := own_shape1 own1
  have b1 : w1.heap[w.heap.size]? = some (famObj a2 nm kind (.slice la ls.length lc) (.slice sa ps.length sc)) := (g1.block _ (by omega) (by simp)).trans HWB.out
  have z1 := (fam_cells b1).2.2.2.2
  have x1 := (fam_cells b1).2.2.2.1
  have HO : Hid (w1.ownsRow (w.heap.size + 1) 120 1 (.slice ua ps.length uc) ps.length (ptrs ps)) := by rw [hWz] at own1; exact own1
  have HB1 : Hid (w1.heap[w.heap.size]? = some (famObj a2 nm kind (.slice la ls.length lc) (.slice sa ps.length sc))) := b1
  have G1 := gb_trans gW g1
  clear own1 b1 g1
  go_wp2
  go_ret
  refine ⟨_, rfl, fam_set HB1.out _, own_set (R := w.heap.size) HO.out (by omega), gb_on G1 (Nat.le_refl _)⟩

set_option maxHeartbeats 400000 in
theorem remove_any (f ag g cap i : Nat) (nm : List UInt8) (kind : Int) (lv : Value) (ps : List Nat) (w : World) (hf : w.heap[f]? = some (famObj ag nm kind lv (.slice (some ⟨g, 0, none⟩) ps.length cap)))
    (hown : w.ownsRow 0 120 1 (.slice (some ⟨g, 0, none⟩) ps.length cap) ps.length (ptrs ps)) (hi : i < ps.length) (hl : ps.length ≤ 100) :
    Calls Tryz.prog 79 #[.pointer (some ⟨f, 0, none⟩), .int .i64 (i : Int)] w
      fun e w' => e = .returned (.tuple #[]) ∧ w'.heap[f]? = some (famObj ag nm kind lv (.slice (some ⟨g, 0, none⟩) (ps.length - 1) cap)) ∧ w'.ownsRow 0 120 1 (.slice (some ⟨g, 0, none⟩) (ps.length - 1) cap) (ps.length - 1) (ptrs (cut1 ps i)) ∧ Kept [f, g] w w' := by
  obtain ⟨c0, c1, c2, c3, f3⟩ := fam_cells hf
  have hfl := lt_of hf
  obtain ⟨cur, hg, hn, hcm, hcs, htake⟩ : ∃ cur, w.heap[g]? = some (.cells cur 120) ∧ ps.length ≤ cap ∧ cap ≤ maxLen ∧ cur.size = cap ∧ cur.toList.take ps.length = ptrs ps := by
    rcases hown.2 with ⟨h1, _⟩ | ⟨g', cap', cur, h1, h2, h3, h4, h5, h6, h7⟩
    · simp at h1
    · simp at h1; obtain ⟨rfl, rfl⟩ := h1; exact ⟨cur, h3, h4, h5, by simpa using h6, by simpa using h7⟩
  have hfg : f ≠ g := fun e => by rw [e, hg] at hf; simp [famObj] at hf
  have HD : Hid (Calls Tryz.prog 115 #[.slice (some ⟨g, 0, none⟩) ps.length cap, .int .i64 (i : Int), .int .i64 ((i : Int) + 1)] w _) := delete_any g cap i ps.length cur w hg hi hn hcs hcm (fun v hv => ptrs_one ps v (by rw [← htake]; exact hv))
  have hcl : cur.toList.length = cap := by simpa using hcs
  have HT : Hid ((delRow cur.toList i ps.length).take (ps.length - 1) = ptrs (cut1 ps i)) := by
    show _ = _
    rw [delRow_take _ _ _ cap hi hn hcl, htake]; simp [cut1, ptrs]
  have HL : Hid ((delRow cur.toList i ps.length).length = cap) := delRow_len _ _ _ _ hi hn hcl
  have HF : Hid (w.heap[f]? = some (famObj ag nm kind lv (.slice (some ⟨g, 0, none⟩) ps.length cap))) := hf
  clear hown hcl htake hf hg hcs
  go_enter Tryz.func79, Tryz.ntmps79
  go_wp2_with fail
  refine HD.out.mono ?_
  rintro e w1 ⟨rfl, h1, g1⟩
  have hf1 := (g1.block f hfl (by simpa using hfg)).trans HF.out
  obtain ⟨d0, d1, d2, d3, z3⟩ := fam_cells hf1
  have HF1 : Hid (w1.heap[f]? = some (famObj ag nm kind lv (.slice (some ⟨g, 0, none⟩) ps.length cap))) := hf1
  have H1 : Hid (w1.heap[g]? = some (.cells (delRow cur.toList i ps.length).toArray 120)) := h1
  clear h1 hf1 HD HF
  go_wp2
  go_end0
  refine ⟨rfl, fam_set HF1.out _, ⟨?_, Or.inr ⟨g, cap, (delRow cur.toList i ps.length).toArray, rfl, Nat.zero_le _, ?_, by omega, hcm, ?_, ?_⟩⟩, ?_⟩
  · rw [ptrs_len, cut1_len _ _ hi, Nat.mul_one]
  · rw [Below.heap_setCell _ _ _ _ (by show g ≠ f; exact fun e => hfg e.symm)]; exact H1.out
  · simpa using HL.out
  · simpa using HT.out
  · have hk1 : Kept [f, g] w w1 := Kept.of_some g1 _ (Or.inl (by simp))
    exact hk1.trans (Kept.of_some (gb_setCell _ _ _ _) _ (Or.inl (by simp)))

theorem cut1_map {α β : Type} (f : α → β) (l : List α) (i : Nat) : (cut1 l i).map f = cut1 (l.map f) i := by simp [cut1]
theorem cut1_mem {α : Type} {l : List α} {i : Nat} {x : α} (h : x ∈ cut1 l i) : x ∈ l := by
  simp only [cut1, List.mem_append] at h
  rcases h with h | h
  · exact List.mem_of_mem_take h
  · exact List.mem_of_mem_drop h
theorem cut1_nodup {α : Type} {l : List α} (i : Nat) (h : l.Nodup) : (cut1 l i).Nodup := by
  refine h.sublist ?_
  have : l.Sublist l := List.Sublist.refl l
  unfold cut1
  conv => rhs; rw [← List.take_append_drop i l]
  refine List.Sublist.append (List.Sublist.refl _) ?_
  rw [show l.drop (i + 1) = (l.drop i).drop 1 from by rw [List.drop_drop]]
  exact List.drop_sublist _ _
theorem kins_map {α β : Type} (f : α → β) (l : List α) (i : Nat) (x : α) : (kins l i x).map f = kins (l.map f) i (f x) := by simp [kins]
theorem kins_mem {α : Type} {l : List α} {i : Nat} {x y : α} (h : y ∈ kins l i x) : y = x ∨ y ∈ l := by
  simp only [kins, List.mem_append, List.mem_cons] at h
  rcases h with h | h | h
  · exact Or.inr (List.mem_of_mem_take h)
  · exact Or.inl h
  · exact Or.inr (List.mem_of_mem_drop h)
theorem kins_nodup {α : Type} {l : List α} {i : Nat} {x : α} (h : l.Nodup) (hx : x ∉ l) : (kins l i x).Nodup := by
  have h' : (l.take i ++ l.drop i).Nodup := by rw [List.take_append_drop]; exact h
  unfold kins
  rw [List.nodup_append] at h' ⊢
  refine ⟨h'.1, List.nodup_cons.2 ⟨fun hm => hx (List.mem_of_mem_drop hm), h'.2.1⟩, fun a ha b hb e => ?_⟩
  subst e
  rw [List.mem_cons] at hb
  rcases hb with rfl | hb
  · exact hx (List.mem_of_mem_take ha)
  · exact h'.2.2 a ha a hb rfl


end Go.Proofs.YtcfdemhokbddiaaGreatDoor

/-
  The board's memory turned: labels of new blocks; one family's blocks turned, a family put in another's place or laid in; what is asked of a board that stands.
-/
namespace Go.Proofs.YtcfdemhokbddiaaGreatDoor
open Go.RowKit

/-- Blocks below n keep their labels, those that have come get new ones. -/
def patch (n m : Nat) (lab new : Nat → Role) (k : Nat) : Role := if k < n then lab k else if k < m then new k else .out
theorem patch_old {n m : Nat} {lab new : Nat → Role} {k : Nat} (h : k < n) : patch n m lab new k = lab k := by simp [patch, h]
theorem patch_new {n m : Nat} {lab new : Nat → Role} {k : Nat} (h : n ≤ k) (h2 : k < m) : patch n m lab new k = new k := by
  unfold patch; rw [if_neg (by omega), if_pos h2]
theorem patch_dom {n m : Nat} {lab new : Nat → Role} {k : Nat} (h : patch n m lab new k ≠ .out) : lab k ≠ .out ∨ (n ≤ k ∧ k < m) := by
  unfold patch at h
  split at h
  · exact Or.inl h
  · split at h
    · exact Or.inr ⟨by omega, by assumption⟩
    · exact absurd rfl h

/-- A family whose series are in order, its number of them bounded. -/
structure GF.Ok (m : Nat) (g : GF) : Prop where
  kind : g.kind = 1 ∨ g.kind = 2 ∨ g.kind = 3
  lims : g.ls.length ≤ 4 ∧ KSrt ltI g.ls
  srt : KSrt lt (g.ser.map fun c => c.x.plain)
  len : g.ser.length ≤ 24
  each : ∀ c ∈ g.ser, CntOk m c.x
  ages : ∀ c ∈ g.ser, c.age ≤ g.age
  lb : ∀ x ∈ g.ls, -1000000000 ≤ x ∧ x ≤ 1000000000
theorem GF.Ok.mono {m k : Nat} {g : GF} (h : GF.Ok m g) (hk : m ≤ k) : GF.Ok k g := ⟨h.kind, h.lims, h.srt, h.len, fun c hc => (h.each c hc).mono hk, h.ages, h.lb⟩

/-- The board t has become t', its families are F now; its readings are what they were. -/
structure Upd (t t' : GT) (w w' : World) (F : List GF) : Prop where
  at_ : GT.At w' t'
  fams : t'.fams = F
  b : t'.b = t.b
  age : t'.age = t.age
  rds : t'.rds = t.rds
  lage : t.lage ≤ t.age → t'.lage ≤ t'.age
  kept : Kept t.own w w'
  sub : ∀ x ∈ t'.own, x ∈ t.own ∨ w.heap.size ≤ x
theorem Upd.same {t : GT} {w w' : World} (h : GT.At w t) (hg : w.grownBy w' none) : Upd t t w w' t.fams :=
  ⟨h.gb hg, rfl, rfl, rfl, rfl, fun h => h, Kept.of_none hg _, fun _ hx => Or.inl hx⟩
theorem Upd.trans {t t1 t2 : GT} {w w1 w2 : World} {F1 F2 : List GF} (h : Upd t t1 w w1 F1) (k : Upd t1 t2 w1 w2 F2) : Upd t t2 w w2 F2 :=
  ⟨k.at_, k.fams, k.b.trans h.b, k.age.trans h.age, k.rds.trans h.rds, fun hl => k.lage (h.lage hl), h.kept.then k.kept h.sub, fun x hx => by
    rcases k.sub x hx with h1 | h1
    · exact h.sub x h1
    · exact Or.inr (Nat.le_trans h.kept.size h1)⟩
theorem Upd.from {t t' : GT} {w w1 w' : World} {F : List GF} (hg : w.grownBy w1 none) (h : Upd t t' w1 w' F) : Upd t t' w w' F :=
  ⟨h.at_, h.fams, h.b, h.age, h.rds, h.lage, (Kept.of_none hg _).trans h.kept, fun x hx => by
    rcases h.sub x hx with h1 | h1
    · exact Or.inl h1
    · exact Or.inr (Nat.le_trans hg.size h1)⟩
theorem Upd.to {t t' : GT} {w w1 w' : World} {F : List GF} (h : Upd t t' w w1 F) (hg : w1.grownBy w' none) : Upd t t' w w' F :=
  ⟨h.at_.gb hg, h.fams, h.b, h.age, h.rds, h.lage, h.kept.trans (Kept.of_none hg _), h.sub⟩

theorem sub_came {own : List Nat} {w w' : World} : ∀ x ∈ own ++ came w w', x ∈ own ∨ w.heap.size ≤ x := by
  intro x hx
  rw [List.mem_append] at hx
  rcases hx with hx | hx
  · exact Or.inl hx
  · exact Or.inr (came_mem.1 hx).1

/-- One family's own blocks are turned. -/
theorem upd_fam {t : GT} {w w' : World} (h : GT.At w t) {A B : List GF} {g g' : GF} (e : t.fams = A ++ g :: B) (hdist : ∀ k, k ∈ A ∨ k ∈ B → k.nm ≠ g.nm) (hb : g'.b = g.b) (hnm : g'.nm = g.nm) (hage : g'.age = t.age)
    (hat : GF.At w' g') (new : Nat → Role) (hlab : GF.Lab (patch w.heap.size w'.heap.size t.lab new) t.age g') (L : List Nat) (hk : Kept L w w') (hL : ∀ b ∈ L, (t.lab b).nm = some g.nm) :
    Upd t { t with fams := A ++ g' :: B, lab := patch w.heap.size w'.heap.size t.lab new, own := t.own ++ came w w' } w w' (A ++ g' :: B) := by
  have hat' := GT.upd h e hdist hb hnm hage hat (patch w.heap.size w'.heap.size t.lab new) hlab (fun k hk' _ => patch_old hk') (fun k hk' hn => hk.block k hk' (fun hm => hn (hL k hm))) (fun k hk' => patch_dom hk') hk.size
  refine ⟨hat', rfl, rfl, rfl, rfl, fun h => h, ⟨hk.os, hk.tape, hk.output, hk.size, fun k hk' hn => hk.block k hk' (fun hm => ?_)⟩, sub_came⟩
  have := hL k hm
  exact hn (h.dom k (fun e => by rw [e] at this; cases this))

/-- The list of families is another one, some of them new; the board's own block tells so. -/
theorem upd_list {t : GT} {w w' : World} (h : GT.At w t) (F : List GF) (fv' : Value) (new : Nat → Role)
    (hb : w'.heap[t.b]? = some (brdObj t.age t.age fv' (t.rds.map rdPtr))) (hrow : w'.ownsRow 0 112 1 fv' F.length (ptrs (F.map GF.b))) (hfv : ∀ b ∈ fv'.ownBlock.toList, patch w.heap.size w'.heap.size t.lab new b = .lst)
    (hF : ∀ g ∈ F, g ∈ t.fams ∨ (GF.At w' g ∧ g.age = t.age ∧ GF.Lab (patch w.heap.size w'.heap.size t.lab new) t.age g))
    (L : List Nat) (hk : Kept L w w') (hL : ∀ b ∈ L, t.lab b = .brd ∨ t.lab b = .lst) :
    Upd t { t with lage := t.age, fv := fv', fams := F, lab := patch w.heap.size w'.heap.size t.lab new, own := t.own ++ came w w' } w w' F := by
  have hsz := hk.size
  have hsame : ∀ k, k < w.heap.size → t.lab k ≠ .brd → t.lab k ≠ .lst → w'.heap[k]? = w.heap[k]? := fun k hk' h1 h2 => hk.block k hk' (fun hm => by rcases hL k hm with h | h <;> contradiction)
  have hshr : ∀ k, k < w.heap.size → t.lab k = .shr → w'.heap[k]? = w.heap[k]? := fun k hk' e => hsame k hk' (by rw [e]; simp) (by rw [e]; simp)
  have hfoot : ∀ g ∈ t.fams, ∀ b ∈ g.foot, w'.heap[b]? = w.heap[b]? := fun g hg b hb => by
    have hlt := (h.each g hg).lt b hb
    rcases (h.labF g hg).nm b hb with h1 | h1
    · exact hsame b hlt (fun e => by rw [e] at h1; cases h1) (fun e => by rw [e] at h1; cases h1)
    · exact hshr b hlt h1
  obtain ⟨n1, n2⟩ := own_came (w' := w') h.nodup h.lt hsz
  refine ⟨⟨hb, hrow, ?_, ?_, ?_, ?_, ?_, ?_, ?_, n2, n1⟩, rfl, rfl, rfl, rfl, fun _ => Nat.le_refl _, ⟨hk.os, hk.tape, hk.output, hk.size, fun k hk' hn => hk.block k hk' (fun hm => ?_)⟩, sub_came⟩
  · intro g hg
    rcases hF g hg with hg' | ⟨hg', _, _⟩
    · exact (h.each g hg').frame (hfoot g hg')
    · exact hg'
  · intro r hr
    obtain ⟨⟨i, e⟩, h2⟩ := h.labR' hr
    exact (h.read r hr).frame hsz (hsame _ (lt_of (h.read r hr).blk) (by rw [e]; simp) (by rw [e]; simp)) fun b hb => hshr b ((h.read r hr).lt b hb) (h2 b hb)
  · exact (patch_old (lt_of h.blk)).trans h.labB
  · intro b hb
    show _ = if t.age = t.age then Role.lst else Role.shr
    rw [if_pos rfl]
    exact hfv b hb
  · intro g hg
    rcases hF g hg with hg' | ⟨_, he, hl⟩
    · exact (h.labF g hg').congr fun b hb => patch_old ((h.each g hg').lt b hb)
    · show GF.Labd _ t.age g
      unfold GF.Labd
      rw [if_pos he]; exact hl
  · intro i r hr
    have hm : some r ∈ t.rds := List.mem_of_getElem? hr
    obtain ⟨h1, h2⟩ := h.labR i r hr
    exact ⟨(patch_old (lt_of (h.read r hm).blk)).trans h1, fun b hb => (patch_old ((h.read r hm).lt b hb)).trans (h2 b hb)⟩
  · intro b hb
    rw [List.mem_append]
    rcases patch_dom hb with h1 | h1
    · exact Or.inl (h.dom b h1)
    · exact Or.inr (came_mem.2 h1)
  · have := hL k hm
    exact hn (h.dom k (fun e => by rw [e] at this; rcases this with h | h <;> cases h))

/-- A family's series as they may be turned: each row of them. -/
theorem fam_at {w w' : World} {g : GF} (h : GF.At w g) (hlow : ∀ b ∈ g.lv.ownBlock.toList, w'.heap[b]? = w.heap[b]?) {ser : List GC} {sv : Value} {g' : GF} (hg : g' = { g with sv := sv, ser := ser, age := g'.age, b := g'.b }) (hb : w'.heap[g'.b]? = some (famObj g'.age g.nm g.kind g.lv sv))
    (hr : w'.ownsRow 0 120 1 sv ser.length (ptrs (ser.map GC.b))) (hc : ∀ c ∈ ser, w'.heap[c.b]? = some (cntObj c.age c.x)) : GF.At w' g' := by
  rw [hg]
  exact ⟨hb, own_frame h.lims hlow, hr, hc⟩

end Go.Proofs.YtcfdemhokbddiaaGreatDoor
