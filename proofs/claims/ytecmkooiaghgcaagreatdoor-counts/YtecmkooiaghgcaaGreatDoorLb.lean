/-
  The law's small functions: New, the board's three calls, num, plains, pick, lent, part.
-/
import Derived.Test.YtecmkooiaghgcaaGreatDoorLa

namespace Go.Proofs.YtecmkooiaghgcaaGreatDoor
open Go.RowKit

set_option maxHeartbeats 400000 in
theorem new_any (w : World) : Calls Tryz.prog 30 #[] w fun e w' => e = .returned (.pointer (some ⟨w.heap.size, 0, none⟩)) ∧ w' = w.alloc (.cells #[.slice none 0 0] 80) := by
  go_enter Tryz.func30, Tryz.ntmps30
  go_wp2
  go_ret
  exact ⟨rfl, rfl⟩

set_option maxHeartbeats 400000 in
theorem bFamily_any (t : GT) (nm : List UInt8) (kind : Int) (v : Value) (xs : List Int) (m : Nat) (w : World) (h : GT.At w t) (ho : GT.Ok m t) (hv : IntSl w v xs) (hm : xs.length ≤ 9223372036854775807) :
    Calls Tryz.prog 12 #[.pointer (some ⟨t.b, 0, none⟩), .string (B nm), .int .i64 kind, v] w fun e w' => ∃ t' code, e = .returned (.int .i64 code) ∧ Out m t t' w w' ∧ FamOut t.view nm kind xs code t'.view := by
  have HF : Hid (Calls Tryz.prog 33 #[.pointer (some ⟨t.b, 0, none⟩), .string (B nm), .int .i64 kind, v] w _) := tallyFamily_any t nm kind v xs m w h ho hv hm
  clear h ho hv
  go_enter Tryz.func12, Tryz.ntmps12
  go_wp2_with fail
  refine HF.out.mono ?_
  rintro e w1 ⟨t', code, rfl, h1, h2⟩
  go_wp2
  go_ret
  exact ⟨t', code, rfl, h1, h2⟩

set_option maxHeartbeats 400000 in
theorem bChange_any (t : GT) (s : ByteArray) (n : Int) (m : Nat) (w : World) (h : GT.At w t) (ho : GT.Ok m t) (hm : m ≤ 4611686018427387904) :
    Calls Tryz.prog 17 #[.pointer (some ⟨t.b, 0, none⟩), .string s, .int .i64 n] w fun e w' => ∃ t' code, e = .returned (.int .i64 code) ∧ Out (m + 1) t t' w w' ∧ ChgOut t.view s.data.toList n code t'.view := by
  have HF : Hid (Calls Tryz.prog 38 #[.pointer (some ⟨t.b, 0, none⟩), .string s, .int .i64 n] w _) := tallyChange_any t s n m w h ho hm
  clear h ho
  go_enter Tryz.func17, Tryz.ntmps17
  go_wp2_with fail
  refine HF.out.mono ?_
  rintro e w1 ⟨t', code, rfl, h1, h2⟩
  go_wp2
  go_ret
  exact ⟨t', code, rfl, h1, h2⟩

set_option maxHeartbeats 400000 in
theorem bDrop_any (t : GT) (s : ByteArray) (m : Nat) (w : World) (h : GT.At w t) (ho : GT.Ok m t) :
    Calls Tryz.prog 19 #[.pointer (some ⟨t.b, 0, none⟩), .string s] w fun e w' => ∃ t' code, e = .returned (.int .i64 code) ∧ Out m t t' w w' ∧ DrpOut t.view s.data.toList code t'.view := by
  have HF : Hid (Calls Tryz.prog 40 #[.pointer (some ⟨t.b, 0, none⟩), .string s] w _) := tallyDrop_any t s m w h ho
  clear h ho
  go_enter Tryz.func19, Tryz.ntmps19
  go_wp2_with fail
  refine HF.out.mono ?_
  rintro e w1 ⟨t', code, rfl, h1, h2⟩
  go_wp2
  go_ret
  exact ⟨t', code, rfl, h1, h2⟩

set_option maxHeartbeats 400000 in
theorem num_any (n : Int) (w : World) : Calls Tryz.prog 16 #[.int .i64 n] w fun e w' => e = .returned (.int .i64 n) ∧ w' = w := by
  go_enter Tryz.func16, Tryz.ntmps16
  go_wp2
  go_ret
  exact ⟨rfl, rfl⟩

set_option maxHeartbeats 400000 in
theorem plains_any (s : ByteArray) (w : World) : Calls Tryz.prog 9 #[.string s] w fun e w' => e = .returned (.bool true) ∧ w.grownBy w' none := by
  have hp := plain_any s w
  have hq := parse_any s
  generalize plainP s.data.toList = t at hp hq
  generalize (readP s.data.toList).name = nm at hq
  generalize (readP s.data.toList).err = er at hp hq
  generalize (if er = 0 then 0 else (readP s.data.toList).at_) = at_ at hp hq
  have HP : Hid (Calls Tryz.prog 31 #[.string s] w _) := hp
  have HQ : Hid (∀ w, Calls Tryz.prog 32 #[.string s] w _) := hq
  clear hp hq
  go_enter Tryz.func9, Tryz.ntmps9
  go_wp2_with fail
  refine HP.out.mono ?_
  rintro e w1 ⟨rfl, b1⟩
  go_wp2_with fail
  refine (HQ.out w1).mono ?_
  rintro e w2 ⟨rfl, b2⟩
  unfold outV
  have hself : ((B t).toList == (B t).toList) = true := by simp
  have hself2 : ((er : Int) == (er : Int)) = true := by simp
  have hself3 : ((at_ : Int) == (at_ : Int)) = true := by simp
  go_wp2_with (go_at_call 16; refine (num_any _ _).mono ?_; rintro e w' ⟨rfl, rfl⟩)
  go_ret
  exact ⟨rfl, gb_trans (gb_of_below b1) (gb_of_below b2)⟩

/-- Which of n things the number speaks of. -/
def pickP (c : Int) (n : Nat) : Nat := (if c < 0 then (-(c + 1)).toNat else c.toNat) % n
theorem pickP_lt (c : Int) (n : Nat) (hn : 0 < n) : pickP c n < n := Nat.mod_lt _ hn

set_option maxHeartbeats 400000 in
theorem pick_any (c : Int) (n : Nat) (w : World) (hn : 0 < n) (hm : n ≤ 9223372036854775807) (hc : -9223372036854775808 ≤ c ∧ c ≤ 9223372036854775807) :
    Calls Tryz.prog 10 #[.int .i64 c, .int .i64 (n : Int)] w fun e w' => e = .returned (.int .i64 (pickP c n : Int)) ∧ w' = w := by
  obtain ⟨hc1, hc2⟩ := hc
  have hne : ((n : Int) == 0) = false := by simp; omega
  by_cases h : c < 0
  · obtain ⟨d, hd⟩ : ∃ d : Nat, c = -((d : Int) + 1) := ⟨(-(c + 1)).toNat, by omega⟩
    subst hd
    have HP : Hid (pickP (-((d : Int) + 1)) n = d % n) := by
      show _ = _
      unfold pickP
      rw [if_pos (by omega), show (-(-((d : Int) + 1) + 1)).toNat = d from by omega]
    have hd1 : (d : Int) ≤ 9223372036854775807 := by omega
    have e1 : IntKind.i64.wrap (-((d : Int) + 1) + 1) = -(d : Int) := by rw [IntKind.wrap_i64]; omega
    have e2 : -((d : Int) + 1) + 1 = -(d : Int) := by omega
    go_enter Tryz.func10, Tryz.ntmps10
    go_wp2
    go_ret
    exact ⟨by rw [HP.out, Int.natCast_emod]; rfl, rfl⟩
  · obtain ⟨d, hd⟩ : ∃ d : Nat, c = (d : Int) := ⟨c.toNat, by omega⟩
    subst hd
    have HP : Hid (pickP (d : Int) n = d % n) := by
      show _ = _
      unfold pickP
      rw [if_neg (by omega), Int.toNat_natCast]
    go_enter Tryz.func10, Tryz.ntmps10
    go_wp2
    go_ret
    exact ⟨by rw [HP.out, Int.natCast_emod]; rfl, rfl⟩

/-- copy into a row that is known whole. -/
theorem run_copy_whole {P : Program} (w : World) (dT sT ty elem : TypeId) (g dLen dCap : Nat) (a : Addr) (sLen sCap : Nat) (cur : Array Value) (t : TypeId) (cs : List Value)
    (hu : P.underlying dT = some (.slice elem)) (hs : (P.info? elem).map (·.size) = some 1)
    (hg : w.heap[g]? = some (.cells cur t (0, 0))) (hn : sLen ≤ dLen) (hcl : cs.length = sLen)
    (hsrc : ∀ j v, cs[j]? = some v → w.cell? (a.add j) = some v) (hfit : cs.length ≤ cur.size) (h1 : ∀ v ∈ cs, v.oneCell' = true) :
    (Builtin.copy_ #[dT, sT] ty #[.slice (some ⟨g, 0, none⟩) dLen dCap, .slice (some a) sLen sCap]).run P w =
      .ok (goInt sLen) (w.setRow g (cs ++ cur.toList.drop cs.length).toArray) := by
  have hl := run_loadCells_list (P := P) w a cs hsrc
  have hst := run_storeCells_at P g 0 t cs 0 cur w hg (by simpa using hfit) h1
  have hmin : sLen = Nat.min sLen dLen := by simp only [Nat.min_def]; split <;> omega
  cases hq : P.info? elem with
  | none => simp [hq] at hs
  | some i =>
    have hi : i.size = 1 := by simpa [hq] using hs
    rw [hcl] at hl
    simp [Builtin.copy_, run_underlying hu, Builtin.lenOf, Builtin.firstCells, sizeOf, typeInfo, hq, hi, ← hmin, hl, hst]

/-- Numbers to hand in, two others behind them. -/
def lentObj (xs : List Int) : Obj := .cells (ints xs ++ [Value.int .i64 77, Value.int .i64 78]).toArray 3

theorem two_of {l : List Value} (h : l.length = 2) : ∃ a b, l = [a, b] := by
  match l, h with
  | [a, b], _ => exact ⟨a, b, rfl⟩

set_option maxRecDepth 100000 in
set_option maxHeartbeats 1000000 in
theorem lent_any (v : Value) (xs : List Int) (w : World) (hv : IntSl w v xs) (hb : xs.length ≤ 17592186044416) :
    Calls Tryz.prog 11 #[v] w fun e w' => e = .returned (.slice (some ⟨w.heap.size, 0, none⟩) (xs.length + 2) (xs.length + 2)) ∧ w'.heap[w.heap.size]? = some (lentObj xs) ∧ w.grownBy w' none := by
  obtain ⟨i0, hi, hz0, hz1, hz2⟩ := info_parts Tryz.info3
  have hinfo : (Tryz.prog.info? 3).map (·.size) = some 1 := by rw [hi]; simp [hz1]
  have HI : Hid (Tryz.prog.info? 3 = some i0 ∧ i0.zero = some (.int .i64 0) ∧ i0.size = 1 ∧ i0.bytes = 8) := ⟨hi, hz0, hz1, hz2⟩
  obtain ⟨sa, ca, rfl, hca, hxs⟩ := hv
  clear hi hz0 hz1 hz2
  go_enter Tryz.func11, Tryz.ntmps11
  go_wp2_with (at_make; refine wpList_make_full _ rfl _ _ 28 rfl w.heap.size 3 i0 (.int .i64 0) 1 Tryz.underlying28 HI.out.1 HI.out.2.1 HI.out.2.2.1 .i64 .i64 _ _ (xs.length + 2) rfl rfl (by go_num) (by go_num) (by rw [HI.out.2.2.2]; omega) (by unfold maxLen; omega) (Nat.le_refl _) ?_; intro w0 own0 g0)
  obtain ⟨cur, hg, hcs⟩ : ∃ cur, w0.heap[w.heap.size]? = some (.cells cur 3) ∧ cur.size = xs.length + 2 := by
    rcases own0.2 with ⟨h1, _⟩ | ⟨g', cap', cur, h1, h2, h3, h4, h5, h6, h7⟩
    · simp at h1
    · simp at h1; obtain ⟨rfl, rfl⟩ := h1; exact ⟨cur, h3, by simpa using h6⟩
  have hz : w.heap.size < w0.heap.size := lt_of hg
  obtain ⟨a, b, hab⟩ := two_of (l := cur.toList.drop xs.length) (by simp [hcs])
  have hcopy : ∃ W, (∀ ty, ∃ r, (Builtin.copy_ #[28, 28] ty #[.slice (some ⟨w.heap.size, 0, none⟩) (xs.length + 2) (xs.length + 2), .slice sa xs.length ca]).run Tryz.prog w0 = .ok r W) ∧ W.heap[w.heap.size]? = some (.cells (ints xs ++ [a, b]).toArray 3) ∧ w.grownBy W none := by
    cases sa with
    | none =>
      have hx0 : xs = [] := by
        rcases hxs with h | ⟨b1, o1, h, _⟩
        · exact h
        · cases h
      subst hx0
      refine ⟨w0, fun ty => ⟨goInt 0, ?_⟩, ?_, g0⟩
      · simp [Builtin.copy_, run_underlying Tryz.underlying28, Builtin.lenOf, Builtin.firstCells, sizeOf, typeInfo, HI.out.1, storeCells]
      · rw [hg]
        simp only [List.length_nil, List.drop_zero] at hab
        simp [ints, ← hab]
    | some ad =>
      have hsrc : ∀ j u, (ints xs)[j]? = some u → w0.cell? (ad.add j) = some u := by
        intro j u hj
        rcases hxs with h | ⟨b1, o1, h, hI⟩
        · subst h; simp [ints] at hj
        · cases h
          have hjl : j < xs.length := by
            have := (List.getElem?_eq_some_iff.1 hj).1
            simpa [ints] using this
          rw [Addr.add_lit, gb_cell g0 (hI j hjl) (by simp)]
          simp [ints, hjl] at hj
          rw [hj]
      refine ⟨w0.setRow w.heap.size (ints xs ++ [a, b]).toArray, fun ty => ⟨goInt xs.length, ?_⟩, setRow_heap w0 _ cur _ 3 (0, 0) hg, ?_⟩
      · rw [run_copy_whole w0 28 28 ty 3 w.heap.size (xs.length + 2) (xs.length + 2) ad xs.length ca cur 3 (ints xs) Tryz.underlying28 hinfo hg (by omega) (by simp [ints]) hsrc (by simp [ints]; omega) (ints_one _), ints_len, hab]
      · exact ⟨g0.os, g0.tape, g0.output, by simpa using g0.size, fun k hk hn => by rw [setRow_other _ _ _ _ (by omega)]; exact g0.block k hk hn⟩
  obtain ⟨W, hrun, hWg, gW⟩ := hcopy
  clear own0 hg hcs hab g0
  obtain ⟨r, hr⟩ := hrun 3
  have hlen : (ints xs ++ [a, b]).length = xs.length + 2 := by simp [ints]
  have c0 : W.cell? ⟨w.heap.size, xs.length, none⟩ = some a := by
    unfold World.cell?; simp only [hWg]; simp [ints]
  have c1 : W.cell? ⟨w.heap.size, xs.length + 1, none⟩ = some b := by
    unfold World.cell?; simp only [hWg]
    rw [List.getElem?_toArray, List.getElem?_append_right (by simp [ints])]; simp [ints]
  have z0 : W.frozen? ⟨w.heap.size, xs.length, none⟩ = false := by unfold World.frozen?; simp only [hWg]; simp
  have z1 : W.frozen? ⟨w.heap.size, xs.length + 1, none⟩ = false := by unfold World.frozen?; simp only [hWg]; simp
  have HW : Hid (((W.setCell ⟨w.heap.size, xs.length, none⟩ (.int .i64 77)).setCell ⟨w.heap.size, xs.length + 1, none⟩ (.int .i64 78)).heap[w.heap.size]? = some (lentObj xs)) := by
    show _ = _
    rw [text_set (text_set hWg _)]
    unfold lentObj
    congr 2
    apply Array.ext'
    have e1 : (ints xs ++ [a, b]).set xs.length (.int .i64 77) = ints xs ++ [.int .i64 77, b] := by
      rw [List.set_append, if_neg (by rw [ints_len]; omega), ints_len, Nat.sub_self]; rfl
    have e2 : (ints xs ++ [Value.int .i64 77, b]).set (xs.length + 1) (.int .i64 78) = ints xs ++ [.int .i64 77, .int .i64 78] := by
      rw [List.set_append, if_neg (by rw [ints_len]; omega), ints_len, show xs.length + 1 - xs.length = 1 from by omega]; rfl
    simp only [Array.toList_setIfInBounds]
    rw [e1, e2]
  have hb1 : (xs.length : Int) + 1 < (xs.length : Int) + 2 := by omega
  have htn : ((xs.length : Int) + 1).toNat = xs.length + 1 := by omega
  clear hrun hWg hlen hxs
  go_wp2_with (simp only [hr])
  go_ret
  exact ⟨rfl, HW.out, gb_on (gb_on gW (Nat.le_refl _)) (Nat.le_refl _)⟩

theorem lent_ints {w : World} {h : Nat} {xs : List Int} (hh : w.heap[h]? = some (lentObj xs)) : IntsAt w h 0 xs := by
  intro k hk
  unfold World.cell?
  simp only [hh, lentObj]
  rw [List.getElem?_toArray, Nat.zero_add, List.getElem?_append_left (by rw [ints_len]; exact hk)]
  simp [ints, hk]

set_option maxHeartbeats 400000 in
theorem part_any (v : Value) (xs : List Int) (h : Nat) (w : World) (hv : IntSl w v xs) (hh : w.heap[h]? = some (lentObj xs)) :
    Calls Tryz.prog 13 #[.slice (some ⟨h, 0, none⟩) (xs.length + 2) (xs.length + 2), v] w fun e w' => ∃ u, e = .returned u ∧ IntSl w u xs ∧ w' = w := by
  have HI : Hid (IntsAt w h 0 xs) := lent_ints hh
  obtain ⟨sa, ca, rfl, hca, hxs⟩ := hv
  have hq := fun (w : World) (a : Option Addr) (n c n' c' : Nat) => Lib.run_eql_slice_nil (P := Tryz.prog) w 28 3 a n c n' c' Tryz.underlying28
  clear hh
  cases sa with
  | none =>
    have HX : Hid (xs = []) := by
      rcases hxs with h | ⟨b1, o1, h, _⟩
      · exact h
      · cases h
    clear hxs
    go_enter Tryz.func13, Tryz.ntmps13
    go_wp2
    go_ret
    exact ⟨_, rfl, by rw [HX.out]; exact ⟨none, 0, rfl, Nat.le_refl _, Or.inl rfl⟩, rfl⟩
  | some ad =>
    have hb1 : (xs.length : Int) ≤ (xs.length : Int) + 2 := by omega
    clear hxs
    go_enter Tryz.func13, Tryz.ntmps13
    go_wp2
    go_ret
    exact ⟨_, rfl, ⟨_, _, rfl, by omega, Or.inr ⟨h, 0, rfl, HI.out⟩⟩, rfl⟩

end Go.Proofs.YtecmkooiaghgcaaGreatDoor

/-
  still: the numbers that were lent stand as they did; then the caller writes over them.
-/
namespace Go.Proofs.YtecmkooiaghgcaaGreatDoor
open Go.RowKit

/-- The numbers of a list that lies in another block than h. -/
def IntFar (w : World) (h : Nat) (v : Value) (xs : List Int) : Prop := ∃ sa cap, v = .slice sa xs.length cap ∧ (xs = [] ∨ ∃ b off, sa = some ⟨b, off, none⟩ ∧ b ≠ h ∧ IntsAt w b off xs)

set_option maxRecDepth 100000 in
set_option maxHeartbeats 1000000 in
theorem still_any (v : Value) (xs : List Int) (h : Nat) (w : World) (hv : IntFar w h v xs) (hh : w.heap[h]? = some (lentObj xs)) (hb : xs.length ≤ 17592186044416) :
    Calls Tryz.prog 15 #[.slice (some ⟨h, 0, none⟩) (xs.length + 2) (xs.length + 2), v] w fun e w' => e = .returned (.bool true) ∧ w.grownBy w' (some h) := by
  have HI : Hid (IntsAt w h 0 xs) := lent_ints hh
  obtain ⟨sa, ca, rfl, hxs⟩ := hv
  have c0 : w.cell? ⟨h, xs.length, none⟩ = some (.int .i64 77) := by
    unfold World.cell?; simp only [hh, lentObj]
    rw [List.getElem?_toArray, List.getElem?_append_right (by rw [ints_len]; omega)]; simp [ints]
  have c1 : w.cell? ⟨h, xs.length + 1, none⟩ = some (.int .i64 78) := by
    unfold World.cell?; simp only [hh, lentObj]
    rw [List.getElem?_toArray, List.getElem?_append_right (by rw [ints_len]; omega)]; simp [ints]
  have hb1 : (xs.length : Int) + 1 < (xs.length : Int) + 2 := by omega
  have htn : ((xs.length : Int) + 1).toNat = xs.length + 1 := by omega
  have HH : Hid (w.heap[h]? = some (lentObj xs)) := hh
  clear hh
  go_enter Tryz.func15, Tryz.ntmps15
  go_wp2_with fail
  clear htn c0 c1
  go_loopw [5, 6] (fun ok i wr => ∃ k : Nat, i = .int .i64 (k : Int) ∧ k ≤ xs.length ∧ ok = .bool true ∧ ∃ q, wr = w.drewN q) (fun _ i _ => xs.length - (intOf i).toNat)
  case atStart => exact ⟨0, rfl, Nat.zero_le _, rfl, 0, rfl⟩
  case round =>
    obtain ⟨k, rfl, hk, rfl, q, rfl⟩ := hrel
    by_cases hlt : k < xs.length
    · rcases hxs with e | ⟨b1, o1, rfl, hne, hI⟩
      · rw [e] at hlt; simp at hlt
      have d1 := HI.out k hlt
      rw [Nat.zero_add] at d1
      have d2 := hI k hlt
      obtain ⟨x, hx⟩ : ∃ x, xs[k] = x := ⟨_, rfl⟩
      rw [hx] at d1 d2
      have hki : (k : Int) < (xs.length : Int) := by omega
      have hki2 : (k : Int) < (xs.length : Int) + 2 := by omega
      have hxx : (x == x) = true := by simp
      clear hx hI
      go_wp2_with fail
      go_quiet (fail)
      go_wp2
      go_roundw
      case rel => exact ⟨k + 1, by go_num, by omega, by simp, by first | exact ⟨_, rfl⟩ | exact drew2 _ _ _⟩
      case measure => simp [intOf]; omega
    · have hki : ¬ (k : Int) < (xs.length : Int) := by omega
      go_wp2_with fail
      go_loopw [7] (fun i wr => ∃ (j : Nat) (cs : Array Value), i = .int .i64 (j : Int) ∧ j ≤ xs.length + 2 ∧ wr.heap[h]? = some (.cells cs 3) ∧ cs.size = xs.length + 2 ∧ w.grownBy wr (some h)) (fun i _ => xs.length + 2 - (intOf i).toNat)
      case atStart => exact ⟨0, _, rfl, Nat.zero_le _, HH.out, by simp [ints], gb_drewN _ _ _⟩
      case round =>
        obtain ⟨j, cs, rfl, hj, hcs, hsz, hg⟩ := hrel
        by_cases hlt2 : j < xs.length + 2
        · have e0 : wr.cell? ⟨h, j, none⟩ = some (cs[j]'(by omega)) := by
            unfold World.cell?; simp only [hcs]; simp [show j < cs.size by omega]
          have f0 : wr.frozen? ⟨h, j, none⟩ = false := by unfold World.frozen?; simp only [hcs]; simp
          have hji : (j : Int) < (xs.length : Int) + 2 := by omega
          have HS : Hid ((wr.setCell ⟨h, j, none⟩ (.int .i64 5)).heap[h]? = some (.cells (cs.setIfInBounds j (.int .i64 5)) 3)) := text_set hcs _
          have HZ : Hid ((cs.setIfInBounds j (.int .i64 5)).size = xs.length + 2) := by
            show _ = _
            simpa using hsz
          clear hcs
          go_wp2
          go_roundw
          case rel => exact ⟨j + 1, _, by go_num, by omega, HS.out, HZ.out, gb_s hg⟩
          case measure => simp [intOf]; omega
        · have hji : ¬ (j : Int) < (xs.length : Int) + 2 := by omega
          clear hcs
          go_wp2
          go_ret
          exact ⟨rfl, hg⟩

end Go.Proofs.YtecmkooiaghgcaaGreatDoor
