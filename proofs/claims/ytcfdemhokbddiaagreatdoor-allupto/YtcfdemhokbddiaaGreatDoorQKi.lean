/-
  stopped and count: how a series' numbers are changed; slices.Delete of one, remove.
-/
import Derived.Test.YtcfdemhokbddiaaGreatDoorQKh

namespace Go.Proofs.YtcfdemhokbddiaaGreatDoor
open Go.RowKit

def stopP (n : Int) : Int := if n > 1000000000 then 1000000000 else if n < -1000000000 then -1000000000 else n
theorem stopP_in (n : Int) : -1000000000 ≤ stopP n ∧ stopP n ≤ 1000000000 := by unfold stopP; split <;> (try split) <;> omega
set_option maxHeartbeats 400000 in
theorem stopped_any (n : Int) (w : World) : Calls Tryz.prog 102 #[.int .i64 n] w fun e w' => e = .returned (.int .i64 (stopP n)) ∧ w' = w := by
  by_cases h1 : n > 1000000000
  · have HE : Hid (stopP n = 1000000000) := by simp [Hid, stopP, h1]
    go_enter Tryz.func102, Tryz.ntmps102
    go_wp2
    go_ret
    exact ⟨by rw [HE.out]; simp; omega, rfl⟩
  · by_cases h2 : n < -1000000000
    · have HE : Hid (stopP n = -1000000000) := by simp [Hid, stopP, h1, h2]
      go_enter Tryz.func102, Tryz.ntmps102
      go_wp2
      go_ret
      refine ⟨?_, rfl⟩
      rw [HE.out]; simp; omega
    · have HE : Hid (stopP n = n) := by simp [Hid, stopP, h1, h2]
      go_enter Tryz.func102, Tryz.ntmps102
      go_wp2
      go_ret
      refine ⟨?_, rfl⟩
      rw [HE.out]; simp; omega

/-- The counts of the limits from the place on are one more. -/
def upUs (lo hi : Nat) (us : List Int) : List Int := us.mapIdx fun i u => if lo ≤ i ∧ i < hi then u + 1 else u
/-- A series of a family of that kind, changed by n. -/
def countP (kind : Int) (lims : List Int) (n : Int) (x : Cnt) : Cnt :=
  if kind = 1 then { x with num := stopP (x.num + n) } else if kind = 2 then { x with num := n } else
  { x with num := stopP (x.num + n), all := x.all + 1, us := upUs (kplace ltI n lims) lims.length x.us }

theorem cnt_cells {w : World} {c ac : Nat} {x : Cnt} (h : w.heap[c]? = some (cntObj ac x)) :
    w.cell? ⟨c, 1, none⟩ = some (.string (B x.plain)) ∧ w.cell? ⟨c, 2, none⟩ = some (.int .i64 x.num) ∧ w.cell? ⟨c, 3, none⟩ = some (.int .i64 x.all) := by
  simp [World.cell?, h, cntObj]
theorem cnt_us {w : World} {c ac : Nat} {x : Cnt} (h : w.heap[c]? = some (cntObj ac x)) (i : Nat) (hi : i < x.us.length) : w.cell? ⟨c, 4 + i, none⟩ = some (.int .i64 x.us[i]) := by
  simp only [World.cell?, h, cntObj]
  rw [Array.getElem?_append_right (by simp)]
  simp [ints, hi]
theorem cnt_froz {w : World} {c ac : Nat} {x : Cnt} (h : w.heap[c]? = some (cntObj ac x)) (o : Nat) : w.frozen? ⟨c, o, none⟩ = false := by
  simp [World.frozen?, h, cntObj]
theorem cnt_set1 {w : World} {c ac : Nat} {x : Cnt} (h : w.heap[c]? = some (cntObj ac x)) (v : Int) : (w.setCell ⟨c, 2, none⟩ (.int .i64 v)).heap[c]? = some (cntObj ac { x with num := v }) := by
  rw [text_set h]; congr 2; apply Array.ext'; simp
theorem cnt_set2 {w : World} {c ac : Nat} {x : Cnt} (h : w.heap[c]? = some (cntObj ac x)) (v : Int) : (w.setCell ⟨c, 3, none⟩ (.int .i64 v)).heap[c]? = some (cntObj ac { x with all := v }) := by
  rw [text_set h]; congr 2; apply Array.ext'; simp
theorem cnt_set3 {w : World} {c ac : Nat} {x : Cnt} (h : w.heap[c]? = some (cntObj ac x)) (i : Nat) (v : Int) : (w.setCell ⟨c, 4 + i, none⟩ (.int .i64 v)).heap[c]? = some (cntObj ac { x with us := x.us.set i v }) := by
  rw [text_set h]
  congr 2
  apply Array.ext'
  rw [show 4 + i = i + 1 + 1 + 1 + 1 from by omega]
  simp [ints, List.map_set]

theorem upUs_len (lo hi : Nat) (us : List Int) : (upUs lo hi us).length = us.length := by simp [upUs]
theorem upUs_get (lo hi : Nat) (us : List Int) (i : Nat) (h : i < us.length) : (upUs lo hi us)[i]'(by rw [upUs_len]; exact h) = if lo ≤ i ∧ i < hi then us[i] + 1 else us[i] := by simp [upUs]
theorem upUs_same (lo hi : Nat) (us : List Int) (h : hi ≤ lo) : upUs lo hi us = us := by
  refine List.ext_getElem (upUs_len _ _ _) fun i h1 h2 => ?_
  rw [upUs_get _ _ _ _ h2, if_neg (by omega)]
theorem upUs_step (lo k : Nat) (us : List Int) (h : lo ≤ k) (hk : k < us.length) : (upUs lo k us).set k (us[k] + 1) = upUs lo (k + 1) us := by
  refine List.ext_getElem (by simp [upUs]) fun i h1 h2 => ?_
  rw [upUs_len] at h2
  rw [List.getElem_set]
  split
  · rename_i e; subst e; rw [upUs_get _ _ _ _ h2, if_pos (by omega)]
  · rw [upUs_get lo k us i h2, upUs_get lo (k + 1) us i h2]
    by_cases hc : lo ≤ i ∧ i < k
    · rw [if_pos hc, if_pos (by omega)]
    · rw [if_neg hc, if_neg (by omega)]

/-- What a series' numbers may be, at most m changes behind. -/
structure CntOk (m : Nat) (x : Cnt) : Prop where
  num : -1000000000 ≤ x.num ∧ x.num ≤ 1000000000
  all : 0 ≤ x.all ∧ x.all ≤ m
  len : x.us.length = 4
  us : ∀ u ∈ x.us, 0 ≤ u ∧ u ≤ m
  pl : x.plain.length ≤ 400
theorem CntOk.zero (p : List UInt8) (m : Nat) (hp : p.length ≤ 400) : CntOk m (zeroCnt p) := ⟨by simp [zeroCnt], by simp [zeroCnt], rfl, by simp [zeroCnt], hp⟩
theorem CntOk.mono {m k : Nat} {x : Cnt} (h : CntOk m x) (hk : m ≤ k) : CntOk k x :=
  ⟨h.num, ⟨h.all.1, by have := h.all.2; omega⟩, h.len, fun u hu => ⟨(h.us u hu).1, by have := (h.us u hu).2; omega⟩, h.pl⟩
theorem CntOk.count {m : Nat} {x : Cnt} (h : CntOk m x) (kind : Int) (ls : List Int) (n : Int) (hn : inB n = true) : CntOk (m + 1) (countP kind ls n x) := by
  have hn' : -1000000000 ≤ n ∧ n ≤ 1000000000 := by simpa [inB] using hn
  have h0 := h.mono (Nat.le_succ m)
  unfold countP
  split
  · exact ⟨stopP_in _, h0.all, h0.len, h0.us, h0.pl⟩
  · split
    · exact ⟨hn', h0.all, h0.len, h0.us, h0.pl⟩
    · refine ⟨stopP_in _, ?_, ?_, ?_, h0.pl⟩
      · show 0 ≤ x.all + 1 ∧ x.all + 1 ≤ ((m + 1 : Nat) : Int)
        have := h.all; omega
      · show (upUs _ _ x.us).length = 4
        rw [upUs_len]; exact h.len
      · intro u hu
        obtain ⟨i, hi, rfl⟩ := List.getElem_of_mem hu
        have hi' : i < x.us.length := by rw [upUs_len] at hi; exact hi
        show 0 ≤ (upUs _ _ x.us)[i] ∧ (upUs _ _ x.us)[i] ≤ _
        rw [upUs_get _ _ _ _ hi']
        have := h.us _ (List.getElem_mem hi')
        split <;> omega
theorem countP_plain (kind : Int) (ls : List Int) (n : Int) (x : Cnt) : (countP kind ls n x).plain = x.plain := by
  unfold countP; split
  · rfl
  · split <;> rfl

set_option maxHeartbeats 400000 in
theorem count_1 (f c ag ac : Nat) (nm : List UInt8) (lv sv : Value) (n : Int) (x : Cnt) (m : Nat) (w : World) (hf : w.heap[f]? = some (famObj ag nm 1 lv sv)) (hc : w.heap[c]? = some (cntObj ac x)) (hx : CntOk m x) (hn : inB n = true) :
    Calls Tryz.prog 69 #[.pointer (some ⟨f, 0, none⟩), .pointer (some ⟨c, 0, none⟩), .int .i64 n] w fun e w' => e = .returned (.tuple #[]) ∧ w'.heap[c]? = some (cntObj ac { x with num := stopP (x.num + n) }) ∧ w.grownBy w' (some c) := by
  obtain ⟨c0, c1, c2, c3, f3⟩ := fam_cells hf
  obtain ⟨d0, d1, d2⟩ := cnt_cells hc
  have z1 := cnt_froz hc 2
  have hn' : -1000000000 ≤ n ∧ n ≤ 1000000000 := by simpa [inB] using hn
  obtain ⟨hn1, hn2⟩ := hn'
  obtain ⟨hm1, hm2⟩ := hx.num
  have HC : Hid (w.heap[c]? = some (cntObj ac x)) := hc
  clear hf hc hx hn c3 f3 c0 c2
  go_enter Tryz.func69, Tryz.ntmps69
  go_wp2_with fail
  refine (stopped_any _ _).mono ?_
  rintro e w1 ⟨rfl, rfl⟩
  go_wp2
  go_end0
  exact ⟨rfl, cnt_set1 HC.out _, gb_setCell _ _ _ _⟩

set_option maxHeartbeats 400000 in
theorem count_2 (f c ag ac : Nat) (nm : List UInt8) (lv sv : Value) (n : Int) (x : Cnt) (w : World) (hf : w.heap[f]? = some (famObj ag nm 2 lv sv)) (hc : w.heap[c]? = some (cntObj ac x)) :
    Calls Tryz.prog 69 #[.pointer (some ⟨f, 0, none⟩), .pointer (some ⟨c, 0, none⟩), .int .i64 n] w fun e w' => e = .returned (.tuple #[]) ∧ w'.heap[c]? = some (cntObj ac { x with num := n }) ∧ w.grownBy w' (some c) := by
  obtain ⟨c0, c1, c2, c3, f3⟩ := fam_cells hf
  obtain ⟨d0, d1, d2⟩ := cnt_cells hc
  have z1 := cnt_froz hc 2
  have HC : Hid (w.heap[c]? = some (cntObj ac x)) := hc
  clear hf hc c3 f3 c0 c2
  go_enter Tryz.func69, Tryz.ntmps69
  go_wp2
  go_end0
  exact ⟨rfl, cnt_set1 HC.out _, gb_setCell _ _ _ _⟩

set_option maxRecDepth 100000 in
set_option maxHeartbeats 1000000 in
theorem count_3 (f c ag ac : Nat) (nm : List UInt8) (lv sv : Value) (base : Nat) (ls : List Int) (n : Int) (x : Cnt) (m : Nat) (w : World) (hf : w.heap[f]? = some (famObj ag nm 3 lv sv)) (hc : w.heap[c]? = some (cntObj ac x)) (hfc : f ≠ c) (hx : CntOk m x) (hm : m ≤ 4611686018427387904) (hn : inB n = true)
    (hown : w.ownsRow base 3 1 lv ls.length (ints ls)) (hnc : lv.ownBlock ≠ some c) (hl : ls.length ≤ 4) (hs : KSrt ltI ls) :
    Calls Tryz.prog 69 #[.pointer (some ⟨f, 0, none⟩), .pointer (some ⟨c, 0, none⟩), .int .i64 n] w fun e w' => e = .returned (.tuple #[]) ∧ w'.heap[c]? = some (cntObj ac { x with num := stopP (x.num + n), all := x.all + 1, us := upUs (kplace ltI n ls) ls.length x.us }) ∧ w.grownBy w' (some c) := by
  obtain ⟨c0, c1, c2, c3, f3⟩ := fam_cells hf
  obtain ⟨d0, d1, d2⟩ := cnt_cells hc
  have z1 := cnt_froz hc 2
  have z2 := cnt_froz hc 3
  have hn' : -1000000000 ≤ n ∧ n ≤ 1000000000 := by simpa [inB] using hn
  obtain ⟨hn1, hn2⟩ := hn'
  obtain ⟨hm1, hm2⟩ := hx.num
  obtain ⟨ha1, ha2⟩ := hx.all
  have hfl := lt_of hf
  have HUS : Hid (∀ u ∈ x.us, 0 ≤ u ∧ u ≤ (m : Int)) := hx.us
  have HU4 : Hid (x.us.length = 4) := hx.len
  obtain ⟨sa, sc, rfl, _, _⟩ := own_shape1 hown
  obtain ⟨W, hW⟩ : ∃ W, W = (w.setCell ⟨c, 3, none⟩ (.int .i64 (x.all + 1))).setCell ⟨c, 2, none⟩ (.int .i64 (stopP (x.num + n))) := ⟨_, rfl⟩
  have gW : w.grownBy W (some c) := by rw [hW]; exact gb_s (gb_setCell _ _ _ _)
  have hWc : W.heap[c]? = some (cntObj ac { x with num := stopP (x.num + n), all := x.all + 1 }) := by rw [hW]; exact cnt_set1 (cnt_set2 hc _) _
  have HF : Hid (Calls Tryz.prog 103 #[.slice sa ls.length sc, .func (.func 104) #[] #[], .int .i64 n] W _) := findI_any _ base ls n W (hown.kept gW (Or.inr hnc)) (by omega) hs
  have HW : Hid (W = _) := hW
  rw [hW] at HF
  have hW2 : W.cell? ⟨f, 3, none⟩ = some (.slice sa ls.length sc) := gb_cell gW c2 (by simpa using hfc)
  have HC : Hid (w.heap[c]? = some (cntObj ac x)) := hc
  have hpl := kplace_le ltI n ls
  obtain ⟨k0, hk0⟩ : ∃ k0, kplace ltI n ls = k0 := ⟨_, rfl⟩
  rw [hk0] at HF hpl ⊢
  clear hk0 hW hf hc hx hn c3 f3 c0 hown hnc hs
  go_enter Tryz.func69, Tryz.ntmps69
  go_wp2_with fail
  refine (stopped_any _ _).mono ?_
  rintro e w1 ⟨rfl, rfl⟩
  go_wp2_with fail
  refine HF.out.mono ?_
  rintro e w3 ⟨rfl, g3⟩
  rw [← HW.out] at g3
  have h3c : w3.heap[c]? = some (cntObj ac { x with num := stopP (x.num + n), all := x.all + 1 }) := (g3.block c (lt_of hWc) (by simp)).trans hWc
  have G3 : w.grownBy w3 (some c) := gb_trans gW ⟨g3.os, g3.tape, g3.output, g3.size, fun k hk _ => g3.block k hk (by simp)⟩
  clear g3 hWc HF d0 d1 d2 z1 z2 hW2 HW gW c1
  go_wp2_with fail
  go_loopw [8] (fun i wr => ∃ k : Nat, i = .int .i64 (k : Int) ∧ k0 ≤ k ∧ k ≤ ls.length ∧ Hid (wr.heap[c]? = some (cntObj ac { x with num := stopP (x.num + n), all := x.all + 1, us := upUs k0 k x.us })) ∧ w.grownBy wr (some c)) (fun i _ => 4 - (intOf i).toNat)
  case atStart => exact ⟨k0, rfl, Nat.le_refl _, hpl, by show _ = _; rw [h3c, upUs_same _ _ _ (Nat.le_refl _)], G3⟩
  case round =>
    obtain ⟨k, rfl, hk1, hk2, HB, hg⟩ := hrel
    have e2 := gb_cell hg c2 (by simpa using hfc)
    by_cases hlt : k < ls.length
    · have hk4 : k < x.us.length := by rw [HU4.out]; omega
      have hcell := cnt_us HB.out k (by show k < (upUs k0 k x.us).length; rw [upUs_len]; exact hk4)
      have hfz := cnt_froz HB.out (4 + k)
      have hval : (upUs k0 k x.us)[k]'(by rw [upUs_len]; exact hk4) = x.us[k] := by rw [upUs_get _ _ _ _ hk4, if_neg (by omega)]
      simp only [hval] at hcell
      have hb := HUS.out x.us[k] (List.getElem_mem hk4)
      have HST := upUs_step k0 k x.us hk1 hk4
      have HSTH : Hid ((upUs k0 k x.us).set k (x.us[k] + 1) = upUs k0 (k + 1) x.us) := HST
      obtain ⟨u, hu⟩ : ∃ u, x.us[k] = u := ⟨_, rfl⟩
      rw [hu] at hcell hb HSTH
      obtain ⟨hb1, hb2⟩ := hb
      have hki : (k : Int) < (ls.length : Int) := by omega
      have hki4 : (k : Int) < 4 := by omega
      clear hval HST hu
      go_wp2_with fail
      go_region
      all_goals go_wp2
      all_goals
        go_roundw
        case rel =>
          refine ⟨k + 1, by go_num, by omega, by omega, ?_, gb_s (gb_drew hg)⟩
          exact (cnt_set3 (w := wr.drew) HB.out k (u + 1)).trans (by simp only [HSTH.out])
        case measure => simp [intOf]; omega
    · have hki : ¬ (k : Int) < (ls.length : Int) := by omega
      have HE : Hid (k = ls.length) := by show _ = _; omega
      go_wp2
      go_end0
      refine ⟨rfl, ?_, hg⟩
      rw [← HE.out]; exact HB.out

theorem count_any (f c ag ac : Nat) (nm : List UInt8) (kind : Int) (lv sv : Value) (base : Nat) (ls : List Int) (n : Int) (x : Cnt) (m : Nat) (w : World) (hf : w.heap[f]? = some (famObj ag nm kind lv sv)) (hc : w.heap[c]? = some (cntObj ac x)) (hfc : f ≠ c) (hx : CntOk m x) (hm : m ≤ 4611686018427387904) (hn : inB n = true)
    (hkind : kind = 1 ∨ kind = 2 ∨ kind = 3) (hown : w.ownsRow base 3 1 lv ls.length (ints ls)) (hnc : lv.ownBlock ≠ some c) (hl : ls.length ≤ 4) (hs : KSrt ltI ls) :
    Calls Tryz.prog 69 #[.pointer (some ⟨f, 0, none⟩), .pointer (some ⟨c, 0, none⟩), .int .i64 n] w fun e w' => e = .returned (.tuple #[]) ∧ w'.heap[c]? = some (cntObj ac (countP kind ls n x)) ∧ w.grownBy w' (some c) := by
  rcases hkind with rfl | rfl | rfl
  · exact count_1 f c ag ac nm lv sv n x m w hf hc hx hn
  · exact count_2 f c ag ac nm lv sv n x w hf hc
  · exact count_3 f c ag ac nm lv sv base ls n x m w hf hc hfc hx hm hn hown hnc hl hs

/-- append as one step of a region that draws, by the run's own equation. -/
theorem append_step {P : Program} {w w' : World} {ops : Array Oper} {o : Oper} {a : Act} {K : Act → World → Prop} {Q : Exit → Act → World → Prop} {E : Prop} {d s : Operand} {t : TypeId} {v u r : Value} (hgd : o.guard = none)
    (ho : o.op = .call { callee := .builtin .append, args := #[d, s], argTypes := #[t, t] }) (hd : a.eval d = v) (hs : a.eval s = u)
    (hr : (Builtin.append_ #[t, t] o.type #[v, u]).run P w = .ok r w') (h : K (a.put o.dst r) w') : if Region.wanted o (yielded ops a.tmps) = true then Oper.wp P o a w K Q else E := by
  rw [if_pos (by simp [Region.wanted, hgd])]
  unfold Oper.wp
  simp [execOp, ho, resolve, invoke, builtin, hd, hs, hr, Result.andThen]
  exact h

def delRow (cur : List Value) (i n : Nat) : List Value := (cur.take i ++ (cur.drop (i + 1)).take (n - (i + 1)) ++ cur.drop (n - 1)).set (n - 1) (.pointer none)
theorem Tryz.zero120 : ∀ w, (zeroValue 120).run Tryz.prog w = .ok (.pointer none) w := Tryz.zeroValue120

set_option maxRecDepth 100000 in
set_option maxHeartbeats 1000000 in
theorem delete_any (g cap i n : Nat) (cur : Array Value) (w : World) (hg : w.heap[g]? = some (.cells cur 120)) (hi : i < n) (hn : n ≤ cap) (hcs : cur.size = cap) (hcm : cap ≤ maxLen) (h1 : ∀ v ∈ cur.toList.take n, v.oneCell' = true) :
    Calls Tryz.prog 115 #[.slice (some ⟨g, 0, none⟩) n cap, .int .i64 (i : Int), .int .i64 ((i : Int) + 1)] w fun e w' =>
      e = .returned (.slice (some ⟨g, 0, none⟩) (n - 1) cap) ∧ w'.heap[g]? = some (.cells (delRow cur.toList i n).toArray 120) ∧ w.grownBy w' (some g) := by
  obtain ⟨i0, hi0, hz0, hz1, hz2⟩ := info_parts Tryz.info120
  have hcl : cur.toList.length = cap := by simpa using hcs
  have hnl : ((cur.toList.drop (i + 1)).take (n - (i + 1))).length = n - (i + 1) := by simp [hcl]; omega
  obtain ⟨news, hnews⟩ : ∃ news, news = (cur.toList.drop (i + 1)).take (n - (i + 1)) := ⟨_, rfl⟩
  rw [← hnews] at hnl
  have hsrc : ∀ j u, news[j]? = some u → w.cell? ⟨g, i + 1 + j, none⟩ = some u := by
    intro j u hj
    rw [hnews, List.getElem?_take] at hj
    split at hj
    · rw [List.getElem?_drop] at hj
      simp [World.cell?, hg]
      simpa using hj
    · cases hj
  have h1n : ∀ u ∈ news, u.oneCell' = true := by
    intro u hu
    rw [hnews] at hu
    obtain ⟨j, hj, rfl⟩ := List.getElem_of_mem hu
    refine h1 _ ?_
    simp only [List.length_take, List.length_drop] at hj
    rw [List.getElem_take, List.getElem_drop]
    have : (cur.toList.take n)[i + 1 + j]'(by simp [hcl]; omega) = cur.toList[i + 1 + j]'(by omega) := by rw [List.getElem_take]
    rw [← this]; exact List.getElem_mem _
  obtain ⟨row1, hrow1⟩ : ∃ row1, row1 = cur.toList.take i ++ news ++ cur.toList.drop (n - 1) := ⟨_, rfl⟩
  have hr1l : row1.length = cap := by rw [hrow1]; simp [hnl, hcl]; omega
  have hap : ∀ ty q c (ad : Addr), ((ad = ⟨g, 0, none⟩ ∧ cap = i + 1) ∨ ad = ⟨g, i + 1, none⟩) → (Builtin.append_ #[169, 169] ty #[.slice (some ⟨g, 0, none⟩) i cap, .slice (some ad) (n - (i + 1)) c]).run Tryz.prog (w.drewN q) = .ok (.slice (some ⟨g, 0, none⟩) (n - 1) cap) ((w.drewN q).setRow g row1.toArray) := by
    intro ty q c ad had
    have := run_append_room (P := Tryz.prog) (w.drewN q) 169 ty 120 i0 Tryz.underlying169 hi0 g i cap cur hg ad (n - (i + 1)) c news (by rw [hz1, hnl, Nat.mul_one]) (by
      rcases had with ⟨rfl, e⟩ | rfl
      · intro j u hj
        have := (List.getElem?_eq_some_iff.1 hj).1
        omega
      · intro j u hj
        rw [Addr.add_lit]; exact hsrc j u hj) h1n (by omega) (by rw [hz1, hnl, hcs]; omega)
    rw [this, hz1, hnl, hrow1, Nat.mul_one, show i + (n - (i + 1)) = n - 1 from by omega]
  have HAP : Hid (∀ ty q c (ad : Addr), _) := hap
  have hg1 : ((w.drewN 1).setRow g row1.toArray).heap[g]? = some (.cells row1.toArray 120) := setRow_heap (w.drewN 1) g cur _ 120 (0, 0) hg
  obtain ⟨W1, hW1⟩ : ∃ W1, W1 = (w.drewN 1).setRow g row1.toArray := ⟨_, rfl⟩
  have gW1 : w.grownBy W1 (some g) := by
    rw [hW1]
    exact ⟨rfl, rfl, rfl, by simp, fun k hk hne => by rw [setRow_other _ _ _ _ (fun e => hne (by rw [e]))]; rfl⟩
  rw [← hW1] at hg1
  have hclr : ∀ ty c, (Builtin.clear_ #[169] ty #[.slice (some ⟨g, n - 1, none⟩) 1 c]).run Tryz.prog W1 = .ok (.tuple #[]) (W1.setCell ⟨g, n - 1, none⟩ (.pointer none)) := by
    intro ty c
    have hlt : n - 1 < row1.length := by omega
    have := Lib.run_clear_slice (P := Tryz.prog) W1 169 120 ty (.pointer none) Tryz.underlying169 Tryz.zero120 rfl rfl g (n - 1) 1 c (by omega) (fun j hj => by
      obtain rfl : j = 0 := by omega
      simp [World.cell?, hg1, hlt]) (fun j hj => by simp [World.frozen?, hg1])
    rw [this]; rfl
  have HW : Hid (W1 = (w.drewN 1).setRow g row1.toArray) := hW1
  have hG : (W1.setCell ⟨g, n - 1, none⟩ (.pointer none)).heap[g]? = some (.cells (delRow cur.toList i n).toArray 120) := by
    rw [text_set hg1]
    congr 2
    apply Array.ext'
    simp [delRow, hrow1, hnews]
  have HG : Hid _ := hG
  clear hW1 hap hg1 hG hrow1 hr1l hnews hnl hsrc h1n h1 hcl hi0 hz0 hz1 hz2 hg
  have hb1 : (i : Int) + 1 ≤ (n : Int) := by omega
  have hb2 : (i : Int) ≤ (cap : Int) := by omega
  have hb3 : (n : Int) ≤ (cap : Int) := by omega
  have hne : ((i : Int) == (i : Int) + 1) = false := by simp; omega
  have htn : ((i : Int) + 1).toNat = i + 1 := by omega
  have htn2 : n - (n - 1) = 1 := by omega
  have hb4 : ((n - 1 : Nat) : Int) ≤ (n : Int) := by omega
  unfold maxLen at hcm
  have hb5 : ¬ (cap = n - 1) := by omega
  have hb0 : (0 : Int) ≤ (i : Int) + 1 := by omega
  by_cases hci : cap = i + 1
  · have hapI := fun ty => HAP.out ty 1 0 ⟨g, 0, none⟩ (Or.inl ⟨rfl, hci⟩)
    have HA : Hid (∀ ty, _) := hapI
    obtain rfl : n = i + 1 := by omega
    subst hci
    have e1 : i + 1 - (i + 1) = 0 := by omega
    have e2 : i + 1 - 1 = i := by omega
    rw [e1, e2] at HA
    clear hapI e1 hb5 hb4 hb3 htn2
    rw [e2] at hclr HG ⊢
    have hb6 : (i : Int) ≤ (i : Int) + 1 := by omega
    have hb7 : ¬ (i + 1 = i) := by omega
    have hb8 : i + 1 - i = 1 := by omega
    clear e2
    go_enter Tryz.func115, Tryz.ntmps115
    go_wp2_with fail
    go_region_law (refine append_step rfl rfl (v := .slice (some ⟨g, 0, none⟩) i (i + 1)) (u := .slice (some ⟨g, 0, none⟩) 0 0) (by simp [Act.eval, Act.put]) (by simp [Act.eval, Act.put]) (HA.out _) ?_; rw [← HW.out])
    all_goals go_wp2
    all_goals go_ret
    all_goals exact ⟨rfl, HG.out, gb_s gW1⟩
  · have hapI := fun ty => HAP.out ty 1 (cap - (i + 1)) ⟨g, i + 1, none⟩ (Or.inr rfl)
    have HA : Hid (∀ ty, _) := hapI
    clear hapI
    go_enter Tryz.func115, Tryz.ntmps115
    go_wp2_with fail
    go_region_law (refine append_step rfl rfl (v := .slice (some ⟨g, 0, none⟩) i cap) (u := .slice (some ⟨g, i + 1, none⟩) (n - (i + 1)) (cap - (i + 1))) (by simp [Act.eval, Act.put]) (by simp [Act.eval, Act.put]) (HA.out _) ?_; rw [← HW.out])
    all_goals go_wp2
    all_goals go_ret
    all_goals exact ⟨rfl, HG.out, gb_s gW1⟩

end Go.Proofs.YtcfdemhokbddiaaGreatDoor
