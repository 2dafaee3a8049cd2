/-
  A step of any kind up to 5; the beginning; the script.
-/
import Derived.Test.YtcfdemhokbddiaaGreatDoorQLf
import Derived.Test.YtcfdemhokbddiaaGreatDoorQVc
import Derived.ProofKit
import Derived.SizedLaws
import Derived.Deep.Slices

namespace Go.Proofs.YtcfdemhokbddiaaGreatDoor
open Go.RowKit

theorem lawStep_any {sk : Value × Value} (base m wb : Nat) (lv : Value) (ps : List (GT × RB)) (w : World) (h : PW base m w wb sk lv ps) (hps : ps ≠ []) (hm : m ≤ 2199023255552) (kind e a b : Int) (hk : kind ≤ 5) (he : -9223372036854775808 ≤ e ∧ e ≤ 9223372036854775807) (s : ByteArray) (L : Value) (xs : List Int) (hL : FarL w (pwOwn wb lv ps) L xs) (hxb : xs.length ≤ 17592186044416) :
    Calls Tryz.prog 30 #[.pointer (some ⟨wb, 0, none⟩), stepV kind e s a b L] w fun r w' => r = .returned (.bool true) ∧ ∃ lv' ps', PW base (m + 1) w' wb sk lv' ps' ∧ ps' ≠ [] ∧ Kpt wb lv ps w lv' ps' w' := by
  have hLs : ∃ x n c, L = .slice x n c := by obtain ⟨x, c, e1, _⟩ := hL; exact ⟨x, _, c, e1⟩
  by_cases h1 : kind = 1
  · subst h1; exact step_plain base m wb lv ps w h hps e a b s L hLs
  by_cases h2 : kind = 2
  · subst h2; exact step_new base m wb lv ps w h hm e a b s L hLs
  by_cases h3 : kind = 3
  · subst h3; exact step_family base m wb lv ps w h hps hm e a b he s L xs hL hxb
  by_cases h4 : kind = 4
  · subst h4; exact step_change base m wb lv ps w h hps hm e a b he s L hLs
  by_cases h5 : kind = 5
  · subst h5; exact step_drop base m wb lv ps w h hps hm e a b he s L hLs
  · exact step_other base m wb lv ps w h hps hm kind e a b ⟨by simpa using h1, by simpa using h2, by simpa using h3, by simpa using h4, by simpa using h5, by simp; omega, by simp; omega, by simp; omega⟩ he s L hLs

def hitsB : ByteArray := ⟨#[104, 105, 116, 115]⟩
def waitB : ByteArray := ⟨#[119, 97, 105, 116]⟩
def firstB : ByteArray := ⟨#[104, 105, 116, 115, 123, 98, 61, 34, 50, 34, 44, 97, 61, 34, 49, 34, 125]⟩

theorem farL_nil (w : World) (own : List Nat) : FarL w own (.slice none 0 0) [] := ⟨none, 0, rfl, Nat.le_refl _, Or.inl rfl⟩

set_option maxRecDepth 100000 in
set_option maxHeartbeats 1000000 in
theorem begins_any {sk : Value × Value} (base wb : Nat) (w : World) (h : PW base 0 w wb sk (.slice none 0 0) []) :
    Calls Tryz.prog 29 #[.pointer (some ⟨wb, 0, none⟩)] w fun r w' => r = .returned (.bool true) ∧ ∃ lv' ps', PW base 4 w' wb sk lv' ps' ∧ ps' ≠ [] ∧ Kpt wb (.slice none 0 0) [] w lv' ps' w' := by
  have HM : Hid (Calls Tryz.prog 42 #[.pointer (some ⟨wb, 0, none⟩)] w _) := more_any base 0 wb _ [] w h (by omega)
  have hlow := h.low
  clear h
  go_enter Tryz.func29, Tryz.ntmps29
  go_wp2_with fail
  refine HM.out.mono ?_
  rintro r w1 ⟨rfl, lv1, ps1, p1, n1, b1⟩
  have HB1 : Hid (Kpt wb (.slice none 0 0) [] w lv1 ps1 w1) := b1
  have H1 : Hid (Calls Tryz.prog 30 #[.pointer (some ⟨wb, 0, none⟩), .agg #[.int .i64 3, .int .i64 0, .string ⟨#[104, 105, 116, 115]⟩, .int .i64 1, .int .i64 0, .slice none 0 0]] w1 _) := lawStep_any base 1 wb lv1 ps1 w1 p1 n1 (by omega) 3 0 1 0 (by omega) (by omega) hitsB (.slice none 0 0) [] (farL_nil _ _) (by simp)
  clear p1 n1 b1 HM
  go_wp2_with fail
  refine H1.out.mono ?_
  rintro r w2 ⟨rfl, lv2, ps2, p2, n2, b2⟩
  have HB2 : Hid (Kpt wb lv1 ps1 w1 lv2 ps2 w2) := b2
  have ga := gb_alloc (gb_refl w2 none) (.cells #[.int .i64 10, .int .i64 20] 3)
  have hbn := alloc_new w2 (.cells #[.int .i64 10, .int .i64 20] 3) _ rfl
  have hfar : FarL (w2.alloc (.cells #[.int .i64 10, .int .i64 20] 3)) (pwOwn wb lv2 ps2) (.slice (some ⟨w2.heap.size, 0, none⟩) 2 2) [10, 20] := by
    refine ⟨_, 2, rfl, Nat.le_refl _, Or.inr ⟨w2.heap.size, 0, rfl, fun hm => ?_, by simp, fun k hk => ?_⟩⟩
    · have := p2.lt _ hm; omega
    · unfold World.cell?
      simp only [hbn]
      simp only [List.length_cons, List.length_nil] at hk
      match k, hk with
      | 0, _ => rfl
      | 1, _ => rfl
  have H2 : Hid (Calls Tryz.prog 30 #[.pointer (some ⟨wb, 0, none⟩), .agg #[.int .i64 3, .int .i64 0, .string ⟨#[119, 97, 105, 116]⟩, .int .i64 3, .int .i64 0, .slice (some ⟨w2.heap.size, 0, none⟩) 2 2]] (w2.alloc (.cells #[.int .i64 10, .int .i64 20] 3)) _) := lawStep_any base 2 wb lv2 ps2 _ (p2.gb ga) n2 (by omega) 3 0 3 0 (by omega) (by omega) waitB _ [10, 20] hfar (by simp)
  have HG : Hid (w2.grownBy (w2.alloc (.cells #[.int .i64 10, .int .i64 20] 3)) none) := ga
  clear p2 n2 b2 H1 ga hbn hfar
  go_wp2_with fail
  refine H2.out.mono ?_
  rintro r w3 ⟨rfl, lv3, ps3, p3, n3, b3⟩
  have HB3 : Hid (Kpt wb lv2 ps2 (w2.alloc (.cells #[.int .i64 10, .int .i64 20] 3)) lv3 ps3 w3) := b3
  have H3 : Hid (Calls Tryz.prog 30 #[.pointer (some ⟨wb, 0, none⟩), .agg #[.int .i64 4, .int .i64 0, .string ⟨#[104, 105, 116, 115, 123, 98, 61, 34, 50, 34, 44, 97, 61, 34, 49, 34, 125]⟩, .int .i64 5, .int .i64 0, .slice none 0 0]] w3 _) := lawStep_any base 3 wb lv3 ps3 w3 p3 n3 (by omega) 4 0 5 0 (by omega) (by omega) firstB (.slice none 0 0) [] (farL_nil _ _) (by simp)
  clear p3 n3 b3 H2
  go_wp2_with fail
  refine H3.out.mono ?_
  rintro r w4 ⟨rfl, lv4, ps4, p4, n4, b4⟩
  have HR : Hid (PW base 4 w4 wb sk lv4 ps4 ∧ ps4 ≠ [] ∧ Kpt wb (.slice none 0 0) [] w lv4 ps4 w4) := ⟨p4, n4, (((HB1.out.trans HB2.out).to HG.out).trans HB3.out).trans b4⟩
  clear p4 n4 b4 H3
  go_wp2
  go_ret
  exact ⟨rfl, lv4, ps4, HR.out.1, HR.out.2.1, HR.out.2.2⟩

/-- What is known of the script's i-th step. -/
structure StepIs (w : World) (b o : Nat) (kind e : Int) (s : ByteArray) (a c : Int) (v : Value) (xs : List Int) : Prop where
  c0 : w.cell? ⟨b, o, none⟩ = some (.int .i64 kind)
  c1 : w.cell? ⟨b, o + 1, none⟩ = some (.int .i64 e)
  c2 : w.cell? ⟨b, o + 2, none⟩ = some (.string s)
  c3 : w.cell? ⟨b, o + 3, none⟩ = some (.int .i64 a)
  c4 : w.cell? ⟨b, o + 4, none⟩ = some (.int .i64 c)
  c5 : w.cell? ⟨b, o + 5, none⟩ = some v
  he : -9223372036854775808 ≤ e ∧ e ≤ 9223372036854775807
  far : FarL w [] v xs
  len : xs.length ≤ 17592186044416

theorem below_cell {base : Nat} {w w' : World} (h : Below base w w') {p : Addr} (hb : p.block < base) : w'.cell? p = w.cell? p := World.cell?_of_block (w := w) (h.block p.block hb)
theorem StepIs.below {w w' : World} {b o : Nat} {kind e : Int} {s : ByteArray} {a c : Int} {v : Value} {xs : List Int} (h : StepIs w b o kind e s a c v xs) (hb : Below w.heap.size w w') : StepIs w' b o kind e s a c v xs := by
  have hl : b < w.heap.size := World.block_lt_of_cell? _ _ h.c0
  refine ⟨?_, ?_, ?_, ?_, ?_, ?_, h.he, ?_, h.len⟩
  · rw [below_cell hb (p := ⟨b, o, none⟩) hl]; exact h.c0
  · rw [below_cell hb (p := ⟨b, o + 1, none⟩) hl]; exact h.c1
  · rw [below_cell hb (p := ⟨b, o + 2, none⟩) hl]; exact h.c2
  · rw [below_cell hb (p := ⟨b, o + 3, none⟩) hl]; exact h.c3
  · rw [below_cell hb (p := ⟨b, o + 4, none⟩) hl]; exact h.c4
  · rw [below_cell hb (p := ⟨b, o + 5, none⟩) hl]; exact h.c5
  · obtain ⟨sa, cap, h1, h2, h3⟩ := h.far
    refine ⟨sa, cap, h1, h2, ?_⟩
    rcases h3 with h3 | ⟨b', off, h3, h4, h5, h6⟩
    · exact Or.inl h3
    · exact Or.inr ⟨b', off, h3, h4, Nat.lt_of_lt_of_le h5 hb.size, fun k hk => by rw [below_cell hb (p := ⟨b', off + k, none⟩) h5]; exact h6 k hk⟩
theorem StepIs.farOwn {w w' : World} {own : List Nat} {b o : Nat} {kind e : Int} {s : ByteArray} {a c : Int} {v : Value} {xs : List Int} (h : StepIs w b o kind e s a c v xs) (hb : Below w.heap.size w w') (ho : ∀ x ∈ own, w.heap.size ≤ x) : FarL w' own v xs := by
  obtain ⟨sa, cap, h1, h2, h3⟩ := h.far
  refine ⟨sa, cap, h1, h2, ?_⟩
  rcases h3 with h3 | ⟨b', off, h3, h4, h5, h6⟩
  · exact Or.inl h3
  · exact Or.inr ⟨b', off, h3, fun hm => by have := ho b' hm; omega, Nat.lt_of_lt_of_le h5 hb.size, fun k hk => by rw [below_cell hb (p := ⟨b', off + k, none⟩) h5]; exact h6 k hk⟩

set_option maxRecDepth 100000 in
set_option maxHeartbeats 2000000 in
theorem plays_any (sa : Option Addr) (n cap : Nat) (w : World) (ht : Tab w) (hn : n ≤ 1954687338268) (hs : n = 0 ∨ ∃ b off, sa = some ⟨b, off, none⟩ ∧ ∀ i, i < n → ∃ kind e s a c v xs, StepIs w b (off + i * 6) kind e s a c v xs) :
    Calls Tryz.prog 11 #[.slice sa n cap, .int .i64 5] w fun r w' => r = .returned (.bool true) ∧ Below w.heap.size w w' := by
  have ga := gb_alloc (gb_refl w none) (.cells #[.slice none 0 0, .slice none 0 0, .slice none 0 0] 62)
  have hP0 : PW w.heap.size 0 (w.alloc (.cells #[.slice none 0 0, .slice none 0 0, .slice none 0 0] 62)) w.heap.size (.slice none 0 0, .slice none 0 0) (.slice none 0 0) [] :=
    ⟨alloc_new _ _ _ rfl, World.ownsRow_nil _ _ _ _, by simp, by simp [pwOwn, Value.ownBlock], by simp [pwOwn, Value.ownBlock], by simp, by simp, ht.gb ga, ht.lt⟩
  have HB : Hid (Calls Tryz.prog 29 #[.pointer (some ⟨w.heap.size, 0, none⟩)] (w.alloc (.cells #[.slice none 0 0, .slice none 0 0, .slice none 0 0] 62)) _) := (begins_any w.heap.size w.heap.size _ hP0).mono fun r w' ⟨h1, lv', ps', h2, h3, h4⟩ => (⟨h1, lv', ps', h2, h3, h4.below hP0⟩ : r = Ending.returned (.bool true) ∧ ∃ lv' ps', PW w.heap.size 4 w' w.heap.size (.slice none 0 0, .slice none 0 0) lv' ps' ∧ ps' ≠ [] ∧ Below w.heap.size _ w')
  have HG : Hid (Below w.heap.size w (w.alloc (.cells #[.slice none 0 0, .slice none 0 0, .slice none 0 0] 62))) := ⟨ga.os, ga.tape, ga.output, ga.size, fun j hj => ga.block j hj (by simp)⟩
  have HS : Hid (n = 0 ∨ ∃ b off, sa = some ⟨b, off, none⟩ ∧ ∀ i, i < n → ∃ kind e s a c v xs, StepIs w b (off + i * 6) kind e s a c v xs) := hs
  clear ga hP0 hs ht
  go_enter Tryz.func11, Tryz.ntmps11
  go_wp2_with fail
  refine HB.out.mono ?_
  rintro r w1 ⟨rfl, lv1, ps1, p1, n1, b1⟩
  have HR1 : Hid (PW w.heap.size 4 w1 w.heap.size (.slice none 0 0, .slice none 0 0) lv1 ps1 ∧ ps1 ≠ [] ∧ Below w.heap.size w w1) := ⟨p1, n1, HG.out.trans b1⟩
  clear p1 n1 b1 HB HG
  go_wp2_with fail
  go_loopw [6, 7] (fun ok i wr => ∃ (k : Nat) (lv : Value) (ps : List (GT × RB)), ok = .bool true ∧ i = .int .i64 (k : Int) ∧ k ≤ n ∧ Hid (PW w.heap.size (4 + k) wr w.heap.size (.slice none 0 0, .slice none 0 0) lv ps ∧ ps ≠ [] ∧ Below w.heap.size w wr)) (fun _ i _ => n - (intOf i).toNat)
  case atStart => exact ⟨0, lv1, ps1, rfl, rfl, Nat.zero_le _, HR1.out⟩
  case round =>
    obtain ⟨k, lv, ps, rfl, rfl, hk, HR⟩ := hrel
    by_cases hlt : k < n
    · obtain ⟨b, off, rfl, hall⟩ : ∃ b off, sa = some ⟨b, off, none⟩ ∧ ∀ i, i < n → ∃ kind e s a c v xs, StepIs w b (off + i * 6) kind e s a c v xs := by
        rcases HS.out with h0 | h0
        · omega
        · exact h0
      obtain ⟨kind, e, s, a, c, v, xs, hst⟩ := hall k hlt
      have hstr := hst.below HR.out.2.2
      obtain ⟨q0, q1, q2, q3, q4, q5, _, _, _⟩ := hstr
      obtain ⟨va, vc, hv⟩ : ∃ va vc, v = .slice va xs.length vc := by obtain ⟨x, y, e1, _⟩ := hst.far; exact ⟨x, y, e1⟩
      rw [hv] at q5
      have hki : (k : Int) < (n : Int) := by omega
      by_cases hk5 : kind ≤ 5
      · have hk5' : ¬ (5 : Int) < kind := by omega
        have hstep := lawStep_any w.heap.size (4 + k) w.heap.size lv ps wr HR.out.1 HR.out.2.1 (by omega) kind e a c hk5 hst.he s v xs (hst.farOwn HR.out.2.2 HR.out.1.above) hst.len
        rw [hv] at hstep
        unfold stepV at hstep
        have HST : Hid (Calls Tryz.prog 30 #[.pointer (some ⟨w.heap.size, 0, none⟩), .agg #[.int .i64 kind, .int .i64 e, .string s, .int .i64 a, .int .i64 c, .slice va xs.length vc]] wr _) := hstep
        clear hstep hst hv hall
        go_wp2_with fail
        refine HST.out.mono ?_
        rintro r w2 ⟨rfl, lv2, ps2, p2, n2, b2⟩
        have HR2 : Hid (PW w.heap.size (4 + k + 1) w2 w.heap.size (.slice none 0 0, .slice none 0 0) lv2 ps2 ∧ ps2 ≠ [] ∧ Below w.heap.size w w2) := ⟨p2, n2, HR.out.2.2.trans (b2.below HR.out.1)⟩
        clear p2 n2 b2 HST
        go_wp2_with fail
        refine (looks_any _ _ _ _ _ _ HR2.out.1).mono ?_
        rintro r w2 ⟨rfl, rfl⟩
        go_wp2
        go_roundw
        case rel => exact ⟨k + 1, lv2, ps2, by simp, by go_num, by omega, HR2.out⟩
        case measure => simp [intOf]; omega
      · have hk5' : (5 : Int) < kind := by omega
        clear hst hv hall
        go_wp2
        go_roundw
        case rel => exact ⟨k + 1, lv, ps, by simp, by go_num, by omega, ⟨HR.out.1.mono (by omega), HR.out.2.1, HR.out.2.2⟩⟩
        case measure => simp [intOf]; omega
    · have hki : ¬ (k : Int) < (n : Int) := by omega
      have hpl : 0 < ps.length := List.length_pos_iff.2 HR.out.2.1
      obtain ⟨xa, xc, hlv, _, _⟩ := own_shape2 HR.out.1.row
      have c0 : wr.cell? ⟨w.heap.size, 0, none⟩ = some lv := by unfold World.cell?; simp only [HR.out.1.blk]; rfl
      rw [hlv] at c0
      have hpi : (0 : Int) < (ps.length : Int) := by omega
      have HLK : Hid (Calls Tryz.prog 31 #[.pointer (some ⟨w.heap.size, 0, none⟩)] wr _) := looks_any _ _ _ _ _ _ HR.out.1
      clear hlv
      go_wp2_with fail
      refine wp_loop_rounds 1 ?_
      rw [rounds_succ]
      go_wp2_with fail
      refine HLK.out.mono ?_
      rintro r w2 ⟨rfl, rfl⟩
      go_wp2
      go_ret
      exact ⟨rfl, HR.out.2.2⟩

set_option maxRecDepth 100000 in
set_option maxHeartbeats 400000 in
theorem counts_any (sa : Option Addr) (n cap : Nat) (w : World) (ht : Tab w) (hn : n ≤ 1954687338268) (hs : n = 0 ∨ ∃ b off, sa = some ⟨b, off, none⟩ ∧ ∀ i, i < n → ∃ kind e s a c v xs, StepIs w b (off + i * 6) kind e s a c v xs) :
    Calls Tryz.prog 3 #[.slice sa n cap] w fun r w' => r = .returned (.bool true) ∧ Below w.heap.size w w' := by
  have HP : Hid (Calls Tryz.prog 11 #[.slice sa n cap, .int .i64 5] w _) := plays_any sa n cap w ht hn hs
  clear hs ht
  go_enter Tryz.func3, Tryz.ntmps3
  go_wp2_with fail
  refine HP.out.mono ?_
  rintro r w1 ⟨rfl, b1⟩
  go_wp2
  go_ret
  exact ⟨rfl, b1⟩

end Go.Proofs.YtcfdemhokbddiaaGreatDoor


namespace Go.Proofs.YtcfdemhokbddiaaGreatDoor
open Go.ChangeShapes Go.WideShapes Go.ChangeAt Go.RowKit

theorem Tryz.cells33 : Tryz.prog.cellsOf 65 = 6 := by kernel_rfl
theorem Tryz.cells28 : Tryz.prog.cellsOf 26 = 1 := by kernel_rfl
theorem Tryz.cells9 : Tryz.prog.cellsOf 9 = 1 := by kernel_rfl
theorem Tryz.bytes33 : Tryz.prog.bytesOf 65 = 72 := by kernel_rfl

theorem weights_all_mem {H : Type} {P : Program} {e : TypeId} : ∀ {l : List (DataW H)} {d : DataW H}, d ∈ l → ∀ n ∈ d.weights P e, n ∈ DataW.weightsAll P e l
  | x :: r, d, h, n, hn => by
    simp only [DataW.weightsAll, List.mem_append]
    rcases List.mem_cons.1 h with rfl | h
    · exact Or.inl hn
    · exact Or.inr (weights_all_mem h n hn)

/-- One step among the arguments, opened. -/
theorem step_open {H : Type} {enc : TypeId × Value → H} {w : World} {held : Bool} {m : Nat} {cs : List Value} {d : DataW H} {pl : List MemPlace} {b o : Nat}
    (hcs : w.cells? 0 ⟨b, o, none⟩ 6 = some cs) (h : DataW.trod enc Tryz.prog w 0 (fun _ => true) held m 65 cs = some (d, pl)) (hsz : ∀ n ∈ d.weights Tryz.prog 65, n ≤ reachBytes) :
    ∃ kind e s a c v xs, StepIs w b o kind e s a c v xs := by
  obtain ⟨_, hlen, hc⟩ := World.cells?_some hcs
  match cs, hlen with
  | [v0, v1, v2, v3, v4, v5], _ =>
    have q0 : w.cell? ⟨b, o, none⟩ = some v0 := by simpa [Addr.add] using hc 0 (by omega)
    have q1 : w.cell? ⟨b, o + 1, none⟩ = some v1 := by simpa [Addr.add] using hc 1 (by omega)
    have q2 : w.cell? ⟨b, o + 2, none⟩ = some v2 := by simpa [Addr.add] using hc 2 (by omega)
    have q3 : w.cell? ⟨b, o + 3, none⟩ = some v3 := by simpa [Addr.add] using hc 3 (by omega)
    have q4 : w.cell? ⟨b, o + 4, none⟩ = some v4 := by simpa [Addr.add] using hc 4 (by omega)
    have q5 : w.cell? ⟨b, o + 5, none⟩ = some v5 := by simpa [Addr.add] using hc 5 (by omega)
    obtain ⟨ys, n, _, hx, _, hyl, hf⟩ := DataW.trod_struct Tryz.underlying65 h
    match ys, hyl with
    | [y0, y1, y2, y3, y4, y5], _ =>
      have f0 : DataW.trod enc Tryz.prog w 0 (fun _ => true) held n 3 [v0] = some y0 := by
        have q := hf 0 { name := "Kind", type := 3, offset := 0, embedded := false, tag := "", pkgPath := "", byteOffset := 0 } rfl
        rw [show Tryz.prog.cellsOf 3 = 1 from Tryz.cells3] at q
        exact q
      have f1 : DataW.trod enc Tryz.prog w 0 (fun _ => true) held n 3 [v1] = some y1 := by
        have q := hf 1 { name := "E", type := 3, offset := 1, embedded := false, tag := "", pkgPath := "", byteOffset := 8 } rfl
        rw [show Tryz.prog.cellsOf 3 = 1 from Tryz.cells3] at q
        exact q
      have f2 : DataW.trod enc Tryz.prog w 0 (fun _ => true) held n 9 [v2] = some y2 := by
        have q := hf 2 { name := "S", type := 9, offset := 2, embedded := false, tag := "", pkgPath := "", byteOffset := 16 } rfl
        rw [show Tryz.prog.cellsOf 9 = 1 from Tryz.cells9] at q
        exact q
      have f3 : DataW.trod enc Tryz.prog w 0 (fun _ => true) held n 3 [v3] = some y3 := by
        have q := hf 3 { name := "A", type := 3, offset := 3, embedded := false, tag := "", pkgPath := "", byteOffset := 32 } rfl
        rw [show Tryz.prog.cellsOf 3 = 1 from Tryz.cells3] at q
        exact q
      have f4 : DataW.trod enc Tryz.prog w 0 (fun _ => true) held n 3 [v4] = some y4 := by
        have q := hf 4 { name := "B", type := 3, offset := 4, embedded := false, tag := "", pkgPath := "", byteOffset := 40 } rfl
        rw [show Tryz.prog.cellsOf 3 = 1 from Tryz.cells3] at q
        exact q
      have f5 : DataW.trod enc Tryz.prog w 0 (fun _ => true) held n 26 [v5] = some y5 := by
        have q := hf 5 { name := "L", type := 26, offset := 5, embedded := false, tag := "", pkgPath := "", byteOffset := 48 } rfl
        rw [show Tryz.prog.cellsOf 26 = 1 from Tryz.cells28] at q
        exact q
      obtain ⟨k0, e0, _, _⟩ := DataW.trod_int Tryz.underlying3 f0
      obtain ⟨k1, e1, _, g1⟩ := DataW.trod_int Tryz.underlying3 f1
      obtain ⟨k2, e2, _, _⟩ := DataW.trod_string Tryz.underlying9 f2
      obtain ⟨k3, e3, _, _⟩ := DataW.trod_int Tryz.underlying3 f3
      obtain ⟨k4, e4, _, _⟩ := DataW.trod_int Tryz.underlying3 f4
      simp only [List.cons.injEq, and_true] at e0 e1 e2 e3 e4
      subst e0 e1 e2 e3 e4
      have g1' : -9223372036854775808 ≤ k1 ∧ k1 ≤ 9223372036854775807 := by
        simp only [Lit.wf, Bool.and_eq_true, decide_eq_true_eq] at g1
        rw [show IntKind.i64.min = -9223372036854775808 by decide, show IntKind.i64.max = 9223372036854775807 by decide] at g1
        exact g1
      simp only [Prod.mk.injEq] at hx
      obtain ⟨hd, _⟩ := hx
      rcases open_ints Tryz.underlying26 Tryz.underlying3 Tryz.cells3 f5 with ⟨hv, _⟩ | ⟨a, len, cap, zs, hv, _, hl, hm, hz, hy, hcell, _⟩
      · simp only [List.cons.injEq, and_true] at hv
        subst hv
        exact ⟨k0, k1, k2, k3, k4, _, [], ⟨q0, q1, q2, q3, q4, q5, g1', ⟨none, 0, rfl, Nat.le_refl _, Or.inl rfl⟩, Nat.zero_le _⟩⟩
      · simp only [List.cons.injEq, and_true] at hv
        subst hv
        simp only [if_true] at hz
        have hy1 : y5.1 = .slice (lits .i64 (zs.take len)) (lits .i64 (zs.drop len)) := congrArg Prod.fst hy
        have hw8 : (len + (cap - len)) * 8 ≤ reachBytes := by
          refine hsz _ ?_
          rw [hd]
          simp only [DataW.weights, Tryz.underlying65, List.map_cons, List.map_nil, DataW.weightsEach, hy1, Tryz.underlying26, Tryz.bytes3, List.mem_append, List.append_nil]
          iterate 5 refine Or.inr ?_
          refine List.mem_cons.2 (Or.inl ?_)
          simp [lits, hz, Nat.min_eq_left hl]
        have htl : (zs.take len).length = len := by simp [hz, Nat.min_eq_left hl]
        refine ⟨k0, k1, k2, k3, k4, _, zs.take len, ⟨q0, q1, q2, q3, q4, q5, g1', ⟨some a, cap, by rw [htl], by omega, ?_⟩, ?_⟩⟩
        · by_cases hl0 : len = 0
          · exact Or.inl (by simp [hl0])
          · right
            have h0 := hcell 0 (by omega)
            obtain ⟨b', off', spot⟩ := a
            have hspot : spot = none := by simpa [Addr.add] using World.cell?_spot h0
            subst hspot
            have hbW : b' < w.heap.size := World.block_lt_of_cell? _ _ h0
            refine ⟨b', off', rfl, by simp, hbW, fun k hk => ?_⟩
            have := hcell k (by omega)
            rw [← Addr.add_lit, this]
            simp [List.getD, List.getElem?_eq_getElem (show k < zs.length by omega)]
        · unfold reachBytes at hw8
          omega

end Go.Proofs.YtcfdemhokbddiaaGreatDoor
