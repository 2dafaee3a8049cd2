/-
  A family's methods: takes, remade, newFamily, find, add; a series' numbers: stopped.
-/
import Derived.Test.YtcfdemhokbddiaaGreatDoorQKg

namespace Go.Proofs.YtcfdemhokbddiaaGreatDoor
open Go.RowKit

/-- A series and its numbers. -/
structure Cnt where
  plain : List UInt8
  num : Int
  all : Int
  us : List Int
def cntObj (ac : Nat) (x : Cnt) : Obj := .cells (#[.int .i64 (ac : Int), .string (B x.plain), .int .i64 x.num, .int .i64 x.all] ++ (ints x.us).toArray) 178
def zeroCnt (p : List UInt8) : Cnt := ⟨p, 0, 0, [0, 0, 0, 0]⟩
def famObj (ag : Nat) (nm : List UInt8) (kind : Int) (lv sv : Value) : Obj := .cells #[.int .i64 (ag : Int), .string (B nm), .int .i64 kind, lv, sv] 171

theorem fam_cells {w : World} {f ag : Nat} {nm : List UInt8} {kind : Int} {lv sv : Value} (h : w.heap[f]? = some (famObj ag nm kind lv sv)) :
    w.cell? ⟨f, 1, none⟩ = some (.string (B nm)) ∧ w.cell? ⟨f, 2, none⟩ = some (.int .i64 kind) ∧ w.cell? ⟨f, 3, none⟩ = some lv ∧ w.cell? ⟨f, 4, none⟩ = some sv ∧ w.frozen? ⟨f, 4, none⟩ = false := by
  simp [World.cell?, World.frozen?, h, famObj]
theorem fam_age {w : World} {f ag : Nat} {nm : List UInt8} {kind : Int} {lv sv : Value} (h : w.heap[f]? = some (famObj ag nm kind lv sv)) : w.cell? ⟨f, 0, none⟩ = some (.int .i64 (ag : Int)) := by
  simp [World.cell?, h, famObj]
theorem fam_set {w : World} {f ag : Nat} {nm : List UInt8} {kind : Int} {lv sv : Value} (h : w.heap[f]? = some (famObj ag nm kind lv sv)) (sv' : Value) : (w.setCell ⟨f, 4, none⟩ sv').heap[f]? = some (famObj ag nm kind lv sv') := by
  simp [World.setCell, Array.getElem?_modify, h, famObj]

def takesB (kind n : Int) : Bool := inB n && (decide (kind ≠ 1) || decide (0 ≤ n))

set_option maxHeartbeats 400000 in
theorem takes_any (f : Nat) (kind n : Int) (w : World) (h1 : w.cell? ⟨f, 2, none⟩ = some (.int .i64 kind)) :
    Calls Tryz.prog 64 #[.pointer (some ⟨f, 0, none⟩), .int .i64 n] w fun e w' => e = .returned (.bool (takesB kind n)) ∧ w' = w := by
  have HE : Hid (takesB kind n = (inB n && (decide (kind ≠ 1) || decide (0 ≤ n)))) := rfl
  go_enter Tryz.func64, Tryz.ntmps64
  go_wp2_with fail
  refine (inBounds_any n _).mono ?_
  rintro e w1 ⟨rfl, rfl⟩
  cases hb : inB n with
  | false =>
    have HB : Hid (inB n = false) := hb
    clear hb
    go_wp2
    go_ret
    exact ⟨by rw [HE.out, HB.out]; rfl, rfl⟩
  | true =>
    have HB : Hid (inB n = true) := hb
    clear hb
    by_cases hk : kind = 1
    · subst hk
      by_cases hn : 0 ≤ n
      · go_wp2
        go_ret
        exact ⟨by rw [HE.out, HB.out]; simp [hn], rfl⟩
      · go_wp2
        go_ret
        exact ⟨by rw [HE.out, HB.out]; simp, rfl⟩
    · have hk' : (kind != 1) = true := by simpa using hk
      have HK : Hid (decide (kind ≠ 1) = true) := decide_eq_true hk
      clear hk
      go_wp2
      go_ret
      exact ⟨by rw [HE.out, HB.out, HK.out]; rfl, rfl⟩

def remP (k2 kind : Int) (xs ls : List Int) : Int := if k2 = kind ∧ xs = ls then 0 else 5

set_option maxHeartbeats 400000 in
theorem remade_any (f ag : Nat) (nm : List UInt8) (kind k2 : Int) (lv sv v : Value) (ls xs : List Int) (w : World) (hf : w.heap[f]? = some (famObj ag nm kind lv sv)) (hl : IntSl w lv ls) (hv : IntSl w v xs) (hm : xs.length ≤ 9223372036854775807) :
    Calls Tryz.prog 88 #[.pointer (some ⟨f, 0, none⟩), .int .i64 k2, v] w fun e w' => e = .returned (.int .i64 (remP k2 kind xs ls)) ∧ w.grownBy w' none := by
  obtain ⟨c0, c1, c2, c3, _⟩ := fam_cells hf
  have HL : Hid (IntSl w lv ls) := hl
  have HV : Hid (IntSl w v xs) := hv
  obtain ⟨sa, ca, rfl⟩ : ∃ sa ca, v = .slice sa xs.length ca := by obtain ⟨sa, ca, h, _⟩ := hv; exact ⟨sa, ca, h⟩
  obtain ⟨sb, cb, rfl⟩ : ∃ sb cb, lv = .slice sb ls.length cb := by obtain ⟨sb, cb, h, _⟩ := hl; exact ⟨sb, cb, h⟩
  clear hl hv hf
  by_cases hk : k2 = kind
  · subst hk
    have hk' : (k2 != k2) = false := by simp
    go_enter Tryz.func88, Tryz.ntmps88
    go_wp2_with fail
    refine (equal_any _ _ xs ls _ HV.out HL.out hm).mono ?_
    rintro e w1 ⟨rfl, q, rfl⟩
    by_cases he : xs = ls
    · have HE : Hid (remP k2 k2 xs ls = 0) := if_pos ⟨rfl, he⟩
      have hd : decide (xs = ls) = true := decide_eq_true he
      clear he
      rw [hd]
      clear hd
      go_wp2
      go_ret
      exact ⟨by rw [HE.out]; rfl, gb_drewN _ _ _⟩
    · have HE : Hid (remP k2 k2 xs ls = 5) := if_neg (fun h => he h.2)
      have hd : decide (xs = ls) = false := decide_eq_false he
      clear he
      rw [hd]
      clear hd
      go_wp2
      go_ret
      exact ⟨by rw [HE.out]; rfl, gb_drewN _ _ _⟩
  · have hk' : (k2 != kind) = true := by simpa using hk
    have HK : Hid (remP k2 kind xs ls = 5) := if_neg (fun h => hk h.1)
    clear hk
    go_enter Tryz.func88, Tryz.ntmps88
    go_wp2
    go_ret
    exact ⟨by rw [HK.out]; rfl, gb_refl _ _⟩

set_option maxHeartbeats 400000 in
theorem newFamily_any (ag : Nat) (s : ByteArray) (kind : Int) (v : Value) (xs : List Int) (w : World) (hs : s.size ≤ 100) (hv : IntSl w v xs) (hl : xs.length ≤ 4) :
    Calls Tryz.prog 89 #[.int .i64 (ag : Int), .string s, .int .i64 kind, v] w fun e w' => ∃ f lv, e = .returned (.pointer (some ⟨f, 0, none⟩)) ∧ w.heap.size ≤ f ∧ w'.heap[f]? = some (.cells #[.int .i64 (ag : Int), .string s, .int .i64 kind, lv, .slice none 0 0] 171) ∧
      w'.ownsRow w.heap.size 3 1 lv xs.length (ints xs) ∧ w.grownBy w' none := by
  have HV : Hid (IntSl w v xs) := hv
  clear hv
  go_enter Tryz.func89, Tryz.ntmps89
  go_wp2_with fail
  refine (clone_any s _ hs).mono ?_
  rintro e w1 ⟨rfl, g1⟩
  go_wp2_with fail
  refine (cloneI_any _ xs _ (HV.out.gb g1) hl).mono ?_
  rintro e w2 ⟨u, rfl, own2, g2⟩
  obtain ⟨sa, sc, rfl, _, _⟩ := own_shape1 own2
  have G2 := gb_trans g1 g2
  have hsz := G2.size
  have HO : Hid (w2.ownsRow w1.heap.size 3 1 (.slice sa xs.length sc) xs.length (ints xs)) := own2
  have hsz1 := g1.size
  clear own2 g1 g2
  go_wp2
  go_ret
  exact ⟨_, _, rfl, hsz, alloc_new _ _ _ rfl, own_mono (HO.out.alloc _) hsz1, gb_alloc G2 _⟩

set_option maxHeartbeats 400000 in
theorem findM_any (f ag : Nat) (nm : List UInt8) (kind : Int) (lv sv : Value) (base : Nat) (ps : List Nat) (ks : List (List UInt8)) (t : List UInt8) (w : World) (hf : w.heap[f]? = some (famObj ag nm kind lv sv))
    (hown : w.ownsRow base 120 1 sv ps.length (ptrs ps)) (hks : Keyed w ps ks) (hl : ks.length ≤ 100) (hsrt : KSrt lt ks) :
    Calls Tryz.prog 65 #[.pointer (some ⟨f, 0, none⟩), .string (B t)] w
      fun e w' => e = .returned (.tuple #[.int .i64 (kplace lt t ks : Int), .bool (kfnd lt t ks)]) ∧ w.grownBy w' none := by
  obtain ⟨c0, c1, c2, c3, _⟩ := fam_cells hf
  have HF : Hid (Calls Tryz.prog 97 #[sv, .func (.func 98) #[] #[], .string (B t)] w _) := findC_any sv base ps ks t w hown hks hl hsrt
  clear hf hown hks hsrt
  go_enter Tryz.func65, Tryz.ntmps65
  go_wp2_with fail
  refine HF.out.mono ?_
  rintro e w1 ⟨rfl, g1⟩
  go_wp2
  go_ret2
  exact ⟨rfl, g1⟩

theorem keyed_alloc {w : World} {ps : List Nat} {ks : List (List UInt8)} (h : Keyed w ps ks) (o : Obj) : Keyed (w.alloc o) ps ks := h.gb (gb_alloc (gb_refl _ _) _)

def zeroObj (ac : Nat) (t : List UInt8) : Obj := .cells #[.int .i64 (ac : Int), .string (B t), .int .i64 0, .int .i64 0, .int .i64 0, .int .i64 0, .int .i64 0, .int .i64 0] 178
theorem zeroObj_eq (ac : Nat) (t : List UInt8) : zeroObj ac t = cntObj ac (zeroCnt t) := by simp [zeroObj, cntObj, zeroCnt, ints]

set_option maxHeartbeats 400000 in
theorem add_any (f ag : Nat) (nm : List UInt8) (kind : Int) (lv sv : Value) (base : Nat) (ps : List Nat) (ks : List (List UInt8)) (t : List UInt8) (w : World) (hf : w.heap[f]? = some (famObj ag nm kind lv sv))
    (hown : w.ownsRow base 120 1 sv ps.length (ptrs ps)) (hks : Keyed w ps ks) (hl : ks.length ≤ 100) (hsrt : KSrt lt ks) (hfd : kfnd lt t ks = false) :
    Calls Tryz.prog 68 #[.pointer (some ⟨f, 0, none⟩), .string (B t)] w
      fun e w' => e = .returned (.tuple #[]) ∧ ∃ sv', w'.heap[f]? = some (famObj ag nm kind lv sv') ∧ w'.ownsRow (w.heap.size + 1) 120 1 sv' (ps.length + 1) (ptrs (kins ps (kplace lt t ks) w.heap.size)) ∧
        w'.heap[w.heap.size]? = some (cntObj ag (zeroCnt t)) ∧ w.grownBy w' (some f) := by
  have hfl := lt_of hf
  obtain ⟨c0, c1, c2, c3, f3⟩ := fam_cells hf
  have cA := fam_age hf
  obtain ⟨W, hW⟩ : ∃ W, W = (w.alloc (zeroObj ag t)).alloc (.cells #[.pointer (some ⟨w.heap.size, 0, none⟩)] 120) := ⟨_, rfl⟩
  have gW : w.grownBy W none := by rw [hW]; exact gb_alloc (gb_alloc (gb_refl _ _) _) _
  have hWz : W.heap.size = w.heap.size + 2 := by rw [hW]; simp
  have hWc : W.heap[w.heap.size]? = some (zeroObj ag t) := by rw [hW, Below.heap_alloc _ _ _ (by simp)]; exact alloc_new _ _ _ rfl
  have hWr : W.heap[w.heap.size + 1]? = some (.cells #[.pointer (some ⟨w.heap.size, 0, none⟩)] 120) := by rw [hW]; exact alloc_new _ _ _ (by simp)
  have HT := togC_any sv base (w.heap.size + 1) 1 w.heap.size ps ks t W (hown.kept gW (ownNe _)) (hks.gb gW) (by simp [World.cell?, hWr]) (by simp [World.cell?, hWc, zeroObj]) hl hsrt hfd
  have hWf : W.heap[f]? = some (famObj ag nm kind lv sv) := by rw [gW.block f hfl (by simp)]; exact hf
  have HW : Hid (W.heap[w.heap.size]? = some (zeroObj ag t)) := hWc
  have HTH : Hid (Calls Tryz.prog 101 #[sv, .slice (some ⟨w.heap.size + 1, 0, none⟩) 1 1, .func (.func 98) #[] #[]] W _) := HT
  rw [hW] at HTH
  have HWE : Hid (W = _) := hW
  clear hW hown hks hsrt hfd hWr hf HT hWc
  go_enter Tryz.func68, Tryz.ntmps68
  go_wp2_with fail
  refine HTH.out.mono ?_
  rintro e w1 ⟨rfl, own1, g1⟩
  rw [← HWE.out] at own1 g1 ⊢
  rw [hWz] at own1
  have d3 : w1.frozen? ⟨f, 4, none⟩ = false := gb_froz (gb_trans gW g1) hfl f3 (by simp)
  have hf1 : w1.heap[f]? = some (famObj ag nm kind lv sv) := (g1.block f (by omega) (by simp)).trans hWf
  have e3 := (fam_cells hf1).2.2.2.1
  have h1 : w1.heap[w.heap.size]? = some (zeroObj ag t) := (g1.block _ (by omega) (by simp)).trans HW.out
  have HO : Hid (w1.ownsRow (w.heap.size + 2) 120 1 (.slice (some ⟨w.heap.size + 2, 0, none⟩) (ps.length + 1) (ps.length + 1)) (ps.length + 1) (ptrs (kins ps (kplace lt t ks) w.heap.size))) := own1
  have G1 := gb_trans gW g1
  have H1 : Hid (w1.heap[w.heap.size]? = some (zeroObj ag t)) := h1
  have HF1 : Hid (w1.heap[f]? = some (famObj ag nm kind lv sv)) := hf1
  clear own1 g1 h1 hf1 hWf
  go_wp2
  go_end0
  refine ⟨rfl, _, fam_set HF1.out _, own_mono (own_set (R := f) HO.out (by omega)) (by omega), ?_, ?_⟩
  · rw [Below.heap_setCell _ _ _ _ (by show w.heap.size ≠ f; omega), H1.out, zeroObj_eq]
  · exact gb_s ⟨G1.os, G1.tape, G1.output, G1.size, fun k hk _ => G1.block k hk (by simp)⟩

end Go.Proofs.YtcfdemhokbddiaaGreatDoor
