/-
  The keeps' series, begun, act.
-/
import Derived.Test.YtcfdemhokbddiaaGreatDoorQUd

namespace Go.Proofs.YtcfdemhokbddiaaGreatDoor
open Go.RowKit Go.Shelf

attribute [local go_sem] Oper.semAt_some

theorem ser_len (i k : Nat) (hk : k < 5) : (serT i k).length ≤ 100 := by
  have h1 : (fname i).length = 4 := by unfold fname; split <;> rfl
  have h2 := itoa_len (n := (k : Int)) ⟨by omega, by omega⟩
  unfold serT
  split
  · omega
  · simp only [List.length_append, List.length_cons, List.length_nil]; omega

set_option maxRecDepth 100000 in
set_option maxHeartbeats 1000000 in
theorem series_kany (what n : Int) (i k : Nat) (w : World) (ht : Tab w) (hw : I64 what) (hn : I64 n) (hi : pickP what 3 = (i : Int)) (hk : pickP n 5 = (k : Int)) :
    Calls Tryz.prog 28 #[.int .i64 what, .int .i64 n] w fun e w' => e = .returned (.string (B (serT i k))) ∧ w.grownBy w' none := by
  have hi3 : i < 3 := by have := (pickP_bound what 3 (by omega)).2; omega
  have hk5 : k < 5 := by have := (pickP_bound n 5 (by omega)).2; omega
  have hp1 := fun w => kpick_any what 3 w hw (by omega) (by omega)
  have hp2 := fun w => kpick_any n 5 w hn (by omega) (by omega)
  rw [hi] at hp1
  rw [hk] at hp2
  obtain ⟨W, hW⟩ : ∃ W, w.alloc (.cells #[.string ⟨#[104, 105, 116, 115]⟩, .string ⟨#[108, 111, 97, 100]⟩, .string ⟨#[119, 97, 105, 116]⟩] 9) = W := ⟨_, rfl⟩
  have gW : w.grownBy W none := by rw [← hW]; exact gb_alloc (gb_refl _ _) _
  have cW : W.cell? ⟨w.heap.size, i, none⟩ = some (.string (B (fname i))) := by
    have hb := alloc_new w (.cells #[.string ⟨#[104, 105, 116, 115]⟩, .string ⟨#[108, 111, 97, 100]⟩, .string ⟨#[119, 97, 105, 116]⟩] 9) _ rfl
    rw [hW] at hb
    unfold World.cell?
    simp only [hb]
    match i, hi3 with
    | 0, _ => rfl
    | 1, _ => rfl
    | 2, _ => rfl
  have hW' : Hid (w.alloc (.cells #[.string ⟨#[104, 105, 116, 115]⟩, .string ⟨#[108, 111, 97, 100]⟩, .string ⟨#[119, 97, 105, 116]⟩] 9) = W) := hW
  have HP1 : Hid (∀ w, Calls Tryz.prog 23 #[.int .i64 what, .int .i64 3] w fun e w' => e = .returned (.int .i64 (i : Int)) ∧ w' = w) := hp1
  have HP2 : Hid (∀ w, Calls Tryz.prog 23 #[.int .i64 n, .int .i64 5] w fun e w' => e = .returned (.int .i64 (k : Int)) ∧ w' = w) := hp2
  have HIT : Hid (Calls Tryz.prog 24 #[.int .i64 (k : Int)] W _) := itoa_any (k : Int) ⟨by omega, by omega⟩ W (ht.gb gW)
  have hfl : (fname i).length = 4 := by unfold fname; split <;> rfl
  have hil := itoa_len (n := (k : Int)) ⟨by omega, by omega⟩
  have hi3' : (i : Int) < 3 := by omega
  have a1 : ∀ w, (Op.stringOp .add (B (fname i)) ⟨#[123, 116, 111, 61, 34]⟩).run Tryz.prog w = .ok (.string (B (fname i ++ [123, 116, 111, 61, 34]))) w := add_lists (fname i) [123, 116, 111, 61, 34] (by omega) (by simp)
  have a2 : ∀ w, (Op.stringOp .add (B (fname i ++ [123, 116, 111, 61, 34])) (B (Lib.itoa (k : Int)))).run Tryz.prog w = .ok (.string (B (fname i ++ [123, 116, 111, 61, 34] ++ Lib.itoa (k : Int)))) w := add_lists _ _ (by simp; omega) (by omega)
  have a3 : ∀ w, (Op.stringOp .add (B (fname i ++ [123, 116, 111, 61, 34] ++ Lib.itoa (k : Int))) ⟨#[34, 125]⟩).run Tryz.prog w = .ok (.string (B (fname i ++ [123, 116, 111, 61, 34] ++ Lib.itoa (k : Int) ++ [34, 125]))) w := add_lists (fname i ++ [123, 116, 111, 61, 34] ++ Lib.itoa (k : Int)) [34, 125] (by simp; omega) (by simp)
  have HG : Hid (w.grownBy W none) := gW
  by_cases h0 : k = 0
  · subst h0
    have HE : Hid (serT i 0 = fname i) := rfl
    clear hp1 hp2 hW gW a1 a2 a3 ht
    go_enter Tryz.func28, Tryz.ntmps28
    go_wp2_with fail
    rw [hW'.out]
    refine (HP1.out _).mono ?_
    rintro e w1 ⟨rfl, rfl⟩
    go_wp2_with fail
    refine (HP2.out _).mono ?_
    rintro e w2 ⟨rfl, rfl⟩
    go_wp2
    go_ret
    exact ⟨by rw [HE.out]; rfl, HG.out⟩
  · have hk0 : ((k : Int) == 0) = false := beq_eq_false_iff_ne.2 (by omega)
    have HE : Hid (serT i k = fname i ++ [123, 116, 111, 61, 34] ++ Lib.itoa (k : Int) ++ [34, 125]) := by show _ = _; unfold serT; rw [if_neg h0]
    generalize fname i ++ [123, 116, 111, 61, 34] ++ Lib.itoa (k : Int) ++ [34, 125] = O3 at a3 HE
    generalize fname i ++ [123, 116, 111, 61, 34] ++ Lib.itoa (k : Int) = O2 at a2 a3
    generalize fname i ++ [123, 116, 111, 61, 34] = O1 at a1 a2
    generalize Lib.itoa (k : Int) = N1 at a2 HIT
    clear hp1 hp2 hW gW ht
    go_enter Tryz.func28, Tryz.ntmps28
    go_wp2_with fail
    rw [hW'.out]
    refine (HP1.out _).mono ?_
    rintro e w1 ⟨rfl, rfl⟩
    go_wp2_with fail
    refine (HP2.out _).mono ?_
    rintro e w2 ⟨rfl, rfl⟩
    go_wp2_with fail
    refine HIT.out.mono ?_
    rintro e w3 ⟨rfl, g3⟩
    go_wp2
    go_ret
    exact ⟨by rw [HE.out]; rfl, gb_trans HG.out g3⟩

def V0 : List Fam := [⟨nmH, 1, [], []⟩, ⟨nmL, 2, [], []⟩, ⟨nmW, 3, [10, 100], []⟩]
theorem V0_kv (A : Nat → List (List UInt8)) : KV A V0 := by
  refine ⟨rfl, fun i hi => ?_, fun i hi => ?_, fun i hi => ?_, fun i c hc => ?_, fun f hf => ?_⟩
  · match i, hi with
    | 0, _ => rfl
    | 1, _ => rfl
    | 2, _ => rfl
  · match i, hi with
    | 0, _ => rfl
    | 1, _ => rfl
    | 2, _ => rfl
  · match i, hi with
    | 0, _ => rfl
    | 1, _ => rfl
    | 2, _ => rfl
  · match i, hc with
    | 0, hc => simp [V0] at hc
    | 1, hc => simp [V0] at hc
    | 2, hc => simp [V0] at hc
    | _ + 3, hc => simp [V0, default] at hc
  · simp only [V0, List.mem_cons, List.not_mem_nil, or_false] at hf
    rcases hf with rfl | rfl | rfl <;> exact List.Pairwise.nil

theorem famW : famP [] nmW 3 [10, 100] = (0, [⟨nmW, 3, [10, 100], []⟩]) := by kernel_rfl
theorem famH : famP [⟨nmW, 3, [10, 100], []⟩] nmH 1 [] = (0, [⟨nmH, 1, [], []⟩, ⟨nmW, 3, [10, 100], []⟩]) := by kernel_rfl
theorem famLo : famP [⟨nmH, 1, [], []⟩, ⟨nmW, 3, [10, 100], []⟩] nmL 2 [] = (0, V0) := by kernel_rfl

theorem intSl_nil (w : World) : IntSl w (.slice none 0 0) [] := ⟨none, 0, rfl, Nat.le_refl _, Or.inl rfl⟩

set_option maxRecDepth 100000 in
set_option maxHeartbeats 1000000 in
theorem begun_any (base : Nat) (w : World) (ht : Tab w) (hp : 0 < base) (hs : base ≤ w.heap.size) :
    Calls Tryz.prog 12 #[] w fun e w' => ∃ t, e = .returned (.pointer (some ⟨t.b, 0, none⟩)) ∧ w.grownBy w' none ∧ Bd base 0 w' t ∧ t.view = V0 ∧ t.rview = [none, none, none] ∧ ∀ b ∈ t.own, w.heap.size ≤ b := by
  have HN : Hid (Calls Tryz.prog 32 #[] w _) := cNew base w ht hp hs
  clear ht hp hs
  go_enter Tryz.func12, Tryz.ntmps12
  go_wp2_with fail
  refine HN.out.mono ?_
  rintro e w1 ⟨t, rfl, g1, hb, hv, hr, hown⟩
  obtain ⟨W, hW⟩ : ∃ W, w1.alloc (.cells #[.int .i64 10, .int .i64 100] 3) = W := ⟨_, rfl⟩
  have gW : w1.grownBy W none := by rw [← hW]; exact gb_alloc (gb_refl _ _) _
  have bW : W.heap[w1.heap.size]? = some (.cells #[.int .i64 10, .int .i64 100] 3) := by rw [← hW]; exact alloc_new _ _ _ rfl
  have hsl : IntSl W (.slice (some ⟨w1.heap.size, 0, none⟩) 2 2) [10, 100] := ⟨_, 2, rfl, Nat.le_refl _, Or.inr ⟨w1.heap.size, 0, rfl, fun j hj => by
    unfold World.cell?
    simp only [bW]
    match j, hj with
    | 0, _ => rfl
    | 1, _ => rfl⟩⟩
  have hf1 := cFamily (hb.gb gW) nmW 3 _ [10, 100] hsl (by simp)
  rw [hv, famW] at hf1
  have HF1 : Hid (Calls Tryz.prog 33 #[.pointer (some ⟨t.b, 0, none⟩), .string ⟨#[119, 97, 105, 116]⟩, .int .i64 3, .slice (some ⟨w1.heap.size, 0, none⟩) 2 2] W _) := hf1
  have HW : Hid (w1.alloc (.cells #[.int .i64 10, .int .i64 100] 3) = W) := hW
  have HG : Hid (w.grownBy W none ∧ (∀ b ∈ t.own, w.heap.size ≤ b) ∧ t.rview = [none, none, none]) := ⟨gb_trans g1 gW, hown, hr⟩
  clear hf1 hsl bW gW hW hb hv hr hown g1
  go_wp2_with fail
  rw [HW.out]
  refine HF1.out.mono ?_
  rintro e w2 ⟨t2, c2, rfl, hst2, hr2, hf2⟩
  simp only [Prod.mk.injEq] at hf2
  obtain ⟨rfl, hv2⟩ := hf2
  have hf3 := cFamily hst2.bd nmH 1 _ [] (intSl_nil w2) (by simp)
  rw [hv2, famH, hst2.b] at hf3
  have HF3 : Hid (Calls Tryz.prog 33 #[.pointer (some ⟨t.b, 0, none⟩), .string ⟨#[104, 105, 116, 115]⟩, .int .i64 1, .slice none 0 0] w2 _) := hf3
  have HS2 : Hid (Stp base 0 t t2 W w2 ∧ t2.rview = t.rview) := ⟨hst2, hr2⟩
  clear hf3 hst2 hr2 hv2
  go_wp2_with fail
  refine HF3.out.mono ?_
  rintro e w3 ⟨t3, c3, rfl, hst3, hr3, hf3⟩
  simp only [Prod.mk.injEq] at hf3
  obtain ⟨rfl, hv3⟩ := hf3
  have hf4 := cFamily hst3.bd nmL 2 _ [] (intSl_nil w3) (by simp)
  rw [hv3, famLo, hst3.b, HS2.out.1.b] at hf4
  have HF4 : Hid (Calls Tryz.prog 33 #[.pointer (some ⟨t.b, 0, none⟩), .string ⟨#[108, 111, 97, 100]⟩, .int .i64 2, .slice none 0 0] w3 _) := hf4
  have HS3 : Hid (Stp base 0 t2 t3 w2 w3 ∧ t3.rview = t2.rview) := ⟨hst3, hr3⟩
  clear hf4 hst3 hr3 hv3
  go_wp2_with fail
  refine HF4.out.mono ?_
  rintro e w4 ⟨t4, c4, rfl, hst4, hr4, hf4⟩
  simp only [Prod.mk.injEq] at hf4
  obtain ⟨rfl, hv4⟩ := hf4
  have HS4 : Hid (Stp base 0 t3 t4 w3 w4 ∧ t4.rview = t3.rview ∧ t4.view = V0) := ⟨hst4, hr4, hv4⟩
  clear hst4 hr4 hv4
  go_wp2
  go_ret
  have hst := (HS2.out.1.trans HS3.out.1).trans HS4.out.1
  refine ⟨t4, by rw [hst.b]; rfl, ?_, hst.bd, HS4.out.2.2, ?_, fun b hb => ?_⟩
  · have hk := hst.kept
    refine ⟨hk.os.trans HG.out.1.os, hk.tape.trans HG.out.1.tape, hk.output.trans HG.out.1.output, Nat.le_trans HG.out.1.size hk.size, fun j hj _ => (hk.block j (Nat.lt_of_lt_of_le hj HG.out.1.size) (fun hm => ?_)).trans (HG.out.1.block j hj (by simp))⟩
    have := HG.out.2.1 j hm; omega
  · rw [HS4.out.2.1, HS3.out.2, HS2.out.2]; exact HG.out.2.2
  · rcases hst.sub b hb with h | h
    · exact HG.out.2.1 b h
    · exact Nat.le_trans HG.out.1.size h

/-- What an act leaves. -/
def actP (V : List Fam) (wh se n : Int) : List Fam :=
  if pickP wh 8 = 7 then (drpAt V (pickP (se.tdiv 5) 3).toNat (serT (pickP (se.tdiv 5) 3).toNat (pickP se 5).toNat)).2
  else (chgAt V (pickP (se.tdiv 5) 3).toNat (serT (pickP (se.tdiv 5) 3).toNat (pickP se 5).toNat) (pickP n 1000)).2

set_option maxRecDepth 100000 in
set_option maxHeartbeats 2000000 in
theorem act_any (base m : Nat) (t : GT) (wh se n : Int) (w : World) (hb : Bd base m w t) (hm : m ≤ 4611686018427387904) {A : Nat → List (List UInt8)} (hA : ∀ i, (A i).length ≤ 6) (hin : ∀ i k, k < 5 → serT i k ∈ A i) (hkv : KV A t.view) (h1 : I64 wh) (h2 : I64 se) (h3 : I64 n) :
    Calls Tryz.prog 13 #[.pointer (some ⟨t.b, 0, none⟩), .agg #[.int .i64 wh, .int .i64 se, .int .i64 n]] w fun e w' => e = .returned (.bool true) ∧ ∃ t', Stp base (m + 1) t t' w w' ∧ t'.rview = t.rview ∧ t'.view = actP t.view wh se n ∧ KV A t'.view := by
  have hsd : I64 (se.tdiv 5) := by
    unfold I64 at h2 ⊢
    have := Int.tdiv_eq_ediv (a := se) (b := 5)
    rw [this]
    split
    · omega
    · have : Int.sign 5 = 1 := rfl
      omega
  obtain ⟨i, hi⟩ : ∃ i : Nat, pickP (se.tdiv 5) 3 = (i : Int) := ⟨(pickP (se.tdiv 5) 3).toNat, by have := (pickP_bound (se.tdiv 5) 3 (by omega)).1; omega⟩
  obtain ⟨k, hk⟩ : ∃ k : Nat, pickP se 5 = (k : Int) := ⟨(pickP se 5).toNat, by have := (pickP_bound se 5 (by omega)).1; omega⟩
  have hi3 : i < 3 := by have := (pickP_bound (se.tdiv 5) 3 (by omega)).2; omega
  have hk5 : k < 5 := by have := (pickP_bound se 5 (by omega)).2; omega
  obtain ⟨W, hW⟩ : ∃ W, w.alloc (.cells #[.int .i64 wh, .int .i64 se, .int .i64 n] 31) = W := ⟨_, rfl⟩
  have gW : w.grownBy W none := by rw [← hW]; exact gb_alloc (gb_refl _ _) _
  have bW : W.heap[w.heap.size]? = some (.cells #[.int .i64 wh, .int .i64 se, .int .i64 n] 31) := by rw [← hW]; exact alloc_new _ _ _ rfl
  have HCL : Hid (∀ w', W.grownBy w' none → w'.cell? ⟨w.heap.size, 0, none⟩ = some (.int .i64 wh) ∧ w'.cell? ⟨w.heap.size, 1, none⟩ = some (.int .i64 se) ∧ w'.cell? ⟨w.heap.size, 2, none⟩ = some (.int .i64 n)) := fun w' gw => by
    have := (gw.block _ (lt_of bW) (by simp)).trans bW
    unfold World.cell?
    simp only [this]
    exact ⟨rfl, rfl, rfl⟩
  have HCS : Hid (∀ w' : World, w'.heap[w.heap.size]? = some (.cells #[.int .i64 wh, .int .i64 se, .int .i64 n] 31) → w'.cell? ⟨w.heap.size, 0, none⟩ = some (.int .i64 wh) ∧ w'.cell? ⟨w.heap.size, 1, none⟩ = some (.int .i64 se) ∧ w'.cell? ⟨w.heap.size, 2, none⟩ = some (.int .i64 n)) := fun w' hw => by
    unfold World.cell?
    simp only [hw]
    exact ⟨rfl, rfl, rfl⟩
  have HBW : Hid (W.heap[w.heap.size]? = some (.cells #[.int .i64 wh, .int .i64 se, .int .i64 n] 31)) := bW
  have HLT : Hid (∀ b ∈ t.own, b < w.heap.size) := hb.lt
  have HGW : Hid (w.grownBy W none) := gW
  obtain ⟨x0, x1, x2⟩ := HCL.out W (gb_refl _ _)
  have HPW : Hid (∀ w, Calls Tryz.prog 23 #[.int .i64 wh, .int .i64 8] w fun e w' => e = .returned (.int .i64 (pickP wh 8)) ∧ w' = w) := fun w => kpick_any wh 8 w h1 (by omega) (by omega)
  have HSE : Hid (∀ w', W.grownBy w' none → Calls Tryz.prog 28 #[.int .i64 (se.tdiv 5), .int .i64 se] w' fun e w2 => e = .returned (.string (B (serT i k))) ∧ W.grownBy w2 none) := fun w' gw => (series_kany (se.tdiv 5) se i k w' ((hb.tab.gb gW).gb gw) hsd h2 hi hk).mono fun _ _ ⟨q1, q2⟩ => ⟨q1, gb_trans gw q2⟩
  have HPN : Hid (∀ w, Calls Tryz.prog 23 #[.int .i64 n, .int .i64 1000] w fun e w' => e = .returned (.int .i64 (pickP n 1000)) ∧ w' = w) := fun w => kpick_any n 1000 w h3 (by omega) (by omega)
  have hpn := pickP_bound n 1000 (by omega)
  obtain ⟨d1, d2, d3⟩ := drp_kv hkv i hi3 (serT i k) (serT i k) (ser_txt i k hi3 hk5)
  obtain ⟨e1, e2, e3⟩ := chg_kv hkv hA i hi3 (serT i k) (serT i k) (pickP n 1000) (ser_txt i k hi3 hk5) (hin i k hk5) (by omega) (fun _ => hpn.1)
  have HDR : Hid (∀ w', W.grownBy w' none → Calls Tryz.prog 27 #[.pointer (some ⟨t.b, 0, none⟩), .string (B (serT i k))] w' fun e w2 => ∃ t' code, e = .returned (.int .i64 code) ∧ Stp base m t t' w w2 ∧ t'.rview = t.rview ∧ (code, t'.view) = drpAt t.view i (serT i k)) := fun w' gw => by
    have := cDrop ((hb.gb gW).gb gw) (B (serT i k))
    rw [data_B, d1] at this
    exact this.mono fun _ _ ⟨t', code, q1, q2, q3⟩ => ⟨t', code, q1, .from (gb_trans gW gw) q2, q3⟩
  have HCH : Hid (∀ w', W.grownBy w' none → Calls Tryz.prog 20 #[.pointer (some ⟨t.b, 0, none⟩), .string (B (serT i k)), .int .i64 (pickP n 1000)] w' fun e w2 => ∃ t' code, e = .returned (.int .i64 code) ∧ Stp base (m + 1) t t' w' w2 ∧ t'.rview = t.rview ∧ (code, t'.view) = chgAt t.view i (serT i k) (pickP n 1000)) := fun w' gw => by
    have := cChange ((hb.gb gW).gb gw) (B (serT i k)) (pickP n 1000) hm
    rw [data_B, e1] at this
    exact this
  have HAC : Hid (actP t.view wh se n = if pickP wh 8 = 7 then (drpAt t.view i (serT i k)).2 else (chgAt t.view i (serT i k) (pickP n 1000)).2) := by
    show _ = _
    unfold actP
    rw [hi, hk]; rfl
  have HD2 : Hid ((drpAt t.view i (serT i k)).1 = 0 ∨ (drpAt t.view i (serT i k)).1 = 6) := d2
  have HD3 : Hid (KV A (drpAt t.view i (serT i k)).2) := d3
  have HE2 : Hid ((chgAt t.view i (serT i k) (pickP n 1000)).1 = 0) := e2
  have HE3 : Hid (KV A (chgAt t.view i (serT i k) (pickP n 1000)).2) := e3
  have HW : Hid (w.alloc (.cells #[.int .i64 wh, .int .i64 se, .int .i64 n] 31) = W) := hW
  clear d1 d2 d3 e1 e2 e3 hW gW bW hkv hb
  generalize drpAt t.view i (serT i k) = DD at *
  generalize chgAt t.view i (serT i k) (pickP n 1000) = CC at *
  generalize actP t.view wh se n = AA at *
  generalize serT i k = txt at *
  generalize pickP n 1000 = pn at *
  clear hi hk hi3 hk5
  obtain ⟨hsd1, hsd2⟩ := hsd
  obtain ⟨p8, hp8⟩ : ∃ p8, pickP wh 8 = p8 := ⟨_, rfl⟩
  rw [hp8] at HPW HAC
  refine (callsIn_wide (n := 3)).1 ?_
  refine callsIn_of_wp Tryz.func13 rfl trivial ?_ rfl
  simp only [Tryz.ntmps13, List.size_toArray, List.length_cons, List.length_nil, Nat.reduceAdd, Nat.reduceSub, Array.replicate_succ, Array.replicate_zero, List.push_toArray, List.append_toArray, List.nil_append, List.cons_append]
  refine wpIn_seq_k fun K0 hK0 => ?_
  have HK0 : Hid (∀ a w, _ → K0 a w) := hK0
  clear hK0
  gi_wp2
  refine HK0.out _ _ ?_
  rw [HW.out]
  clear HK0
  by_cases h7 : p8 = 7
  · subst h7
    gi_wp2
    refine ⟨trivial, (callsIn_wide.2 (HPW.out _)).mono ?_⟩
    rintro e w1 ⟨rfl, rfl⟩
    gi_wp2
    refine ⟨trivial, (callsIn_wide.2 (HSE.out _ (gb_refl _ _))).mono ?_⟩
    rintro e w2 ⟨rfl, g2⟩
    gi_wp2
    refine ⟨trivial, (callsIn_wide.2 (HDR.out _ g2)).mono ?_⟩
    rintro e w3 ⟨t3, c3, rfl, hst3, hr3, hd3⟩
    have hc3 : c3 = DD.1 := congrArg Prod.fst hd3
    have hv3 : t3.view = DD.2 := congrArg Prod.snd hd3
    have HR : Hid (∃ t', Stp base (m + 1) t t' w w3 ∧ t'.rview = t.rview ∧ t'.view = AA ∧ KV A t'.view) := ⟨t3, hst3.mono (Nat.le_succ m), hr3, by rw [HAC.out]; simpa using hv3, by rw [hv3]; exact HD3.out⟩
    have hcc := HD2.out
    rw [← hc3] at hcc
    clear hst3 hr3 hd3 hc3 hv3
    rcases hcc with rfl | rfl
    · gi_wp2
      refine bodyPost_ret (v := .bool true) (by simp [results, go_sem]) rfl ?_
      exact ⟨rfl, HR.out⟩
    · gi_wp2
      refine bodyPost_ret (v := .bool true) (by simp [results, go_sem]) rfl ?_
      exact ⟨rfl, HR.out⟩
  · have h7' : (p8 == 7) = false := beq_eq_false_iff_ne.2 h7
    gi_wp2
    refine ⟨trivial, (callsIn_wide.2 (HPW.out _)).mono ?_⟩
    rintro e w1 ⟨rfl, rfl⟩
    gi_wp2
    refine region_held (fun w' => w'.heap[w.heap.size]? = some (.cells #[.int .i64 wh, .int .i64 se, .int .i64 n] 31)) (by kernel_rfl) ?_
    have hS0 : w1.grownBy w1.drew none := gb_drew (gb_refl _ _)
    have hS : w1.drew.heap[w.heap.size]? = some (.cells #[.int .i64 wh, .int .i64 se, .int .i64 n] 31) := HBW.out
    refine wpAnyS_put (i := 0) (v := ?_) rfl rfl rfl (by kernel_rfl) (by kernel_rfl) (by kernel_rfl) (fun _ _ _ h => h) ⟨Or.inl ⟨by rfl, ?_⟩, fun _ => rfl⟩ hS ?_
    rotate_left
    · intro w' hSw
      obtain ⟨r0, r1, r2⟩ := HCS.out w' hSw
      go_simp
      try with_reducible rfl
    simp only [Act.put, List.setIfInBounds_toArray, List.set_cons_zero, List.set_cons_succ]
    refine wpAnyS_put (i := 1) (v := ?_) rfl rfl rfl (by kernel_rfl) (by kernel_rfl) (by kernel_rfl) (fun _ _ _ h => h) ⟨Or.inl ⟨by rfl, ?_⟩, fun _ => rfl⟩ hS ?_
    rotate_left
    · intro w' hSw
      obtain ⟨r0, r1, r2⟩ := HCS.out w' hSw
      go_simp
      try with_reducible rfl
    simp only [Act.put, List.setIfInBounds_toArray, List.set_cons_zero, List.set_cons_succ]
    refine wpAnyS_put (i := 2) (v := ?_) rfl rfl rfl (by kernel_rfl) (by kernel_rfl) (by kernel_rfl) (fun _ _ _ h => h) ⟨Or.inl ⟨by rfl, ?_⟩, fun _ => rfl⟩ hS ?_
    rotate_left
    · intro w' hSw
      obtain ⟨r0, r1, r2⟩ := HCS.out w' hSw
      go_simp
      try with_reducible rfl
    simp only [Act.put, List.setIfInBounds_toArray, List.set_cons_zero, List.set_cons_succ]
    refine wpAnyS_put (i := 3) (v := ?_) rfl rfl rfl (by kernel_rfl) (by kernel_rfl) (by kernel_rfl) (fun _ _ _ h => h) ⟨Or.inl ⟨by rfl, ?_⟩, fun _ => rfl⟩ hS ?_
    rotate_left
    · intro w' hSw
      obtain ⟨r0, r1, r2⟩ := HCS.out w' hSw
      go_simp
      try with_reducible rfl
    simp only [Act.put, List.setIfInBounds_toArray, List.set_cons_zero, List.set_cons_succ]
    refine wpAnyS_put (i := 4) (v := ?_) rfl rfl rfl (by kernel_rfl) (by kernel_rfl) (by kernel_rfl) (fun _ _ _ h => h) ⟨Or.inl ⟨by rfl, ?_⟩, fun _ => rfl⟩ hS ?_
    rotate_left
    · intro w' hSw
      obtain ⟨r0, r1, r2⟩ := HCS.out w' hSw
      go_simp
      try with_reducible rfl
    simp only [Act.put, List.setIfInBounds_toArray, List.set_cons_zero, List.set_cons_succ]
    refine wpAnyS_put (i := 5) (v := ?_) rfl rfl rfl (by kernel_rfl) (by kernel_rfl) (by kernel_rfl) (fun _ _ _ h => h) ⟨Or.inl ⟨by rfl, ?_⟩, fun _ => rfl⟩ hS ?_
    rotate_left
    · intro w' hSw
      obtain ⟨r0, r1, r2⟩ := HCS.out w' hSw
      go_simp
      try with_reducible rfl
    simp only [Act.put, List.setIfInBounds_toArray, List.set_cons_zero, List.set_cons_succ]
    refine wpAnyS_put (i := 7) (v := ?_) rfl rfl rfl (by kernel_rfl) (by kernel_rfl) (by kernel_rfl) (fun _ _ _ h => h) ⟨Or.inl ⟨by rfl, ?_⟩, fun _ => rfl⟩ hS ?_
    rotate_left
    · intro w' hSw
      obtain ⟨r0, r1, r2⟩ := HCS.out w' hSw
      go_simp
      try with_reducible rfl
    simp only [Act.put, List.setIfInBounds_toArray, List.set_cons_zero, List.set_cons_succ]
    refine wpAnyS_put (i := 8) (v := ?_) rfl rfl rfl (by kernel_rfl) (by kernel_rfl) (by kernel_rfl) (fun _ _ _ h => h) ⟨Or.inl ⟨by rfl, ?_⟩, fun _ => rfl⟩ hS ?_
    rotate_left
    · intro w' hSw
      obtain ⟨r0, r1, r2⟩ := HCS.out w' hSw
      go_simp
      try with_reducible rfl
    simp only [Act.put, List.setIfInBounds_toArray, List.set_cons_zero, List.set_cons_succ]
    refine wpAnyS_one (i := 6) rfl (by kernel_rfl) (fun K hK => ?_)
    rw [if_pos (by rfl)]
    gi_wp2
    refine ⟨trivial, (callsIn_wide.2 (HSE.out _ hS0)).mono ?_⟩
    rintro e w2 ⟨rfl, g2⟩
    have hS2 := (g2.block _ (lt_of HBW.out) (by simp)).trans HBW.out
    refine hK _ _ hS2 ?_
    clear hK
    refine wpAnyS_one (i := 9) rfl (by kernel_rfl) (fun K hK => ?_)
    rw [if_pos (by rfl)]
    gi_wp2
    refine ⟨trivial, (callsIn_wide.2 (HPN.out _)).mono ?_⟩
    rintro e w3 ⟨rfl, rfl⟩
    refine hK _ _ hS2 ?_
    clear hK
    refine wpAnyS_one (i := 10) rfl (by kernel_rfl) (fun K hK => ?_)
    rw [if_pos (by rfl)]
    gi_wp2
    refine ⟨trivial, (callsIn_wide.2 (HCH.out _ g2)).mono ?_⟩
    rintro e w4 ⟨t4, c4, rfl, hst4, hr4, hd4⟩
    have hc4 : c4 = CC.1 := congrArg Prod.fst hd4
    have hv4 : t4.view = CC.2 := congrArg Prod.snd hd4
    have HR : Hid (∃ t', Stp base (m + 1) t t' w w4 ∧ t'.rview = t.rview ∧ t'.view = AA ∧ KV A t'.view) := ⟨t4, .from (gb_trans HGW.out g2) hst4, hr4, by rw [HAC.out, if_neg h7]; exact hv4, by rw [hv4]; exact HE3.out⟩
    rw [HE2.out] at hc4
    subst hc4
    have hS4 : w4.heap[w.heap.size]? = some (.cells #[.int .i64 wh, .int .i64 se, .int .i64 n] 31) := (hst4.kept.block _ (lt_of hS2) (fun hm' => by have := HLT.out _ hm'; omega)).trans hS2
    refine hK _ _ hS4 ?_
    clear hst4 hr4 hd4 hv4 hK
    refine wpAnyS_put (i := 11) (v := ?_) rfl rfl rfl (by kernel_rfl) (by kernel_rfl) (by kernel_rfl) (fun _ _ _ h => h) ⟨Or.inl ⟨by rfl, ?_⟩, fun _ => rfl⟩ hS4 ?_
    rotate_left
    · intro w' hSw
      go_simp
      try with_reducible rfl
    simp only [Act.put, List.setIfInBounds_toArray, List.set_cons_zero, List.set_cons_succ]
    refine wpAnyS_done (by kernel_rfl) ?_ _
    clear hS4 hS2 hS hS0 g2
    gi_wp2
    refine bodyPost_ret (v := .bool true) (by simp [results, go_sem]) rfl ?_
    exact ⟨rfl, HR.out⟩

end Go.Proofs.YtcfdemhokbddiaaGreatDoor
