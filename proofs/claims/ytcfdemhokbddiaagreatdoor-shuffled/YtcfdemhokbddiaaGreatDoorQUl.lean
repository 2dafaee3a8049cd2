/-
  Shuffled: a change that is counted.
-/
import Derived.Test.YtcfdemhokbddiaaGreatDoorQUk

namespace Go.Proofs.YtcfdemhokbddiaaGreatDoor
open Go.RowKit Go.Shelf

attribute [local go_sem] Oper.semAt_some

/-- The change that the j-th act is counted as: its family, its series, its number. -/
def chOf (acts : List AA) (j : Nat) : Nat × List UInt8 × Int :=
  if h : j < acts.length then (2 * (pickP acts[j].1 2).toNat, serT (2 * (pickP acts[j].1 2).toNat) (pickP acts[j].2.1 5).toNat, pickP acts[j].2.2 1000) else (0, serT 0 0, 1)
def chS (V : List Fam) (c : Nat × List UInt8 × Int) : List Fam := (chgAt V c.1 c.2.1 c.2.2).2

set_option maxRecDepth 100000 in
set_option maxHeartbeats 2000000 in
theorem counted_any (base m : Nat) (t : GT) (acts : List AA) (va : Value) (j : Nat) (w : World) (hb : Bd base m w t) (hm : m ≤ 4611686018427387904) (ha : ActsAt base w va acts) (hkv : KV A5 t.view) :
    Calls Tryz.prog 25 #[.pointer (some ⟨t.b, 0, none⟩), va, .int .i64 (j : Int)] w fun e w' => e = .returned (.bool true) ∧ ∃ t', Stp base (m + 1) t t' w w' ∧ t'.rview = t.rview ∧ t'.view = chS t.view (chOf acts j) ∧ KV A5 t'.view := by
  obtain ⟨sa, sc, rfl, _⟩ := id ha
  by_cases hlt : j < acts.length
  · have hli : (j : Int) < (acts.length : Int) := by omega
    obtain ⟨b, off, rfl, hbl, ⟨q1, q2, q3⟩, c0, c1, c2⟩ := ha.get hlt
    obtain ⟨⟨wh, se, n⟩, hE⟩ : ∃ x, acts[j] = x := ⟨_, rfl⟩
    rw [hE] at c0 c1 c2 q1 q2 q3
    have HCH0 : Hid (chOf acts j = (2 * (pickP wh 2).toNat, serT (2 * (pickP wh 2).toNat) (pickP se 5).toNat, pickP n 1000)) := by
      show _ = _
      unfold chOf
      rw [dif_pos hlt, hE]
    obtain ⟨hp1, hp2⟩ := pickP_bound wh 2 (by omega)
    obtain ⟨hs1, hs2⟩ := pickP_bound se 5 (by omega)
    obtain ⟨hn1, hn2⟩ := pickP_bound n 1000 (by omega)
    have HPW : Hid (∀ w, Calls Tryz.prog 23 #[.int .i64 wh, .int .i64 2] w fun e w' => e = .returned (.int .i64 (pickP wh 2)) ∧ w' = w) := fun w => kpick_any wh 2 w q1 (by omega) (by omega)
    have HPN : Hid (∀ w, Calls Tryz.prog 23 #[.int .i64 n, .int .i64 1000] w fun e w' => e = .returned (.int .i64 (pickP n 1000)) ∧ w' = w) := fun w => kpick_any n 1000 w q3 (by omega) (by omega)
    have hse : ∀ w', w.grownBy w' none → Calls Tryz.prog 28 #[.int .i64 (2 * pickP wh 2), .int .i64 se] w' fun e w2 => e = .returned (.string (B (serT (2 * (pickP wh 2).toNat) (pickP se 5).toNat))) ∧ w.grownBy w2 none := fun w' gw =>
      (series_kany (2 * pickP wh 2) se (2 * (pickP wh 2).toNat) (pickP se 5).toNat w' (hb.tab.gb gw) ⟨by omega, by omega⟩ q2 (by
        have := pickP_nat (2 * (pickP wh 2).toNat) 3
        rw [Nat.mod_eq_of_lt (by omega)] at this
        rw [show 2 * pickP wh 2 = ((2 * (pickP wh 2).toNat : Nat) : Int) by omega]
        exact this) (by omega)).mono fun _ _ ⟨h1, h2⟩ => ⟨h1, gb_trans gw h2⟩
    have HSE : Hid (∀ w', w.grownBy w' none → Calls Tryz.prog 28 #[.int .i64 (2 * pickP wh 2), .int .i64 se] w' fun e w2 => e = .returned (.string (B (serT (2 * (pickP wh 2).toNat) (pickP se 5).toNat))) ∧ w.grownBy w2 none) := hse
    have hi3 : 2 * (pickP wh 2).toNat < 3 := by omega
    have hk5 : (pickP se 5).toNat < 5 := by omega
    obtain ⟨e1, e2, e3⟩ := chg_kv hkv A5_len _ hi3 _ _ (pickP n 1000) (ser_txt _ _ hi3 hk5) (A5_in _ _ hk5) (by omega) (fun _ => hn1)
    have HCH : Hid (∀ w', w.grownBy w' none → Calls Tryz.prog 20 #[.pointer (some ⟨t.b, 0, none⟩), .string (B (serT (2 * (pickP wh 2).toNat) (pickP se 5).toNat)), .int .i64 (pickP n 1000)] w' fun e w2 => e = .returned (.int .i64 0) ∧ ∃ t', Stp base (m + 1) t t' w w2 ∧ t'.rview = t.rview ∧ t'.view = chS t.view (chOf acts j) ∧ KV A5 t'.view) := fun w' gw => by
      have := cChange (hb.gb gw) (B (serT (2 * (pickP wh 2).toNat) (pickP se 5).toNat)) (pickP n 1000) hm
      rw [data_B, e1] at this
      refine this.mono fun _ _ ⟨t', code, h1, h2, h3, h4⟩ => ?_
      have hc : code = 0 := (congrArg Prod.fst h4).trans e2
      have hv : t'.view = (chgAt t.view (2 * (pickP wh 2).toNat) (serT (2 * (pickP wh 2).toNat) (pickP se 5).toNat) (pickP n 1000)).2 := congrArg Prod.snd h4
      rw [hc] at h1
      exact ⟨h1, t', .from gw h2, h3, by rw [hv, HCH0.out]; rfl, by rw [hv]; exact e3⟩
    have HBL : Hid (b < w.heap.size) := Nat.lt_of_lt_of_le hbl hb.size
    have hmul : 2 * pickP wh 2 ≤ 2 := by omega
    generalize serT (2 * (pickP wh 2).toNat) (pickP se 5).toNat = txt at *
    generalize pickP n 1000 = pn at *
    generalize pickP wh 2 = pw at *
    clear e1 e2 e3 hse hE ha hkv hb hi3 hk5 q1 q2 q3
    have HS0 : Hid (∀ w', w.grownBy w' none → w'.cell? ⟨b, off + j * 3, none⟩ = some (.int .i64 wh) ∧ w'.cell? ⟨b, off + j * 3 + 1, none⟩ = some (.int .i64 se) ∧ w'.cell? ⟨b, off + j * 3 + 2, none⟩ = some (.int .i64 n)) := fun w' gw => ⟨gb_cell gw c0 (by simp), gb_cell gw c1 (by simp), gb_cell gw c2 (by simp)⟩
    refine (callsIn_wide (n := 3)).1 ?_
    refine callsIn_of_wp Tryz.func25 rfl trivial ?_ rfl
    simp only [Tryz.ntmps25, List.size_toArray, List.length_cons, List.length_nil, Nat.reduceAdd, Nat.reduceSub, Array.replicate_succ, Array.replicate_zero, List.push_toArray, List.append_toArray, List.nil_append, List.cons_append]
    gi_wp2
    refine region_held (fun w' => w'.cell? ⟨b, off + j * 3, none⟩ = some (.int .i64 wh) ∧ w'.cell? ⟨b, off + j * 3 + 1, none⟩ = some (.int .i64 se) ∧ w'.cell? ⟨b, off + j * 3 + 2, none⟩ = some (.int .i64 n)) (by kernel_rfl) ?_
    have gD : w.grownBy w.drew none := gb_drew (gb_refl _ _)
    have hS := HS0.out _ gD
    clear c0 c1 c2
    refine wpAnyS_put (i := 0) (v := ?_) rfl rfl rfl (by kernel_rfl) (by kernel_rfl) (by kernel_rfl) (fun _ _ _ h => h) ⟨Or.inl ⟨by rfl, ?_⟩, fun _ => rfl⟩ hS ?_
    rotate_left
    · intro w' hSw
      obtain ⟨r0, r1, r2⟩ := hSw
      go_simp
      try with_reducible rfl
    simp only [Act.put, List.setIfInBounds_toArray, List.set_cons_zero, List.set_cons_succ]
    refine wpAnyS_put (i := 1) (v := ?_) rfl rfl rfl (by kernel_rfl) (by kernel_rfl) (by kernel_rfl) (fun _ _ _ h => h) ⟨Or.inl ⟨by rfl, ?_⟩, fun _ => rfl⟩ hS ?_
    rotate_left
    · intro w' hSw
      obtain ⟨r0, r1, r2⟩ := hSw
      go_simp
      try with_reducible rfl
    simp only [Act.put, List.setIfInBounds_toArray, List.set_cons_zero, List.set_cons_succ]
    refine wpAnyS_put (i := 2) (v := ?_) rfl rfl rfl (by kernel_rfl) (by kernel_rfl) (by kernel_rfl) (fun _ _ _ h => h) ⟨Or.inl ⟨by rfl, ?_⟩, fun _ => rfl⟩ hS ?_
    rotate_left
    · intro w' hSw
      obtain ⟨r0, r1, r2⟩ := hSw
      go_simp
      try with_reducible rfl
    simp only [Act.put, List.setIfInBounds_toArray, List.set_cons_zero, List.set_cons_succ]
    refine wpAnyS_put (i := 3) (v := ?_) rfl rfl rfl (by kernel_rfl) (by kernel_rfl) (by kernel_rfl) (fun _ _ _ h => h) ⟨Or.inl ⟨by rfl, ?_⟩, fun _ => rfl⟩ hS ?_
    rotate_left
    · intro w' hSw
      obtain ⟨r0, r1, r2⟩ := hSw
      go_simp
      try with_reducible rfl
    simp only [Act.put, List.setIfInBounds_toArray, List.set_cons_zero, List.set_cons_succ]
    refine wpAnyS_put (i := 4) (v := ?_) rfl rfl rfl (by kernel_rfl) (by kernel_rfl) (by kernel_rfl) (fun _ _ _ h => h) ⟨Or.inl ⟨by rfl, ?_⟩, fun _ => rfl⟩ hS ?_
    rotate_left
    · intro w' hSw
      obtain ⟨r0, r1, r2⟩ := hSw
      go_simp
      try with_reducible rfl
    simp only [Act.put, List.setIfInBounds_toArray, List.set_cons_zero, List.set_cons_succ]
    refine wpAnyS_put (i := 7) (v := ?_) rfl rfl rfl (by kernel_rfl) (by kernel_rfl) (by kernel_rfl) (fun _ _ _ h => h) ⟨Or.inl ⟨by rfl, ?_⟩, fun _ => rfl⟩ hS ?_
    rotate_left
    · intro w' hSw
      obtain ⟨r0, r1, r2⟩ := hSw
      go_simp
      try with_reducible rfl
    simp only [Act.put, List.setIfInBounds_toArray, List.set_cons_zero, List.set_cons_succ]
    refine wpAnyS_put (i := 8) (v := ?_) rfl rfl rfl (by kernel_rfl) (by kernel_rfl) (by kernel_rfl) (fun _ _ _ h => h) ⟨Or.inl ⟨by rfl, ?_⟩, fun _ => rfl⟩ hS ?_
    rotate_left
    · intro w' hSw
      obtain ⟨r0, r1, r2⟩ := hSw
      go_simp
      try with_reducible rfl
    simp only [Act.put, List.setIfInBounds_toArray, List.set_cons_zero, List.set_cons_succ]
    refine wpAnyS_put (i := 9) (v := ?_) rfl rfl rfl (by kernel_rfl) (by kernel_rfl) (by kernel_rfl) (fun _ _ _ h => h) ⟨Or.inl ⟨by rfl, ?_⟩, fun _ => rfl⟩ hS ?_
    rotate_left
    · intro w' hSw
      obtain ⟨r0, r1, r2⟩ := hSw
      go_simp
      try with_reducible rfl
    simp only [Act.put, List.setIfInBounds_toArray, List.set_cons_zero, List.set_cons_succ]
    refine wpAnyS_put (i := 10) (v := ?_) rfl rfl rfl (by kernel_rfl) (by kernel_rfl) (by kernel_rfl) (fun _ _ _ h => h) ⟨Or.inl ⟨by rfl, ?_⟩, fun _ => rfl⟩ hS ?_
    rotate_left
    · intro w' hSw
      obtain ⟨r0, r1, r2⟩ := hSw
      go_simp
      try with_reducible rfl
    simp only [Act.put, List.setIfInBounds_toArray, List.set_cons_zero, List.set_cons_succ]
    refine wpAnyS_put (i := 11) (v := ?_) rfl rfl rfl (by kernel_rfl) (by kernel_rfl) (by kernel_rfl) (fun _ _ _ h => h) ⟨Or.inl ⟨by rfl, ?_⟩, fun _ => rfl⟩ hS ?_
    rotate_left
    · intro w' hSw
      obtain ⟨r0, r1, r2⟩ := hSw
      go_simp
      try with_reducible rfl
    simp only [Act.put, List.setIfInBounds_toArray, List.set_cons_zero, List.set_cons_succ]
    refine wpAnyS_one (i := 5) rfl (by kernel_rfl) (fun K hK => ?_)
    rw [if_pos (by rfl)]
    gi_wp2
    refine ⟨trivial, (callsIn_wide.2 (HPW.out _)).mono ?_⟩
    rintro e w1 ⟨rfl, hw1⟩
    subst hw1
    refine hK _ _ hS ?_
    clear hK
    refine wpAnyS_put (i := 6) (v := ?_) rfl rfl rfl (by kernel_rfl) (by kernel_rfl) (by kernel_rfl) (fun _ _ _ h => h) ⟨Or.inl ⟨by rfl, ?_⟩, fun _ => rfl⟩ hS ?_
    rotate_left
    · intro w' hSw
      obtain ⟨r0, r1, r2⟩ := hSw
      go_simp
      try with_reducible rfl
    simp only [Act.put, List.setIfInBounds_toArray, List.set_cons_zero, List.set_cons_succ]
    refine wpAnyS_one (i := 12) rfl (by kernel_rfl) (fun K hK => ?_)
    rw [if_pos (by rfl)]
    gi_wp2
    refine ⟨trivial, (callsIn_wide.2 (HSE.out _ gD)).mono ?_⟩
    rintro e w2 ⟨rfl, g2⟩
    have hS2 := HS0.out _ g2
    refine hK _ _ hS2 ?_
    clear hK
    refine wpAnyS_put (i := 13) (v := ?_) rfl rfl rfl (by kernel_rfl) (by kernel_rfl) (by kernel_rfl) (fun _ _ _ h => h) ⟨Or.inl ⟨by rfl, ?_⟩, fun _ => rfl⟩ hS2 ?_
    rotate_left
    · intro w' hSw
      obtain ⟨r0, r1, r2⟩ := hSw
      go_simp
      try with_reducible rfl
    simp only [Act.put, List.setIfInBounds_toArray, List.set_cons_zero, List.set_cons_succ]
    refine wpAnyS_done (by kernel_rfl) ?_ _
    clear hS gD
    obtain ⟨c0, c1, c2⟩ := hS2
    have HG2 : Hid (w.grownBy w2 none) := g2
    clear g2
    gi_wp2
    refine ⟨trivial, (callsIn_wide.2 (HPN.out _)).mono ?_⟩
    rintro e w3 ⟨rfl, hw3⟩
    subst hw3
    gi_wp2
    refine ⟨trivial, (callsIn_wide.2 (HCH.out _ HG2.out)).mono ?_⟩
    rintro e w4 ⟨rfl, hR⟩
    have HR : Hid (∃ t', Stp base (m + 1) t t' w w4 ∧ t'.rview = t.rview ∧ t'.view = chS t.view (chOf acts j) ∧ KV A5 t'.view) := hR
    clear hR
    gi_wp2
    refine bodyPost_ret (v := .bool true) (by simp [results, go_sem]) rfl ?_
    exact ⟨rfl, HR.out⟩
  · have hli : ¬ (j : Int) < (acts.length : Int) := by omega
    have HCH0 : Hid (chOf acts j = (0, serT 0 0, 1)) := by
      show _ = _
      unfold chOf
      rw [dif_neg hlt]
    obtain ⟨e1, e2, e3⟩ := chg_kv hkv A5_len 0 (by omega) _ _ 1 (ser_txt 0 0 (by omega) (by omega)) (A5_in 0 0 (by omega)) (by omega) (fun _ => by omega)
    have HCH : Hid (Calls Tryz.prog 20 #[.pointer (some ⟨t.b, 0, none⟩), .string ⟨#[104, 105, 116, 115]⟩, .int .i64 1] w fun e w2 => e = .returned (.int .i64 0) ∧ ∃ t', Stp base (m + 1) t t' w w2 ∧ t'.rview = t.rview ∧ t'.view = chS t.view (chOf acts j) ∧ KV A5 t'.view) := by
      have := cChange hb (⟨#[104, 105, 116, 115]⟩ : ByteArray) 1 hm
      rw [show (⟨#[104, 105, 116, 115]⟩ : ByteArray).data.toList = serT 0 0 from rfl, e1] at this
      refine this.mono fun _ _ ⟨t', code, h1, h2, h3, h4⟩ => ?_
      have hc : code = 0 := (congrArg Prod.fst h4).trans e2
      have hv : t'.view = (chgAt t.view 0 (serT 0 0) 1).2 := congrArg Prod.snd h4
      rw [hc] at h1
      exact ⟨h1, t', h2, h3, by rw [hv, HCH0.out]; rfl, by rw [hv]; exact e3⟩
    clear e1 e2 e3 ha hkv hb
    go_enter Tryz.func25, Tryz.ntmps25
    go_wp2_with fail
    refine HCH.out.mono ?_
    rintro e w4 ⟨rfl, hR⟩
    have HR : Hid (∃ t', Stp base (m + 1) t t' w w4 ∧ t'.rview = t.rview ∧ t'.view = chS t.view (chOf acts j) ∧ KV A5 t'.view) := hR
    clear hR
    go_wp2
    go_ret
    exact ⟨rfl, HR.out⟩

end Go.Proofs.YtcfdemhokbddiaaGreatDoor

/-
  Shuffled: in what order is counted does not matter (plain facts).
-/
namespace Go.Proofs.YtcfdemhokbddiaaGreatDoor
open Go.RowKit

abbrev Ch := Nat × List UInt8 × Int
abbrev St := Nat → List UInt8 → Option Cnt
def cntM (i : Nat) (n : Int) (x : Cnt) : Cnt := if i = 0 then { x with num := min 1000000000 (x.num + n) } else { x with num := min 1000000000 (x.num + n), all := x.all + 1, us := upUs (kplace ltI n [10, 100]) 2 x.us }
def fS (f : St) (c : Ch) : St := fun i p => if i = c.1 ∧ p = c.2.1 then some (cntM c.1 c.2.2 ((f i p).getD (zeroCnt p))) else f i p
def f0 : St := fun _ _ => none
structure ChOk (c : Ch) : Prop where
  fam : c.1 = 0 ∨ c.1 = 2
  ser : c.2.1 ∈ A5 c.1
  num : 0 ≤ c.2.2 ∧ c.2.2 ≤ 999

theorem upUs_comm (a b : Nat) (us : List Int) : upUs a 2 (upUs b 2 us) = upUs b 2 (upUs a 2 us) := by
  unfold upUs
  apply List.ext_getElem?
  intro i
  simp only [List.getElem?_mapIdx]
  cases us[i]? with
  | none => rfl
  | some u =>
    simp only [Option.map_some, Option.some.injEq]
    split <;> split <;> simp_all
theorem cntM_comm (i : Nat) (n m : Int) (x : Cnt) (hn : 0 ≤ n) (hm : 0 ≤ m) : cntM i m (cntM i n x) = cntM i n (cntM i m x) := by
  have e : min 1000000000 (min 1000000000 (x.num + n) + m) = min 1000000000 (min 1000000000 (x.num + m) + n) := by omega
  unfold cntM
  by_cases h : i = 0
  · simp only [h, if_true, e]
  · simp only [h, if_false, e, upUs_comm (kplace ltI m [10, 100])]
theorem fS_comm (f : St) (a b : Ch) (ha : 0 ≤ a.2.2) (hb : 0 ≤ b.2.2) : fS (fS f a) b = fS (fS f b) a := by
  obtain ⟨i, p, n⟩ := a
  obtain ⟨j, q, m⟩ := b
  funext k r
  unfold fS
  simp only at *
  by_cases h1 : k = i ∧ r = p <;> by_cases h2 : k = j ∧ r = q
  · obtain ⟨rfl, rfl⟩ := h1
    obtain ⟨rfl, rfl⟩ := h2
    simp only [and_self, if_true, Option.getD_some]
    rw [cntM_comm _ _ _ _ ha hb]
  · rw [if_neg h2, if_pos h1, if_pos h1, if_neg h2]
  · rw [if_pos h2, if_neg h1, if_neg h1, if_pos h2]
  · rw [if_neg h2, if_neg h1, if_neg h1, if_neg h2]

theorem count_cntM {i : Nat} (hi : i = 0 ∨ i = 2) {n : Int} {x : Cnt} (hn : 0 ≤ n) (hx : 0 ≤ x.num) : countP (famK i) (famL i) n x = cntM i n x := by
  have e : stopP (x.num + n) = min 1000000000 (x.num + n) := by
    unfold stopP
    split
    · omega
    · rw [if_neg (by omega)]; omega
  rcases hi with rfl | rfl
  · unfold countP cntM famK
    simp [e]
  · unfold countP cntM famK famL
    simp [e]
theorem cntM_plain (i : Nat) (n : Int) (x : Cnt) : (cntM i n x).plain = x.plain := by unfold cntM; split <;> rfl
theorem cntM_num (i : Nat) (n : Int) (x : Cnt) (hn : 0 ≤ n) (hx : 0 ≤ x.num) : 0 ≤ (cntM i n x).num := by
  unfold cntM
  split
  · show 0 ≤ min 1000000000 (x.num + n); omega
  · show 0 ≤ min 1000000000 (x.num + n); omega

/-- The families V are what f says. -/
structure RelV (V : List Fam) (f : St) : Prop where
  mem : ∀ i, i < 3 → ∀ c : Cnt, c ∈ (V.getD i default).ser ↔ f i c.plain = some c
  key : ∀ i p c, f i p = some c → c.plain = p ∧ 0 ≤ c.num
theorem rel0 : RelV V0 f0 := ⟨fun i hi c => by
    match i, hi with
    | 0, _ => exact ⟨fun h => absurd (show c ∈ ([] : List Cnt) from h) (by simp), fun h => absurd (show (none : Option Cnt) = some c from h) (by simp)⟩
    | 1, _ => exact ⟨fun h => absurd (show c ∈ ([] : List Cnt) from h) (by simp), fun h => absurd (show (none : Option Cnt) = some c from h) (by simp)⟩
    | 2, _ => exact ⟨fun h => absurd (show c ∈ ([] : List Cnt) from h) (by simp), fun h => absurd (show (none : Option Cnt) = some c from h) (by simp)⟩, fun i p c h => by cases h⟩

theorem mem_set {l : List Cnt} (hs : KSrt lt (l.map Cnt.plain)) {k : Nat} (hk : k < l.length) {p : List UInt8} (hp : l[k].plain = p) (y c : Cnt) : c ∈ l.set k y ↔ c = y ∨ (c ∈ l ∧ c.plain ≠ p) := by
  have huniq : ∀ j (hj : j < l.length), l[j].plain = p → j = k := fun j hj e => by
    rcases Nat.lt_trichotomy j k with h | h | h
    · have := hs.get lt j k (by simpa using hk) h
      simp only [List.getElem_map] at this
      rw [e, hp, lt_irrefl] at this; cases this
    · exact h
    · have := hs.get lt k j (by simpa using hj) h
      simp only [List.getElem_map] at this
      rw [e, hp, lt_irrefl] at this; cases this
  constructor
  · intro h
    obtain ⟨j, hj, e⟩ := List.mem_iff_getElem.1 h
    rw [List.length_set] at hj
    rw [List.getElem_set] at e
    split at e
    · exact Or.inl e.symm
    · rename_i hne
      refine Or.inr ⟨by rw [← e]; exact List.getElem_mem hj, fun hq => hne (huniq j hj (by rw [e]; exact hq)).symm⟩
  · rintro (rfl | ⟨h, hne⟩)
    · exact List.mem_iff_getElem.2 ⟨k, by simpa using hk, by simp⟩
    · obtain ⟨j, hj, e⟩ := List.mem_iff_getElem.1 h
      have hjk : k ≠ j := fun q => hne (by subst q; rw [← e]; exact hp)
      exact List.mem_iff_getElem.2 ⟨j, by simpa using hj, by rw [List.getElem_set, if_neg hjk]; exact e⟩
theorem mem_kins {l : List Cnt} {k : Nat} (y c : Cnt) : c ∈ kins l k y ↔ c = y ∨ c ∈ l := by
  unfold kins
  constructor
  · intro h
    rcases List.mem_append.1 h with h | h
    · exact Or.inr (List.mem_of_mem_take h)
    · rcases List.mem_cons.1 h with h | h
      · exact Or.inl h
      · exact Or.inr (List.mem_of_mem_drop h)
  · rintro (rfl | h)
    · simp
    · rw [← List.take_append_drop k l] at h
      rcases List.mem_append.1 h with h | h
      · exact List.mem_append_left _ h
      · exact List.mem_append_right _ (List.mem_cons_of_mem _ h)

theorem rel_put {V : List Fam} {f : St} (hV : KV A5 V) (h : RelV V f) {c : Ch} (hc : ChOk c) {s : List Cnt} (hs : ∀ x : Cnt, x ∈ s ↔ x = cntM c.1 c.2.2 ((f c.1 c.2.1).getD (zeroCnt c.2.1)) ∨ (x ∈ (V.getD c.1 default).ser ∧ x.plain ≠ c.2.1)) :
    RelV (V.set c.1 { V.getD c.1 default with ser := s }) (fS f c) := by
  obtain ⟨i, p, n⟩ := c
  simp only at *
  have hi3 : i < 3 := by rcases hc.fam with e | e <;> simp only at e <;> omega
  have hil : i < V.length := by rw [hV.len]; exact hi3
  have hy : (cntM i n ((f i p).getD (zeroCnt p))).plain = p ∧ 0 ≤ (cntM i n ((f i p).getD (zeroCnt p))).num := by
    rw [cntM_plain]
    cases hf : f i p with
    | none => exact ⟨rfl, cntM_num _ _ _ hc.num.1 (by simp [zeroCnt])⟩
    | some x => exact ⟨(h.key i p x hf).1, cntM_num _ _ _ hc.num.1 (h.key i p x hf).2⟩
  refine ⟨fun j hj x => ?_, fun j q x hx => ?_⟩
  · rw [List.getD_eq_getElem?_getD, List.getElem?_set]
    by_cases e : i = j
    · subst e
      rw [if_pos rfl, if_pos hil]
      show x ∈ s ↔ _
      rw [hs]
      unfold fS
      by_cases hx : x.plain = p
      · rw [if_pos ⟨rfl, hx⟩, hx]
        simp only [ne_eq, not_true_eq_false, and_false, or_false, Option.some.injEq]
        exact ⟨fun e => e.symm, fun e => e.symm⟩
      · rw [if_neg (fun e => hx e.2), ← h.mem i hi3]
        simp only [ne_eq, hx, not_false_eq_true, and_true]
        exact ⟨fun e => e.elim (fun e => absurd (by rw [e]; exact hy.1) hx) id, Or.inr⟩
    · rw [if_neg e, ← List.getD_eq_getElem?_getD, h.mem j hj]
      unfold fS
      rw [if_neg (fun q => e q.1.symm)]
  · unfold fS at hx
    split at hx
    · rename_i e
      simp only at e
      obtain ⟨rfl, rfl⟩ := e
      simp only [Option.some.injEq] at hx
      rw [← hx]
      exact hy
    · exact h.key j q x hx

theorem rel_step {V : List Fam} {f : St} (hV : KV A5 V) (h : RelV V f) {c : Ch} (hc : ChOk c) : KV A5 (chS V c) ∧ RelV (chS V c) (fS f c) := by
  have hi3 : c.1 < 3 := by rcases hc.fam with e | e <;> omega
  have hil : c.1 < V.length := by rw [hV.len]; exact hi3
  have hgd : V.getD c.1 default = V[c.1] := by rw [List.getD_eq_getElem?_getD, List.getElem?_eq_getElem hil]; rfl
  have hsi : KSrt lt ((V.getD c.1 default).ser.map Cnt.plain) := by rw [hgd]; exact hV.srt _ (List.getElem_mem hil)
  have hk := hV.kind c.1 hi3
  have hl := hV.ls c.1 hi3
  have htk : ¬ takesB (V.getD c.1 default).kind c.2.2 = false := takes_in (by have := hc.num; omega) (fun _ => hc.num.1)
  have htot := hV.total A5_len
  obtain ⟨k0, hk5, hpk⟩ := List.mem_map.1 hc.ser
  rw [List.mem_range] at hk5
  have hkv := (chg_kv hV A5_len c.1 hi3 (serT c.1 k0) c.2.1 c.2.2 (by rw [← hpk]; exact ser_txt c.1 k0 hi3 hk5) hc.ser (by have := hc.num; omega) (fun _ => hc.num.1)).2.2
  refine ⟨hkv, ?_⟩
  unfold chS
  by_cases hf : kfnd lt c.2.1 ((V.getD c.1 default).ser.map Cnt.plain) = true
  · rw [chg_old htk hf]
    obtain ⟨hkl, hkg⟩ := kfnd_get c.2.1 _ hf
    have hkl' : kplace lt c.2.1 ((V.getD c.1 default).ser.map Cnt.plain) < (V.getD c.1 default).ser.length := by simpa using hkl
    generalize kplace lt c.2.1 ((V.getD c.1 default).ser.map Cnt.plain) = k at *
    have hp : ((V.getD c.1 default).ser[k]).plain = c.2.1 := by simpa using hkg
    have hfk : f c.1 c.2.1 = some ((V.getD c.1 default).ser[k]) := by
      have := (h.mem c.1 hi3 _).1 (List.getElem_mem hkl')
      rw [hp] at this
      exact this
    refine rel_put hV h hc fun x => ?_
    rw [mem_set hsi hkl' hp, hfk, Option.getD_some, hk, hl, List.getD_eq_getElem?_getD, List.getElem?_eq_getElem hkl', Option.getD_some, count_cntM hc.fam hc.num.1 (h.key _ _ _ hfk).2]
  · have hf' : kfnd lt c.2.1 ((V.getD c.1 default).ser.map Cnt.plain) = false := by simpa using hf
    rw [chg_new htk hf' (by omega)]
    have hno : ∀ x ∈ (V.getD c.1 default).ser, x.plain ≠ c.2.1 := fun x hx e => hf ((kfnd_iff ltB _ _ hsi).2 (by rw [← e]; exact List.mem_map_of_mem hx))
    have hfn : f c.1 c.2.1 = none := by
      cases hq : f c.1 c.2.1 with
      | none => rfl
      | some x =>
        have hx := (h.key _ _ _ hq).1
        exact absurd hx (hno x ((h.mem c.1 hi3 x).2 (by rw [hx]; exact hq)))
    refine rel_put hV h hc fun x => ?_
    rw [mem_kins, hfn, Option.getD_none, hk, hl, count_cntM hc.fam hc.num.1 (by simp [zeroCnt])]
    exact ⟨fun e => e.imp id fun hx => ⟨hx, hno x hx⟩, fun e => e.imp id fun hx => hx.1⟩

theorem srt_ext : ∀ {l m : List Cnt}, KSrt lt (l.map Cnt.plain) → KSrt lt (m.map Cnt.plain) → (∀ x, x ∈ l ↔ x ∈ m) → l = m
  | [], [], _, _, _ => rfl
  | [], y :: m, _, _, h => by have := (h y).2 (by simp); cases this
  | x :: l, [], _, _, h => by have := (h x).1 (by simp); cases this
  | x :: l, y :: m, hl, hm, h => by
    unfold KSrt at hl hm
    rw [List.map_cons, List.pairwise_cons] at hl hm
    have hxy : x = y := by
      rcases List.mem_cons.1 ((h x).1 (by simp)) with e | h1
      · exact e
      · rcases List.mem_cons.1 ((h y).2 (by simp)) with e | h2
        · exact e.symm
        · have a1 := hm.1 _ (List.mem_map_of_mem h1)
          have a2 := hl.1 _ (List.mem_map_of_mem h2)
          rw [lt_asymm _ _ a1] at a2; cases a2
    subst hxy
    have hnx : ∀ z ∈ l, z ≠ x := fun z hz e => by
      have := hl.1 _ (List.mem_map_of_mem hz)
      rw [e, lt_irrefl] at this; cases this
    have hnm : ∀ z ∈ m, z ≠ x := fun z hz e => by
      have := hm.1 _ (List.mem_map_of_mem hz)
      rw [e, lt_irrefl] at this; cases this
    rw [srt_ext hl.2 hm.2 fun z => ⟨fun hz => by
      rcases List.mem_cons.1 ((h z).1 (List.mem_cons_of_mem _ hz)) with e | q
      · exact absurd e (hnx z hz)
      · exact q, fun hz => by
      rcases List.mem_cons.1 ((h z).2 (List.mem_cons_of_mem _ hz)) with e | q
      · exact absurd e (hnm z hz)
      · exact q⟩]

theorem fam_ext {a b : Fam} (h1 : a.nm = b.nm) (h2 : a.kind = b.kind) (h3 : a.ls = b.ls) (h4 : a.ser = b.ser) : a = b := by
  cases a; cases b; simp_all
theorem rel_uniq {V V' : List Fam} {f : St} (hV : KV A5 V) (hV' : KV A5 V') (h : RelV V f) (h' : RelV V' f) : V = V' := by
  have hl := hV.len
  have hl' := hV'.len
  apply List.ext_getElem (by omega)
  intro i hi hi'
  have hi3 : i < 3 := by omega
  have g : V.getD i default = V[i] := by rw [List.getD_eq_getElem?_getD, List.getElem?_eq_getElem hi]; rfl
  have g' : V'.getD i default = V'[i] := by rw [List.getD_eq_getElem?_getD, List.getElem?_eq_getElem hi']; rfl
  rw [← g, ← g']
  refine fam_ext ((hV.nm i hi3).trans (hV'.nm i hi3).symm) ((hV.kind i hi3).trans (hV'.kind i hi3).symm) ((hV.ls i hi3).trans (hV'.ls i hi3).symm) (srt_ext ?_ ?_ fun x => (h.mem i hi3 x).trans (h'.mem i hi3 x).symm)
  · rw [g]; exact hV.srt _ (List.getElem_mem hi)
  · rw [g']; exact hV'.srt _ (List.getElem_mem hi')

def vS (g : Nat → Ch) (i : Nat) : List Fam := ((List.range i).map g).foldl chS V0
theorem vS_succ (g : Nat → Ch) (i : Nat) : vS g (i + 1) = chS (vS g i) (g i) := by
  unfold vS
  rw [List.range_succ, List.map_append, List.foldl_append]; rfl
theorem vS_rel (g : Nat → Ch) (hg : ∀ q, ChOk (g q)) : ∀ i, KV A5 (vS g i) ∧ RelV (vS g i) (((List.range i).map g).foldl fS f0)
  | 0 => ⟨V0_kv A5, rel0⟩
  | i + 1 => by
    obtain ⟨h1, h2⟩ := vS_rel g hg i
    rw [vS_succ, List.range_succ, List.map_append, List.foldl_append]
    exact rel_step h1 h2 (hg i)
theorem vS_perm (g : Nat → Ch) (hg : ∀ q, ChOk (g q)) (σ : Nat → Nat) (n : Nat) (hσ : ((List.range n).map σ).Perm (List.range n)) : vS (fun q => g (σ q)) n = vS g n := by
  obtain ⟨h1, h2⟩ := vS_rel (fun q => g (σ q)) (fun q => hg _) n
  obtain ⟨h3, h4⟩ := vS_rel g hg n
  have hp : ((List.range n).map fun q => g (σ q)).Perm ((List.range n).map g) := by
    have := hσ.map g
    rw [List.map_map] at this
    exact this
  have e := hp.foldl_eq' (f := fS) (fun x hx y hy z => by
    obtain ⟨a, _, rfl⟩ := List.mem_map.1 hx
    obtain ⟨b, _, rfl⟩ := List.mem_map.1 hy
    exact fS_comm z _ _ (hg _).num.1 (hg _).num.1) f0
  rw [e] at h2
  exact rel_uniq h1 h3 h2 h4

theorem rot_perm (n f : Nat) (hf : f ≤ n) : ((List.range n).map fun i => (i + f) % n).Perm (List.range n) := by
  have e : ((List.range n).map fun i => (i + f) % n) = (List.range n).drop f ++ (List.range n).take f := by
    apply List.ext_getElem
    · simp; omega
    · intro i h1 h2
      have hi : i < n := by simpa using h1
      rw [List.getElem_map, List.getElem_range, List.getElem_append]
      split
      · rename_i h
        have h' : i < n - f := by simpa using h
        rw [List.getElem_drop, List.getElem_range, Nat.mod_eq_of_lt (by omega)]; omega
      · rename_i h
        have h' : ¬ i < n - f := by simpa using h
        rw [List.getElem_take, List.getElem_range]
        have : i + f = (i - (n - f)) + n := by omega
        rw [this, Nat.add_mod_right, Nat.mod_eq_of_lt (by omega)]
        simp
  rw [e]
  refine List.perm_append_comm.trans ?_
  rw [List.take_append_drop]
theorem back_perm (n : Nat) : ((List.range n).map fun i => n - 1 - i).Perm (List.range n) := by
  have e : ((List.range n).map fun i => n - 1 - i) = (List.range n).reverse := by
    apply List.ext_getElem
    · simp
    · intro i h1 h2
      have hi : i < n := by simpa using h1
      rw [List.getElem_map, List.getElem_range, List.getElem_reverse, List.getElem_range]
      simp
  rw [e]
  exact List.reverse_perm _
/-- The order in which the second board is told. -/
def ordr (n f : Nat) (back : Bool) (i : Nat) : Nat := if back then n - 1 - (i + f) % n else (i + f) % n
theorem ordr_perm (n f : Nat) (back : Bool) (hf : f ≤ n) : ((List.range n).map (ordr n f back)).Perm (List.range n) := by
  cases back with
  | false => exact rot_perm n f hf
  | true =>
    have e : (List.range n).map (ordr n f true) = ((List.range n).map fun i => (i + f) % n).map fun i => n - 1 - i := by rw [List.map_map]; rfl
    rw [e]
    exact ((rot_perm n f hf).map _).trans (back_perm n)

theorem chOf_ok (acts : List AA) (j : Nat) : ChOk (chOf acts j) := by
  unfold chOf
  split
  · rename_i h
    obtain ⟨hp1, hp2⟩ := pickP_bound acts[j].1 2 (by omega)
    obtain ⟨hs1, hs2⟩ := pickP_bound acts[j].2.1 5 (by omega)
    obtain ⟨hn1, hn2⟩ := pickP_bound acts[j].2.2 1000 (by omega)
    exact ⟨by show 2 * _ = 0 ∨ 2 * _ = 2; omega, A5_in _ _ (by omega), ⟨hn1, by show pickP _ _ ≤ 999; omega⟩⟩
  · exact ⟨Or.inl rfl, A5_in 0 0 (by omega), by show (0 : Int) ≤ 1 ∧ (1 : Int) ≤ 999; omega⟩
/-- Behind the last change there are four lines. -/
theorem four_lines {V : List Fam} {f : St} (hV : KV A5 V) (h : RelV V f) : 4 ≤ (linesP (chS V (0, serT 0 0, 1))).length := by
  obtain ⟨h1, h2⟩ := rel_step hV h (c := (0, serT 0 0, 1)) ⟨Or.inl rfl, A5_in 0 0 (by omega), by show (0 : Int) ≤ 1 ∧ (1 : Int) ≤ 999; omega⟩
  have hx : ∃ x, x ∈ ((chS V (0, serT 0 0, 1)).getD 0 default).ser := by
    obtain ⟨y, hy⟩ : ∃ y, fS f (0, serT 0 0, 1) 0 (serT 0 0) = some y := ⟨_, by unfold fS; rw [if_pos ⟨rfl, rfl⟩]⟩
    exact ⟨y, (h2.mem 0 (by omega) y).2 (by rw [(h2.key _ _ _ hy).1]; exact hy)⟩
  obtain ⟨x, hx⟩ := hx
  have hlen := List.length_pos_of_mem hx
  rw [lines_len]
  obtain ⟨a, b, c, e⟩ := h1.each
  rw [e] at hlen ⊢
  have hlen' : 0 < a.ser.length := hlen
  have : 1 ≤ a.ser.length * (a.ls.length + 1) := Nat.mul_pos hlen' (by omega)
  simp only [List.map_cons, List.map_nil, List.sum_cons, List.sum_nil]
  omega

end Go.Proofs.YtcfdemhokbddiaaGreatDoor
