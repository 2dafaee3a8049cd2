/-
  The document's own lines: sum, upto, decimal.
-/
import Derived.Test.YtcfdemhokbddiaaGreatDoorQKr
import Derived.Test.YtcfdemhokbddiaaGreatDoorQNb
import Derived.Test.YtcfdemhokbddiaaGreatDoorQLa
import Derived.Deep.RegionHeld3

namespace Go.Proofs.YtcfdemhokbddiaaGreatDoor
open Go.RowKit

def sumTo (ns : List Int) (k : Nat) : Int := (ns.take k).foldl (fun s n => stopP (s + n)) 0
def uptoTo (ns : List Int) (lim : Int) (k : Nat) : Nat := ((ns.take k).filter fun n => decide (n ≤ lim)).length
theorem take_snoc' {α : Type} (ns : List α) (k : Nat) (h : k < ns.length) : ns.take (k + 1) = ns.take k ++ [ns[k]] := by
  rw [List.take_add_one, List.getElem?_eq_getElem h]; rfl
theorem sumTo_succ (ns : List Int) (k : Nat) (h : k < ns.length) : sumTo ns (k + 1) = stopP (sumTo ns k + ns[k]) := by
  unfold sumTo
  rw [take_snoc' ns k h, List.foldl_append]; rfl
theorem uptoTo_succ (ns : List Int) (lim : Int) (k : Nat) (h : k < ns.length) : uptoTo ns lim (k + 1) = uptoTo ns lim k + (if ns[k] ≤ lim then 1 else 0) := by
  unfold uptoTo
  rw [take_snoc' ns k h, List.filter_append, List.length_append]
  by_cases hl : ns[k] ≤ lim <;> simp [hl]
theorem uptoTo_le (ns : List Int) (lim : Int) (k : Nat) : uptoTo ns lim k ≤ k := by
  unfold uptoTo
  have h1 := List.length_filter_le (fun n => decide (n ≤ lim)) (ns.take k)
  have h2 := List.length_take_le k ns
  omega

set_option maxRecDepth 100000 in
set_option maxHeartbeats 1000000 in
theorem sum_any (v : Value) (ns : List Int) (w : World) (hv : IntSl w v ns) (hl : ns.length ≤ 4398046511104) (hb : ∀ n ∈ ns, -1000000000 ≤ n ∧ n ≤ 1000000000) :
    Calls Tryz.prog 152 #[v] w fun e w' => e = .returned (.int .i64 (sumTo ns ns.length)) ∧ ∃ q, w' = w.drewN q := by
  obtain ⟨sa, ca, rfl, _, hxs⟩ := hv
  go_enter Tryz.func152, Tryz.ntmps152
  go_wp2_with fail
  go_loopw [3, 4] (fun s i wr => ∃ (k : Nat) (S : Int), s = .int .i64 S ∧ i = .int .i64 (k : Int) ∧ k ≤ ns.length ∧ -1000000000 ≤ S ∧ S ≤ 1000000000 ∧ Hid (S = sumTo ns k) ∧ ∃ q, wr = w.drewN q) (fun _ i _ => ns.length - (intOf i).toNat)
  case atStart => exact ⟨0, 0, rfl, rfl, Nat.zero_le _, by omega, by omega, rfl, 0, rfl⟩
  case round =>
    obtain ⟨k, S, rfl, rfl, hk, hS1, hS2, HS, q, rfl⟩ := hrel
    by_cases hlt : k < ns.length
    · rcases hxs with h | ⟨b, o, rfl, h1⟩
      · rw [h] at hlt; simp at hlt
      have c1 : w.cell? ⟨b, o + k, none⟩ = some (.int .i64 ns[k]) := h1 k hlt
      have hn := hb ns[k] (List.getElem_mem hlt)
      have HT : Hid (stopP (S + ns[k]) = sumTo ns (k + 1)) := by show _ = _; rw [sumTo_succ ns k hlt, HS.out]
      obtain ⟨x, hx⟩ : ∃ x, ns[k] = x := ⟨_, rfl⟩
      rw [hx] at c1 hn HT
      have hlti : (k : Int) < (ns.length : Int) := by omega
      clear hx h1 hb
      by_cases h9 : S + x > 1000000000
      · have HV : Hid (1000000000 = stopP (S + x)) := by show _ = _; unfold stopP; rw [if_pos h9]
        have h9' : (1000000000 : Int) < S + x := h9
        go_wp2_with fail
        try go_quiet (fail)
        go_wp2
        go_roundw
        case rel => exact ⟨k + 1, 1000000000, rfl, by go_num, by omega, by omega, by omega, HV.out.trans HT.out, _, rfl⟩
        case measure => simp [intOf]; omega
      · by_cases h8 : S + x < -1000000000
        · have HV : Hid (-1000000000 = stopP (S + x)) := by show _ = _; unfold stopP; rw [if_neg h9, if_pos h8]
          have h9' : ¬ (1000000000 : Int) < S + x := h9
          go_wp2_with fail
          try go_quiet (fail)
          go_wp2
          go_roundw
          case rel => exact ⟨k + 1, -1000000000, rfl, by go_num, by omega, by omega, by omega, HV.out.trans HT.out, _, rfl⟩
          case measure => simp [intOf]; omega
        · have HV : Hid (S + x = stopP (S + x)) := by show _ = _; unfold stopP; rw [if_neg h9, if_neg h8]
          have h9' : ¬ (1000000000 : Int) < S + x := h9
          go_wp2_with fail
          try go_quiet (fail)
          go_wp2
          go_roundw
          case rel => exact ⟨k + 1, S + x, by go_num, by go_num, by omega, by omega, by omega, HV.out.trans HT.out, _, rfl⟩
          case measure => simp [intOf]; omega
    · have hk' : k = ns.length := by omega
      have hlti : ¬ (k : Int) < (ns.length : Int) := by omega
      have HE : Hid (S = sumTo ns ns.length) := by rw [← hk']; exact HS.out
      go_wp2
      go_ret
      exact ⟨by rw [HE.out]; rfl, _, rfl⟩

set_option maxRecDepth 100000 in
set_option maxHeartbeats 1000000 in
theorem upto_any (v : Value) (ns : List Int) (lim : Int) (w : World) (hv : IntSl w v ns) (hl : ns.length ≤ 4398046511104) :
    Calls Tryz.prog 153 #[v, .int .i64 lim] w fun e w' => e = .returned (.int .i64 (uptoTo ns lim ns.length : Int)) ∧ ∃ q, w' = w.drewN q := by
  obtain ⟨sa, ca, rfl, _, hxs⟩ := hv
  go_enter Tryz.func153, Tryz.ntmps153
  go_wp2_with fail
  go_loopw [5, 6] (fun s i wr => ∃ (k S : Nat), s = .int .i64 (S : Int) ∧ i = .int .i64 (k : Int) ∧ k ≤ ns.length ∧ S ≤ k ∧ Hid (S = uptoTo ns lim k) ∧ ∃ q, wr = w.drewN q) (fun _ i _ => ns.length - (intOf i).toNat)
  case atStart => exact ⟨0, 0, rfl, rfl, Nat.zero_le _, Nat.zero_le _, rfl, 0, rfl⟩
  case round =>
    obtain ⟨k, S, rfl, rfl, hk, hSk, HS, q, rfl⟩ := hrel
    by_cases hlt : k < ns.length
    · rcases hxs with h | ⟨b, o, rfl, h1⟩
      · rw [h] at hlt; simp at hlt
      have c1 : w.cell? ⟨b, o + k, none⟩ = some (.int .i64 ns[k]) := h1 k hlt
      have HT : Hid (uptoTo ns lim (k + 1) = S + (if ns[k] ≤ lim then 1 else 0)) := by show _ = _; rw [uptoTo_succ ns lim k hlt, HS.out]
      obtain ⟨x, hx⟩ : ∃ x, ns[k] = x := ⟨_, rfl⟩
      rw [hx] at c1 HT
      have hlti : (k : Int) < (ns.length : Int) := by omega
      clear hx h1
      by_cases h9 : x ≤ lim
      · rw [if_pos h9] at HT
        go_wp2_with fail
        try go_quiet (fail)
        go_wp2
        go_roundw
        case rel => exact ⟨k + 1, S + 1, by go_num, by go_num, by omega, by omega, HT.out.symm, _, rfl⟩
        case measure => simp [intOf]; omega
      · rw [if_neg h9] at HT
        go_wp2_with fail
        try go_quiet (fail)
        go_wp2
        go_roundw
        case rel => exact ⟨k + 1, S, rfl, by go_num, by omega, by omega, HT.out.symm, _, rfl⟩
        case measure => simp [intOf]; omega
    · have hk' : k = ns.length := by omega
      have hlti : ¬ (k : Int) < (ns.length : Int) := by omega
      have HE : Hid (S = uptoTo ns lim ns.length) := by rw [← hk']; exact HS.out
      go_wp2
      go_ret
      exact ⟨by rw [HE.out]; rfl, _, rfl⟩

theorem digit_cut (n : Nat) (h : n < 10) : (⟨#[48, 49, 50, 51, 52, 53, 54, 55, 56, 57]⟩ : ByteArray).extract n (n + 1) = B [UInt8.ofNat (48 + n)] := by
  match n, h with
  | 0, _ => rfl
  | 1, _ => rfl
  | 2, _ => rfl
  | 3, _ => rfl
  | 4, _ => rfl
  | 5, _ => rfl
  | 6, _ => rfl
  | 7, _ => rfl
  | 8, _ => rfl
  | 9, _ => rfl

set_option maxRecDepth 100000 in
set_option maxHeartbeats 1000000 in
theorem dec_small (n : Nat) (w : World) (h : n < 10) :
    Calls Tryz.prog 151 #[.int .i64 (n : Int)] w fun e w' => e = .returned (.string (B (Lib.decDigits n))) ∧ w' = w := by
  have e1 : Lib.decDigits n = [UInt8.ofNat (48 + n)] := by rw [Lib.decDigits, dif_pos h]
  rw [e1, ← digit_cut n h]
  have h1 : (n : Int) % 10 = (n : Int) := by omega
  have h2 : (n : Int) < 10 := by omega
  go_enter Tryz.func151, Tryz.ntmps151
  go_wp2
  go_ret
  exact ⟨rfl, rfl⟩

end Go.Proofs.YtcfdemhokbddiaaGreatDoor

/-
  The document's own lines: decimal.
-/
namespace Go.Proofs.YtcfdemhokbddiaaGreatDoor
open Go.RowKit

theorem dec_len (n : Nat) (h : n ≤ 9223372036854775807) : (Lib.decDigits n).length ≤ 21 := by
  have := Lib.itoa_length_le (n : Int) (by omega) (by omega)
  rwa [Lib.itoa_nonneg] at this

set_option maxRecDepth 100000 in
set_option maxHeartbeats 1000000 in
theorem dec_big (n : Nat) (w : World) (h : ¬ n < 10) (hn : n ≤ 9223372036854775807)
    (ih : Calls Tryz.prog 151 #[.int .i64 ((n / 10 : Nat) : Int)] w fun e w' => e = .returned (.string (B (Lib.decDigits (n / 10)))) ∧ w' = w) :
    Calls Tryz.prog 151 #[.int .i64 (n : Int)] w fun e w' => e = .returned (.string (B (Lib.decDigits n))) ∧ w' = w := by
  have e1 : Lib.decDigits n = Lib.decDigits (n / 10) ++ [UInt8.ofNat (48 + n % 10)] := by rw [Lib.decDigits, dif_neg h]
  have a1 : ∀ w, (Op.stringOp .add (B (Lib.decDigits (n / 10))) ((⟨#[48, 49, 50, 51, 52, 53, 54, 55, 56, 57]⟩ : ByteArray).extract (n % 10) (n % 10 + 1))).run Tryz.prog w = .ok (.string (B (Lib.decDigits n))) w := by
    rw [digit_cut (n % 10) (by omega), e1]
    exact add_lists _ _ (by have := dec_len (n / 10) (by omega); omega) (by simp)
  generalize B (Lib.decDigits n) = D at a1
  generalize B (Lib.decDigits (n / 10)) = D1 at a1 ih
  obtain ⟨r, hr⟩ : ∃ r, n % 10 = r := ⟨_, rfl⟩
  obtain ⟨q, hq⟩ : ∃ q, n / 10 = q := ⟨_, rfl⟩
  have h1 : (n : Int) % 10 = (r : Int) := by omega
  have h3 : (n : Int) / 10 = (q : Int) := by omega
  have h2 : ¬ (n : Int) < 10 := by omega
  have h4 : ¬ (n : Int) < 0 := by omega
  have hr9 : (r : Int) < 10 := by omega
  rw [hr] at a1
  rw [hq] at ih
  have HIH : Hid (Calls Tryz.prog 151 #[.int .i64 (q : Int)] w _) := ih
  clear ih e1
  go_enter Tryz.func151, Tryz.ntmps151
  go_wp2_with fail
  refine HIH.out.mono ?_
  rintro e w1 ⟨rfl, rfl⟩
  go_wp2
  go_ret
  exact ⟨rfl, rfl⟩

theorem dec_nat (n : Nat) : ∀ (w : World), n ≤ 9223372036854775807 → Calls Tryz.prog 151 #[.int .i64 (n : Int)] w fun e w' => e = .returned (.string (B (Lib.decDigits n))) ∧ w' = w := by
  induction n using Nat.strongRecOn with
  | _ n ih =>
    intro w hn
    by_cases h : n < 10
    · exact dec_small n w h
    · exact dec_big n w h hn (ih (n / 10) (by omega) w (by omega))

set_option maxRecDepth 100000 in
set_option maxHeartbeats 1000000 in
theorem decimal_any (n : Int) (w : World) (h : -9223372036854775807 ≤ n ∧ n ≤ 9223372036854775807) :
    Calls Tryz.prog 151 #[.int .i64 n] w fun e w' => e = .returned (.string (B (Lib.itoa n))) ∧ w' = w := by
  by_cases h0 : n < 0
  · obtain ⟨u, hu⟩ : ∃ u : Nat, n = -(u : Int) := ⟨n.natAbs, by omega⟩
    subst hu
    have a1 : ∀ w, (Op.stringOp .add ⟨#[45]⟩ (B (Lib.decDigits u))).run Tryz.prog w = .ok (.string (B (Lib.itoa (-(u : Int))))) w := by
      rw [Lib.itoa_neg u (by omega)]
      exact add_lists [45] _ (by simp) (by have := dec_len u (by omega); omega)
    have HD : Hid (Calls Tryz.prog 151 #[.int .i64 (u : Int)] w _) := dec_nat u w (by omega)
    generalize B (Lib.itoa (-(u : Int))) = D at a1
    have hu1 : (0 : Int) < (u : Int) := by omega
    have hu2 : (u : Int) ≤ 9223372036854775807 := by omega
    go_enter Tryz.func151, Tryz.ntmps151
    go_wp2_with fail
    refine HD.out.mono ?_
    rintro e w1 ⟨rfl, rfl⟩
    go_wp2
    go_ret
    exact ⟨rfl, rfl⟩
  · obtain ⟨u, hu⟩ : ∃ u : Nat, n = (u : Int) := ⟨n.toNat, by omega⟩
    subst hu
    rw [Lib.itoa_nonneg]
    exact dec_nat u w (by omega)

end Go.Proofs.YtcfdemhokbddiaaGreatDoor

/-
  The document's own lines: least.
-/
namespace Go.Proofs.YtcfdemhokbddiaaGreatDoor
open Go.RowKit

/-- The least of the first k texts that is above another one. -/
def LeastTo (L : List (List UInt8)) (a : List UInt8) (k : Nat) (b : List UInt8) : Prop :=
  (b = [] ∧ ∀ j (h : j < L.length), j < k → lt a L[j] = false) ∨
  (b ≠ [] ∧ (∃ j, ∃ h : j < L.length, j < k ∧ b = L[j]) ∧ lt a b = true ∧ ∀ i (h : i < L.length), i < k → lt a L[i] = true → lt L[i] b = false)
theorem lt_ne {a x : List UInt8} (h : lt a x = true) : x ≠ [] := fun e => by
  subst e
  cases a <;> simp [lt, Op.bytesLess] at h
theorem LeastTo.zero (L : List (List UInt8)) (a : List UInt8) : LeastTo L a 0 [] := Or.inl ⟨rfl, fun j _ h => by omega⟩
theorem LeastTo.skip {L : List (List UInt8)} {a : List UInt8} {k : Nat} {b : List UInt8} (h : LeastTo L a k b) (hk : k < L.length) (hl : lt a L[k] = false) : LeastTo L a (k + 1) b := by
  rcases h with ⟨h1, h2⟩ | ⟨h0, ⟨j, hj, hjk, e⟩, h2, h3⟩
  · refine Or.inl ⟨h1, fun j hj hjk => ?_⟩
    by_cases e : j = k
    · subst e; exact hl
    · exact h2 j hj (by omega)
  · refine Or.inr ⟨h0, ⟨j, hj, by omega, e⟩, h2, fun i hi hik hlt => ?_⟩
    by_cases e : i = k
    · subst e; rw [hl] at hlt; cases hlt
    · exact h3 i hi (by omega) hlt
theorem LeastTo.hold {L : List (List UInt8)} {a : List UInt8} {k : Nat} {b : List UInt8} (h : LeastTo L a k b) (hb : b ≠ []) (hk : k < L.length) (hl : lt L[k] b = false) : LeastTo L a (k + 1) b := by
  rcases h with ⟨h1, _⟩ | ⟨h0, ⟨j, hj, hjk, e⟩, h2, h3⟩
  · exact absurd h1 hb
  · refine Or.inr ⟨h0, ⟨j, hj, by omega, e⟩, h2, fun i hi hik hlt => ?_⟩
    by_cases e : i = k
    · subst e; exact hl
    · exact h3 i hi (by omega) hlt
theorem LeastTo.take {L : List (List UInt8)} {a : List UInt8} {k : Nat} {b : List UInt8} (h : LeastTo L a k b) (hk : k < L.length) (hl : lt a L[k] = true) (hb : b = [] ∨ lt L[k] b = true) : LeastTo L a (k + 1) L[k] := by
  refine Or.inr ⟨lt_ne hl, ⟨k, hk, by omega, rfl⟩, hl, fun i hi hik hlt => ?_⟩
  by_cases e : i = k
  · subst e; exact lt_irrefl _
  · rcases h with ⟨_, h2⟩ | ⟨h0, _, h2, h3⟩
    · rw [h2 i hi (by omega)] at hlt; cases hlt
    · rcases hb with hb | hb
      · exact absurd hb h0
      · cases hq : lt L[i] L[k] with
        | false => rfl
        | true =>
          have := h3 i hi (by omega) hlt
          rw [lt_trans _ _ _ hq hb] at this; cases this

set_option maxRecDepth 100000 in
set_option maxHeartbeats 1000000 in
theorem least_any (v : Value) (L : List (List UInt8)) (a : List UInt8) (w : World) (hv : StrSl w v L) (hl : L.length ≤ 100000) :
    Calls Tryz.prog 119 #[v, .string (B a)] w fun e w' => ∃ b, e = .returned (.string (B b)) ∧ LeastTo L a L.length b ∧ ∃ q, w' = w.drewN q := by
  obtain ⟨sa, ca, rfl, _, _, hxs⟩ := hv
  go_enter Tryz.func119, Tryz.ntmps119
  go_wp2_with fail
  go_loopw [5, 6] (fun s i wr => ∃ (k : Nat) (b : List UInt8), s = .string (B b) ∧ i = .int .i64 (k : Int) ∧ k ≤ L.length ∧ Hid (LeastTo L a k b) ∧ ∃ q, wr = w.drewN q) (fun _ i _ => L.length - (intOf i).toNat)
  case atStart => exact ⟨0, [], rfl, rfl, Nat.zero_le _, LeastTo.zero _ _, 0, rfl⟩
  case round =>
    obtain ⟨k, b, rfl, rfl, hk, HS, q, rfl⟩ := hrel
    by_cases hlt : k < L.length
    · rcases hxs with h | ⟨g, o, rfl, _, h1⟩
      · rw [h] at hlt; simp at hlt
      have c1 : w.cell? ⟨g, o + k, none⟩ = some (.string (B L[k])) := h1 k hlt
      have hgt := gtr_eq L[k] a
      have HSK := fun hh => HS.out.skip (k := k) hlt hh
      have HHO := fun h0 hh => HS.out.hold (k := k) h0 hlt hh
      have HTA := fun hh hb => HS.out.take (k := k) hlt hh hb
      obtain ⟨x, hx⟩ : ∃ x, L[k] = x := ⟨_, rfl⟩
      rw [hx] at c1 hgt HSK HHO HTA
      have hlti : (k : Int) < (L.length : Int) := by omega
      clear hx h1
      cases hax : lt a x with
      | false =>
        rw [hax] at hgt
        have HN : Hid (LeastTo L a (k + 1) b) := HSK hax
        clear HSK HHO HTA hax
        go_wp2_with fail
        try go_quiet (fail)
        go_wp2
        go_roundw
        case rel => exact ⟨k + 1, b, rfl, by go_num, by omega, HN.out, _, rfl⟩
        case measure => simp [intOf]; omega
      | true =>
        rw [hax] at hgt
        by_cases hb0 : b = []
        · have HN : Hid (LeastTo L a (k + 1) x) := HTA hax (Or.inl hb0)
          have hemp : (B b).toList.isEmpty = true := by rw [toList_B, hb0]; rfl
          have hE : (B b).toList = [] := by rw [toList_B, hb0]
          clear HSK HHO HTA hax hb0
          go_wp2_with fail
          try go_quiet (fail)
          go_wp2_with fail
          try go_quiet (fail)
          go_wp2
          go_roundw
          case rel => exact ⟨k + 1, x, rfl, by go_num, by omega, HN.out, _, rfl⟩
          case measure => simp [intOf]; omega
        · have hemp : (B b).toList.isEmpty = false := by rw [toList_B]; cases b with | nil => exact absurd rfl hb0 | cons _ _ => rfl
          have hE : ¬ (B b).toList = [] := by rw [toList_B]; exact hb0
          cases hxb : lt x b with
          | false =>
            have hless : Op.bytesLess (B x).toList (B b).toList = false := by rw [toList_B, toList_B]; exact hxb
            have HN : Hid (LeastTo L a (k + 1) b) := HHO hb0 hxb
            clear HSK HHO HTA hax hxb
            go_wp2_with fail
            try go_quiet (fail)
            go_wp2
            go_roundw
            case rel => exact ⟨k + 1, b, rfl, by go_num, by omega, HN.out, _, rfl⟩
            case measure => simp [intOf]; omega
          | true =>
            have hless : Op.bytesLess (B x).toList (B b).toList = true := by rw [toList_B, toList_B]; exact hxb
            have HN : Hid (LeastTo L a (k + 1) x) := HTA hax (Or.inr hxb)
            clear HSK HHO HTA hax hxb
            go_wp2_with fail
            try go_quiet (fail)
            go_wp2_with fail
            try go_quiet (fail)
            go_wp2
            go_roundw
            case rel => exact ⟨k + 1, x, rfl, by go_num, by omega, HN.out, _, rfl⟩
            case measure => simp [intOf]; omega
    · have hk' : k = L.length := by omega
      have hlti : ¬ (k : Int) < (L.length : Int) := by omega
      have HE : Hid (LeastTo L a L.length b) := by rw [← hk']; exact HS.out
      go_wp2
      go_ret
      exact ⟨b, rfl, HE.out, _, rfl⟩

end Go.Proofs.YtcfdemhokbddiaaGreatDoor

/-
  The document's own lines of one series: Counter and Gauge.
-/
namespace Go.Proofs.YtcfdemhokbddiaaGreatDoor
open Go.RowKit

theorem one_row {w : World} {s : Nat} {x : List UInt8} (h : w.heap[s]? = some (.cells #[.string (B x)] 9)) : w.ownsRow s 9 1 (.slice (some ⟨s, 0, none⟩) 1 1) 1 (strs [x]) :=
  ⟨rfl, Or.inr ⟨s, 1, #[.string (B x)], rfl, Nat.le_refl _, h, Nat.le_refl _, by unfold maxLen; omega, rfl, rfl⟩⟩
theorem own_low {w : World} {a b : Nat} {e : TypeId} {k : Nat} {v : Value} {n : Nat} {xs : List Value} (h : w.ownsRow a e k v n xs) (hb : b ≤ a) : w.ownsRow b e k v n xs := by
  obtain ⟨h1, h2⟩ := h
  refine ⟨h1, ?_⟩
  rcases h2 with h2 | ⟨g, cap, cur, e1, e2, h3⟩
  · exact Or.inl h2
  · exact Or.inr ⟨g, cap, cur, e1, Nat.le_trans hb e2, h3⟩
theorem sumTo_in (ns : List Int) (k : Nat) (h : k ≤ ns.length) : -1000000000 ≤ sumTo ns k ∧ sumTo ns k ≤ 1000000000 := by
  induction k with
  | zero => simp [sumTo]
  | succ k ih =>
    rw [sumTo_succ ns k (by omega)]
    unfold stopP
    split
    · omega
    · split <;> omega

set_option maxRecDepth 100000 in
set_option maxHeartbeats 2000000 in
theorem lines_count (nm fam text : List UInt8) (lv nv : Value) (ns : List Int) (w : World) (hl : ∃ a n c, lv = .slice a n c) (hn : IntSl w nv ns) (hns : ns.length ≤ 4398046511104) (hb : ∀ n ∈ ns, -1000000000 ≤ n ∧ n ≤ 1000000000) (ht : text.length ≤ 400) :
    Calls Tryz.prog 120 #[.agg #[.string (B nm), .int .i64 1, lv], .agg #[.string (B fam), .string (B text), nv]] w fun e w' => ∃ v, e = .returned v ∧ w'.ownsRow w.heap.size 9 1 v 1 (strs [text ++ [32] ++ Lib.itoa (sumTo ns ns.length)]) ∧ w.grownBy w' none := by
  obtain ⟨la, ln, lc, rfl⟩ := hl
  have hnI := hn
  obtain ⟨na, nc, rfl⟩ := intSl_shape hn
  obtain ⟨W, hW⟩ : ∃ W, W = (w.alloc (.cells #[.string (B nm), .int .i64 1, .slice la ln lc] 154)).alloc (.cells #[.string (B fam), .string (B text), .slice na ns.length nc] 156) := ⟨_, rfl⟩
  have gW : w.grownBy W none := by rw [hW]; exact gb_alloc (gb_alloc (gb_refl _ _) _) _
  have b0 : W.heap[w.heap.size]? = some (.cells #[.string (B nm), .int .i64 1, .slice la ln lc] 154) := by
    rw [hW, Below.heap_alloc _ _ _ (by simp)]; exact alloc_new _ _ _ rfl
  have b1 : W.heap[w.heap.size + 1]? = some (.cells #[.string (B fam), .string (B text), .slice na ns.length nc] 156) := by rw [hW]; exact alloc_new _ _ _ (by simp)
  have f1 : W.cell? ⟨w.heap.size, 1, none⟩ = some (.int .i64 1) := by unfold World.cell?; simp only [b0]; rfl
  have s1 : W.cell? ⟨w.heap.size + 1, 1, none⟩ = some (.string (B text)) := by unfold World.cell?; simp only [b1]; rfl
  have s2 : W.cell? ⟨w.heap.size + 1, 2, none⟩ = some (.slice na ns.length nc) := by unfold World.cell?; simp only [b1]; rfl
  have HSU : Hid (∀ V, W.grownBy V none → Calls Tryz.prog 152 #[.slice na ns.length nc] V fun e w' => e = .returned (.int .i64 (sumTo ns ns.length)) ∧ ∃ q, w' = V.drewN q) := fun V gV => sum_any _ ns V ((hnI.gb gW).gb gV) hns hb
  have hsi := sumTo_in ns ns.length (Nat.le_refl _)
  have hil : (Lib.itoa (sumTo ns ns.length)).length ≤ 21 := itoa_len (by omega)
  obtain ⟨S, hS⟩ : ∃ S, sumTo ns ns.length = S := ⟨_, rfl⟩
  rw [hS] at HSU hsi hil ⊢
  have HDE : Hid (∀ V, Calls Tryz.prog 151 #[.int .i64 S] V fun e w' => e = .returned (.string (B (Lib.itoa S))) ∧ w' = V) := fun V => decimal_any S V (by omega)
  have a1 : ∀ w, (Op.stringOp .add (B text) ⟨#[32]⟩).run Tryz.prog w = .ok (.string (B (text ++ [32]))) w := add_lists text [32] (by omega) (by simp)
  have a2 : ∀ w, (Op.stringOp .add (B (text ++ [32])) (B (Lib.itoa S))).run Tryz.prog w = .ok (.string (B (text ++ [32] ++ Lib.itoa S))) w := add_lists _ _ (by simp; omega) (by omega)
  generalize text ++ [32] ++ Lib.itoa S = X at a2 ⊢
  generalize B (text ++ [32]) = T1 at a1 a2
  have HWE : Hid ((w.alloc (.cells #[.string (B nm), .int .i64 1, .slice la ln lc] 154)).alloc (.cells #[.string (B fam), .string (B text), .slice na ns.length nc] 156) = W) := hW.symm
  have HGW : Hid (w.grownBy W none) := gW
  clear hW gW b0 b1 hnI hn hb hsi hil hS
  go_enter Tryz.func120, Tryz.ntmps120
  go_upto_region 1 with fail
  rw [HWE.out]
  go_wp2_with fail
  refine (HSU.out _ (by first | exact gb_refl _ _ | exact gb_drewN _ _ _)).mono ?_
  rintro e w1 ⟨rfl, q, rfl⟩
  go_wp2_with fail
  refine (HDE.out _).mono ?_
  rintro e w2 ⟨rfl, rfl⟩
  go_wp2
  go_ret
  exact ⟨_, rfl, own_low (one_row (alloc_new _ _ _ rfl)) (by have := HGW.out.size; simp; omega), gb_alloc (gb_trans HGW.out (gb_drewN _ _ _)) _⟩

set_option maxRecDepth 100000 in
set_option maxHeartbeats 2000000 in
theorem lines_gauge (nm fam text : List UInt8) (lv nv : Value) (ns : List Int) (w : World) (hl : ∃ a n c, lv = .slice a n c) (hn : IntSl w nv ns) (hns : ns.length ≤ 4398046511104) (hb : ∀ n ∈ ns, -1000000000 ≤ n ∧ n ≤ 1000000000) (ht : text.length ≤ 400) (x : Int) (hx : ns.getLast? = some x) :
    Calls Tryz.prog 120 #[.agg #[.string (B nm), .int .i64 2, lv], .agg #[.string (B fam), .string (B text), nv]] w fun e w' => ∃ v, e = .returned v ∧ w'.ownsRow w.heap.size 9 1 v 1 (strs [text ++ [32] ++ Lib.itoa x]) ∧ w.grownBy w' none := by
  obtain ⟨la, ln, lc, rfl⟩ := hl
  have hnI := hn
  obtain ⟨na, nc, rfl⟩ := intSl_shape hn
  obtain ⟨W, hW⟩ : ∃ W, W = (w.alloc (.cells #[.string (B nm), .int .i64 2, .slice la ln lc] 154)).alloc (.cells #[.string (B fam), .string (B text), .slice na ns.length nc] 156) := ⟨_, rfl⟩
  have gW : w.grownBy W none := by rw [hW]; exact gb_alloc (gb_alloc (gb_refl _ _) _) _
  have b0 : W.heap[w.heap.size]? = some (.cells #[.string (B nm), .int .i64 2, .slice la ln lc] 154) := by
    rw [hW, Below.heap_alloc _ _ _ (by simp)]; exact alloc_new _ _ _ rfl
  have b1 : W.heap[w.heap.size + 1]? = some (.cells #[.string (B fam), .string (B text), .slice na ns.length nc] 156) := by rw [hW]; exact alloc_new _ _ _ (by simp)
  have f1 : W.cell? ⟨w.heap.size, 1, none⟩ = some (.int .i64 2) := by unfold World.cell?; simp only [b0]; rfl
  have s1 : W.cell? ⟨w.heap.size + 1, 1, none⟩ = some (.string (B text)) := by unfold World.cell?; simp only [b1]; rfl
  have s2 : W.cell? ⟨w.heap.size + 1, 2, none⟩ = some (.slice na ns.length nc) := by unfold World.cell?; simp only [b1]; rfl
  have HSU : Hid (∀ V, W.grownBy V none → Calls Tryz.prog 152 #[.slice na ns.length nc] V fun e w' => e = .returned (.int .i64 (sumTo ns ns.length)) ∧ ∃ q, w' = V.drewN q) := fun V gV => sum_any _ ns V ((hnI.gb gW).gb gV) hns hb
  have hsi := sumTo_in ns ns.length (Nat.le_refl _)
  have hxm : x ∈ ns := List.mem_of_getLast? hx
  have hxb := hb x hxm
  have hil : (Lib.itoa x).length ≤ 21 := itoa_len (by omega)
  have hpos : 0 < ns.length := List.length_pos_of_mem hxm
  obtain ⟨k, hk⟩ : ∃ k, ns.length = k + 1 := ⟨ns.length - 1, by omega⟩
  obtain ⟨nb, no, rfl, hxa⟩ : ∃ nb no, na = some ⟨nb, no, none⟩ ∧ IntsAt w nb no ns := by
    obtain ⟨sa', cap', e, _, h | ⟨b, o, h1, h2⟩⟩ := hnI
    · rw [h] at hpos; simp at hpos
    · simp only [Value.slice.injEq] at e
      exact ⟨b, o, e.1.trans h1, h2⟩
  have cl : w.cell? ⟨nb, no + k, none⟩ = some (.int .i64 x) := by
    rw [hxa k (by omega)]
    rw [List.getLast?_eq_getElem?, show ns.length - 1 = k by omega, List.getElem?_eq_getElem (by omega)] at hx
    simp only [Option.some.injEq] at hx
    rw [hx]
  have cl' := gb_cell gW cl (by simp)
  obtain ⟨S, hS⟩ : ∃ S, sumTo ns ns.length = S := ⟨_, rfl⟩
  rw [hS] at HSU hsi
  have HDE : Hid (∀ V, Calls Tryz.prog 151 #[.int .i64 S] V fun e w' => e = .returned (.string (B (Lib.itoa S))) ∧ w' = V) := fun V => decimal_any S V (by omega)
  have HDX : Hid (∀ V, Calls Tryz.prog 151 #[.int .i64 x] V fun e w' => e = .returned (.string (B (Lib.itoa x))) ∧ w' = V) := fun V => decimal_any x V (by omega)
  have a1 : ∀ w, (Op.stringOp .add (B text) ⟨#[32]⟩).run Tryz.prog w = .ok (.string (B (text ++ [32]))) w := add_lists text [32] (by omega) (by simp)
  have a2 : ∀ w, (Op.stringOp .add (B (text ++ [32])) (B (Lib.itoa x))).run Tryz.prog w = .ok (.string (B (text ++ [32] ++ Lib.itoa x))) w := add_lists _ _ (by simp; omega) (by omega)
  generalize text ++ [32] ++ Lib.itoa x = X at a2 ⊢
  generalize B (text ++ [32]) = T1 at a1 a2
  have HWE : Hid ((w.alloc (.cells #[.string (B nm), .int .i64 2, .slice la ln lc] 154)).alloc (.cells #[.string (B fam), .string (B text), .slice (some ⟨nb, no, none⟩) ns.length nc] 156) = W) := hW.symm
  have HGW : Hid (w.grownBy W none) := gW
  have hki : (ns.length : Int) - 1 = (k : Int) := by omega
  have hkl : (k : Int) < (ns.length : Int) := by omega
  clear hW gW b0 b1 hnI hn hb hsi hil hS hxa cl hx hxm hxb hk
  go_enter Tryz.func120, Tryz.ntmps120
  go_upto_region 1 with fail
  rw [HWE.out]
  go_wp2_with fail
  refine (HSU.out _ (by first | exact gb_refl _ _ | exact gb_drewN _ _ _)).mono ?_
  rintro e w1 ⟨rfl, q, rfl⟩
  go_wp2_with fail
  refine (HDE.out _).mono ?_
  rintro e w2 ⟨rfl, rfl⟩
  go_wp2_with fail
  refine (HDX.out _).mono ?_
  rintro e w3 ⟨rfl, rfl⟩
  go_wp2
  go_ret
  exact ⟨_, rfl, own_low (one_row (alloc_new _ _ _ rfl)) (by have := HGW.out.size; simp; omega), gb_alloc (gb_trans HGW.out (gb_drewN _ _ _)) _⟩

end Go.Proofs.YtcfdemhokbddiaaGreatDoor

/-
  The document's own lines of one series: Histogram.
-/
namespace Go.Proofs.YtcfdemhokbddiaaGreatDoor
open Go.RowKit

def hLine (text : List UInt8) (ns : List Int) (l : Int) : List UInt8 := uptoP text l (uptoTo ns l ns.length : Int)
def hLast (text : List UInt8) (ns : List Int) : List UInt8 := text ++ [32, 97, 108, 108, 32] ++ Lib.itoa (ns.length : Int) ++ [32, 115, 117, 109, 32] ++ Lib.itoa (sumTo ns ns.length)
/-- Where the loop has come. -/
structure HI (W : World) (text : List UInt8) (ns ls : List Int) (k : Nat) (v : Value) (wr : World) : Prop where
  row : wr.ownsRow W.heap.size 9 1 v k (strs ((ls.take k).map (hLine text ns)))
  gb : W.grownBy wr none
theorem strs_snoc (a : List (List UInt8)) (x : List UInt8) : strs a ++ strs [x] = strs (a ++ [x]) := by simp [strs]
theorem gb_row1 {a b c : World} {e : TypeId} {v : Value} {n : Nat} {xs : List Value} (h : a.grownBy b none) (hr : b.ownsRow a.heap.size e 1 v n xs) (k : b.grownBy c v.ownBlock) : a.grownBy c none :=
  gb_new_opt h k fun g hg => by
    rcases hr.2 with ⟨h1, _⟩ | ⟨g', cap, cur, h1, h2, _⟩
    · rw [h1] at hg; simp [Value.ownBlock] at hg
    · rw [h1] at hg; simp [Value.ownBlock] at hg; omega

set_option maxRecDepth 100000 in
set_option maxHeartbeats 4000000 in
theorem lines_hist (nm fam text : List UInt8) (lv nv : Value) (ls ns : List Int) (w : World) (hl : IntSl w lv ls) (hn : IntSl w nv ns) (hls : ls.length ≤ 4) (hlb : ∀ l ∈ ls, -1000000000 ≤ l ∧ l ≤ 1000000000) (hns : ns.length ≤ 4398046511104) (hb : ∀ n ∈ ns, -1000000000 ≤ n ∧ n ≤ 1000000000) (ht : text.length ≤ 400) :
    Calls Tryz.prog 120 #[.agg #[.string (B nm), .int .i64 3, lv], .agg #[.string (B fam), .string (B text), nv]] w fun e w' => ∃ v, e = .returned v ∧ w'.ownsRow w.heap.size 9 1 v (ls.length + 1) (strs (ls.map (hLine text ns) ++ [hLast text ns])) ∧ w.grownBy w' none := by
  have hlI := hl
  have hnI := hn
  obtain ⟨la, lc, rfl⟩ := intSl_shape hl
  obtain ⟨na, nc, rfl⟩ := intSl_shape hn
  obtain ⟨W, hW⟩ : ∃ W, W = (w.alloc (.cells #[.string (B nm), .int .i64 3, .slice la ls.length lc] 154)).alloc (.cells #[.string (B fam), .string (B text), .slice na ns.length nc] 156) := ⟨_, rfl⟩
  have gW : w.grownBy W none := by rw [hW]; exact gb_alloc (gb_alloc (gb_refl _ _) _) _
  have b0 : W.heap[w.heap.size]? = some (.cells #[.string (B nm), .int .i64 3, .slice la ls.length lc] 154) := by
    rw [hW, Below.heap_alloc _ _ _ (by simp)]; exact alloc_new _ _ _ rfl
  have b1 : W.heap[w.heap.size + 1]? = some (.cells #[.string (B fam), .string (B text), .slice na ns.length nc] 156) := by rw [hW]; exact alloc_new _ _ _ (by simp)
  have f1 : W.cell? ⟨w.heap.size, 1, none⟩ = some (.int .i64 3) := by unfold World.cell?; simp only [b0]; rfl
  have f2 : W.cell? ⟨w.heap.size, 2, none⟩ = some (.slice la ls.length lc) := by unfold World.cell?; simp only [b0]; rfl
  have s1 : W.cell? ⟨w.heap.size + 1, 1, none⟩ = some (.string (B text)) := by unfold World.cell?; simp only [b1]; rfl
  have s2 : W.cell? ⟨w.heap.size + 1, 2, none⟩ = some (.slice na ns.length nc) := by unfold World.cell?; simp only [b1]; rfl
  have HSU : Hid (∀ V, W.grownBy V none → Calls Tryz.prog 152 #[.slice na ns.length nc] V fun e w' => e = .returned (.int .i64 (sumTo ns ns.length)) ∧ ∃ q, w' = V.drewN q) := fun V gV => sum_any _ ns V ((hnI.gb gW).gb gV) hns hb
  have HUP : Hid (∀ V l, W.grownBy V none → Calls Tryz.prog 153 #[.slice na ns.length nc, .int .i64 l] V fun e w' => e = .returned (.int .i64 (uptoTo ns l ns.length : Int)) ∧ ∃ q, w' = V.drewN q) := fun V l gV => upto_any _ ns l V ((hnI.gb gW).gb gV) hns
  have HDC : Hid (∀ V n, -9223372036854775807 ≤ n ∧ n ≤ 9223372036854775807 → Calls Tryz.prog 151 #[.int .i64 n] V fun e w' => e = .returned (.string (B (Lib.itoa n))) ∧ w' = V) := fun V n h => decimal_any n V h
  have hsi := sumTo_in ns ns.length (Nat.le_refl _)
  have hil : (Lib.itoa (sumTo ns ns.length)).length ≤ 21 := itoa_len (by omega)
  have hjl : (Lib.itoa (ns.length : Int)).length ≤ 21 := itoa_len (by omega)
  have HLL : Hid (∀ k (h : k < ls.length), ∃ lb lo, la = some ⟨lb, lo, none⟩ ∧ W.cell? ⟨lb, lo + k, none⟩ = some (.int .i64 ls[k])) := fun k h => by
    obtain ⟨sa', cap', e, _, h0 | ⟨b, o, h1, h2⟩⟩ := hlI
    · rw [h0] at h; simp at h
    · simp only [Value.slice.injEq] at e
      exact ⟨b, o, e.1.trans h1, gb_cell gW (h2 k h) (by simp)⟩
  have HLB : Hid (∀ l ∈ ls, -1000000000 ≤ l ∧ l ≤ 1000000000) := hlb
  have c1 : ∀ w, (Op.stringOp .add (B text) ⟨#[32, 97, 108, 108, 32]⟩).run Tryz.prog w = .ok (.string (B (text ++ [32, 97, 108, 108, 32]))) w := add_lists text [32, 97, 108, 108, 32] (by omega) (by simp)
  have c2 : ∀ w, (Op.stringOp .add (B (text ++ [32, 97, 108, 108, 32])) (B (Lib.itoa (ns.length : Int)))).run Tryz.prog w = .ok (.string (B (text ++ [32, 97, 108, 108, 32] ++ Lib.itoa (ns.length : Int)))) w := add_lists _ _ (by simp; omega) (by omega)
  have c3 : ∀ w, (Op.stringOp .add (B (text ++ [32, 97, 108, 108, 32] ++ Lib.itoa (ns.length : Int))) ⟨#[32, 115, 117, 109, 32]⟩).run Tryz.prog w = .ok (.string (B (text ++ [32, 97, 108, 108, 32] ++ Lib.itoa (ns.length : Int) ++ [32, 115, 117, 109, 32]))) w := add_lists _ [32, 115, 117, 109, 32] (by simp; omega) (by simp)
  have c4 : ∀ w, (Op.stringOp .add (B (text ++ [32, 97, 108, 108, 32] ++ Lib.itoa (ns.length : Int) ++ [32, 115, 117, 109, 32])) (B (Lib.itoa (sumTo ns ns.length)))).run Tryz.prog w = .ok (.string (B (hLast text ns))) w := add_lists _ _ (by simp; omega) (by omega)
  have HX : Hid (text.length ≤ 400) := ht
  obtain ⟨XL, hXL⟩ : ∃ XL, hLast text ns = XL := ⟨_, rfl⟩
  rw [hXL] at c4 ⊢
  generalize B (text ++ [32, 97, 108, 108, 32] ++ Lib.itoa (ns.length : Int) ++ [32, 115, 117, 109, 32]) = T3 at c3 c4
  generalize B (text ++ [32, 97, 108, 108, 32] ++ Lib.itoa (ns.length : Int)) = T2 at c2 c3
  generalize B (text ++ [32, 97, 108, 108, 32]) = T1 at c1 c2
  obtain ⟨S, hS⟩ : ∃ S, sumTo ns ns.length = S := ⟨_, rfl⟩
  rw [hS] at HSU hsi c4
  have HWE : Hid ((w.alloc (.cells #[.string (B nm), .int .i64 3, .slice la ls.length lc] 154)).alloc (.cells #[.string (B fam), .string (B text), .slice na ns.length nc] 156) = W) := hW.symm
  have HGW : Hid (w.grownBy W none) := gW
  clear hW gW b0 b1 hnI hn hlI hl hb hil hjl hS hXL hlb ht
  go_enter Tryz.func120, Tryz.ntmps120
  go_upto_region 1 with fail
  rw [HWE.out]
  go_wp2_with fail
  refine (HSU.out _ (by first | exact gb_refl _ _ | exact gb_drewN _ _ _)).mono ?_
  rintro e w1 ⟨rfl, q, rfl⟩
  go_wp2_with fail
  refine (HDC.out _ S (by omega)).mono ?_
  rintro e w2 ⟨rfl, rfl⟩
  go_wp2_with fail
  go_loopw [7, 8] (fun v i wr => ∃ k : Nat, i = .int .i64 (k : Int) ∧ k ≤ ls.length ∧ Hid (HI W text ns ls k v wr)) (fun _ i _ => ls.length - (intOf i).toNat)
  case atStart => exact ⟨0, rfl, Nat.zero_le _, own_nil _ _ _, gb_drewN _ _ _⟩
  case round =>
    obtain ⟨k, rfl, hk, HR⟩ := hrel
    obtain ⟨va, vc, rfl, _, _⟩ := own_shape1 HR.out.row
    have F2 := gb_cell HR.out.gb f2 (by simp)
    have S1 := gb_cell HR.out.gb s1 (by simp)
    have S2 := gb_cell HR.out.gb s2 (by simp)
    by_cases hlt : k < ls.length
    · obtain ⟨lb, lo, rfl, hcl⟩ := HLL.out k hlt
      have CL := gb_cell HR.out.gb hcl (by simp)
      have hlv := HLB.out ls[k] (List.getElem_mem hlt)
      have hup := uptoTo_le ns ls[k] ns.length
      have HTK : Hid ((ls.take (k + 1)).map (hLine text ns) = (ls.take k).map (hLine text ns) ++ [hLine text ns ls[k]]) := by
        show _ = _
        rw [take_snoc' ls k hlt, List.map_append]; rfl
      have hXX : hLine text ns ls[k] = uptoP text ls[k] (uptoTo ns ls[k] ns.length : Int) := rfl
      obtain ⟨x, hx⟩ : ∃ x, ls[k] = x := ⟨_, rfl⟩
      rw [hx] at CL hlv hup HTK hXX
      obtain ⟨u, hu⟩ : ∃ u, uptoTo ns x ns.length = u := ⟨_, rfl⟩
      have HUV : Hid (∀ V, W.grownBy V none → Calls Tryz.prog 153 #[.slice na ns.length nc, .int .i64 x] V fun e w' => e = .returned (.int .i64 (u : Int)) ∧ ∃ q, w' = V.drewN q) := by
        have := HUP.out
        intro V gV
        rw [← hu]; exact this V x gV
      rw [hu] at hup hXX
      have hxl : (Lib.itoa x).length ≤ 21 := itoa_len (by omega)
      have hul : (Lib.itoa (u : Int)).length ≤ 21 := itoa_len (by omega)
      have htx := HX.out
      have d1 : ∀ w, (Op.stringOp .add (B text) ⟨#[32, 117, 112, 116, 111, 32]⟩).run Tryz.prog w = .ok (.string (B (text ++ [32, 117, 112, 116, 111, 32]))) w := add_lists text [32, 117, 112, 116, 111, 32] (by omega) (by simp)
      have d2 : ∀ w, (Op.stringOp .add (B (text ++ [32, 117, 112, 116, 111, 32])) (B (Lib.itoa x))).run Tryz.prog w = .ok (.string (B (text ++ [32, 117, 112, 116, 111, 32] ++ Lib.itoa x))) w := add_lists _ _ (by simp; omega) (by omega)
      have d3 : ∀ w, (Op.stringOp .add (B (text ++ [32, 117, 112, 116, 111, 32] ++ Lib.itoa x)) ⟨#[32]⟩).run Tryz.prog w = .ok (.string (B (text ++ [32, 117, 112, 116, 111, 32] ++ Lib.itoa x ++ [32]))) w := add_lists _ [32] (by simp; omega) (by simp)
      have d4 : ∀ w, (Op.stringOp .add (B (text ++ [32, 117, 112, 116, 111, 32] ++ Lib.itoa x ++ [32])) (B (Lib.itoa (u : Int)))).run Tryz.prog w = .ok (.string (B (hLine text ns x))) w := by
        rw [hXX]; exact add_lists _ _ (by simp; omega) (by omega)
      generalize hLine text ns x = XX at d4 HTK
      generalize B (text ++ [32, 117, 112, 116, 111, 32] ++ Lib.itoa x ++ [32]) = Q3 at d3 d4
      generalize B (text ++ [32, 117, 112, 116, 111, 32] ++ Lib.itoa x) = Q2 at d2 d3
      generalize B (text ++ [32, 117, 112, 116, 111, 32]) = Q1 at d1 d2
      have hki : (k : Int) < (ls.length : Int) := by omega
      have HDX : Hid (∀ V, Calls Tryz.prog 151 #[.int .i64 x] V fun e w' => e = .returned (.string (B (Lib.itoa x))) ∧ w' = V) := fun V => HDC.out V x (by omega)
      have HDU : Hid (∀ V, Calls Tryz.prog 151 #[.int .i64 (u : Int)] V fun e w' => e = .returned (.string (B (Lib.itoa (u : Int)))) ∧ w' = V) := fun V => HDC.out V u (by omega)
      clear hcl hlv hup hx hxl hul hXX hu htx
      go_wp2_with fail
      refine (HDX.out _).mono ?_
      rintro e w3 ⟨rfl, rfl⟩
      go_upto_region 13 with fail
      go_cut [10] from 43 to 75 (fun v w' => v = .string (B (Lib.itoa (u : Int))) ∧ ∃ q, w' = w3.drewN q)
      case first =>
        go_region_held3 (fun w' => w'.cell? ⟨w.heap.size, 2, none⟩ = some (.slice (some ⟨lb, lo, none⟩) ls.length lc) ∧ w'.cell? ⟨w.heap.size + 1, 2, none⟩ = some (.slice na ns.length nc) ∧ w'.cell? ⟨lb, lo + k, none⟩ = some (.int .i64 x)) (go_keep) ((first
          | (go_at_call 153; refine (HUV.out _ (by first | exact HR.out.gb | exact gb_d HR.out.gb)).mono ?_; rintro r w' ⟨rfl, q, rfl⟩)
          | (go_at_call 151; refine (HDU.out _).mono ?_; rintro r w' ⟨rfl, rfl⟩)))
        all_goals
          go_wp2
          go_meet
          case rel => exact ⟨rfl, by first | exact ⟨_, rfl⟩ | exact drew2 _ _ _⟩
      case rest =>
        obtain ⟨rfl, q2, rfl⟩ := hcut
        have hr3 : ((w3.drewN q2).alloc (.cells #[.string (B XX)] 9)).ownsRow W.heap.size 9 1 (.slice va k vc) k (strs ((ls.take k).map (hLine text ns))) := own_frame HR.out.row fun b hb => (gb_alloc (gb_drewN w3 q2 none) _).block b (own_lt HR.out.row b hb) (by simp)
        have hi3 : ((w3.drewN q2).alloc (.cells #[.string (B XX)] 9)).ownsRow w3.heap.size 9 1 (.slice (some ⟨w3.heap.size, 0, none⟩) 1 1) 1 (strs [XX]) := one_row (alloc_new _ _ _ rfl)
        have HG3 : Hid (W.grownBy ((w3.drewN q2).alloc (.cells #[.string (B XX)] 9)) none) := gb_alloc (gb_d HR.out.gb) _
        have HR3 : Hid (((w3.drewN q2).alloc (.cells #[.string (B XX)] 9)).ownsRow W.heap.size 9 1 (.slice va k vc) k (strs ((ls.take k).map (hLine text ns)))) := hr3
        have hsz : W.heap.size ≤ ((w3.drewN q2).alloc (.cells #[.string (B XX)] 9)).heap.size := HG3.out.size
        go_wp2_with (at_builtin; refine wpList_append_rows _ rfl _ _ rfl rfl W.heap.size w3.heap.size _ k (strs ((ls.take k).map (hLine text ns))) rfl hr3 _ 1 [XX] rfl hi3 hsz (by omega) ?_; intro v' w4 own4 g4; obtain ⟨xa, xc, rfl, _, _⟩ := own_shape1 own4)
        go_roundw
        case rel => exact ⟨k + 1, by go_num, by omega, ⟨by rw [HTK.out, ← strs_snoc]; exact own4, gb_row1 HG3.out HR3.out g4⟩⟩
        case measure => simp [intOf]; omega
    · have hki : ¬ (k : Int) < (ls.length : Int) := by omega
      obtain rfl : k = ls.length := by omega
      have HDN : Hid (∀ V, Calls Tryz.prog 151 #[.int .i64 (ns.length : Int)] V fun e w' => e = .returned (.string (B (Lib.itoa (ns.length : Int)))) ∧ w' = V) := fun V => HDC.out V _ (by omega)
      go_wp2_with fail
      refine (HDN.out _).mono ?_
      rintro e w3 ⟨rfl, rfl⟩
      have hr3 : (w3.alloc (.cells #[.string (B XL)] 9)).ownsRow W.heap.size 9 1 (.slice va ls.length vc) ls.length (strs ((ls.take ls.length).map (hLine text ns))) := own_frame HR.out.row fun b hb => (gb_alloc (gb_refl w3 none) _).block b (own_lt HR.out.row b hb) (by simp)
      have hi3 : (w3.alloc (.cells #[.string (B XL)] 9)).ownsRow w3.heap.size 9 1 (.slice (some ⟨w3.heap.size, 0, none⟩) 1 1) 1 (strs [XL]) := one_row (alloc_new _ _ _ rfl)
      have HG3 : Hid (W.grownBy (w3.alloc (.cells #[.string (B XL)] 9)) none) := gb_alloc HR.out.gb _
      have HR3 : Hid ((w3.alloc (.cells #[.string (B XL)] 9)).ownsRow W.heap.size 9 1 (.slice va ls.length vc) ls.length (strs ((ls.take ls.length).map (hLine text ns)))) := hr3
      have hsz : W.heap.size ≤ (w3.alloc (.cells #[.string (B XL)] 9)).heap.size := HG3.out.size
      go_wp2_with (at_builtin; refine wpList_append_rows _ rfl _ _ rfl rfl W.heap.size w3.heap.size _ ls.length (strs ((ls.take ls.length).map (hLine text ns))) rfl hr3 _ 1 [XL] rfl hi3 hsz (by omega) ?_; intro v' w4 own4 g4; obtain ⟨xa, xc, rfl, _, _⟩ := own_shape1 own4)
      go_ret
      refine ⟨_, rfl, ?_, gb_trans HGW.out (gb_row1 HG3.out HR3.out g4)⟩
      rw [strs_snoc, List.take_length] at own4
      exact own_low own4 HGW.out.size

end Go.Proofs.YtcfdemhokbddiaaGreatDoor

/-
  Plain facts: the document's lines of a series are the program's; what comes next in an order.
-/
namespace Go.Proofs.YtcfdemhokbddiaaGreatDoor
open Go.RowKit

theorem fl_plain (kind : Int) (ls : List Int) : ∀ (ns : List Int) (z : Cnt), (ns.foldl (fun c n => countP kind ls n c) z).plain = z.plain
  | [], _ => rfl
  | n :: ns, z => by rw [List.foldl_cons, fl_plain kind ls ns]; exact countP_plain kind ls n z
theorem fl_num (kind : Int) (hk : kind ≠ 2) (ls : List Int) : ∀ (ns : List Int) (z : Cnt), (ns.foldl (fun c n => countP kind ls n c) z).num = ns.foldl (fun s n => stopP (s + n)) z.num
  | [], _ => rfl
  | n :: ns, z => by
    rw [List.foldl_cons, fl_num kind hk ls ns, List.foldl_cons]
    congr 1
    unfold countP
    by_cases h1 : kind = 1
    · rw [if_pos h1]
    · rw [if_neg h1, if_neg hk]
theorem fl_last (ls : List Int) : ∀ (ns : List Int) (z : Cnt), (ns.foldl (fun c n => countP 2 ls n c) z).num = (ns.getLast?).getD z.num
  | [], _ => rfl
  | n :: ns, z => by
    rw [List.foldl_cons, fl_last ls ns, List.getLast?_cons]
    rfl
theorem fl_all (ls : List Int) : ∀ (ns : List Int) (z : Cnt), (ns.foldl (fun c n => countP 3 ls n c) z).all = z.all + ns.length
  | [], _ => by simp
  | n :: ns, z => by
    rw [List.foldl_cons, fl_all ls ns]
    unfold countP
    simp
    omega
theorem kplace_lim : ∀ {ls : List Int}, KSrt ltI ls → ∀ (n : Int) (i : Nat) (h : i < ls.length), kplace ltI n ls ≤ i ↔ n ≤ ls[i]
  | [], _, _, _, h => by simp at h
  | x :: ls, hs, n, i, h => by
    unfold KSrt at hs
    rw [List.pairwise_cons] at hs
    unfold kplace
    by_cases hx : x < n
    · rw [if_pos (by simp [ltI, hx])]
      cases i with
      | zero => simp; omega
      | succ j =>
        have := kplace_lim (ls := ls) hs.2 n j (by simpa using h)
        simp only [List.getElem_cons_succ]
        omega
    · rw [if_neg (by simp [ltI]; omega)]
      cases i with
      | zero => simp; omega
      | succ j =>
        have hj : j < ls.length := by simpa using h
        have := hs.1 ls[j] (List.getElem_mem hj)
        simp only [ltI, decide_eq_true_eq] at this
        simp only [List.getElem_cons_succ]
        omega
theorem fl_us {ls : List Int} (hs : KSrt ltI ls) (i : Nat) (h : i < ls.length) : ∀ (ns : List Int) (z : Cnt), i < z.us.length → (ns.foldl (fun c n => countP 3 ls n c) z).us.getD i 0 = z.us.getD i 0 + ((ns.filter fun n => decide (n ≤ ls[i])).length : Int)
  | [], _, _ => by simp
  | n :: ns, z, hz => by
    have hlen : i < (countP 3 ls n z).us.length := by
      show i < (upUs _ _ z.us).length
      rw [upUs_len]; exact hz
    have e1 : (countP 3 ls n z).us.getD i 0 = if n ≤ ls[i] then z.us.getD i 0 + 1 else z.us.getD i 0 := by
      show (upUs (kplace ltI n ls) ls.length z.us).getD i 0 = _
      have e0 : (upUs (kplace ltI n ls) ls.length z.us).getD i 0 = (upUs (kplace ltI n ls) ls.length z.us)[i]'(by rw [upUs_len]; exact hz) := by
        rw [List.getD_eq_getElem?_getD, List.getElem?_eq_getElem (by rw [upUs_len]; exact hz)]; rfl
      have e2 : z.us.getD i 0 = z.us[i] := by rw [List.getD_eq_getElem?_getD, List.getElem?_eq_getElem hz]; rfl
      rw [e0, upUs_get _ _ _ _ hz, e2]
      have := kplace_lim hs n i h
      by_cases hn : n ≤ ls[i]
      · rw [if_pos ⟨this.2 hn, h⟩, if_pos hn]
      · rw [if_neg (fun hh => hn (this.1 hh.1)), if_neg hn]
    rw [List.foldl_cons, fl_us hs i h ns _ hlen, e1, List.filter_cons]
    by_cases hn : n ≤ ls[i]
    · simp [hn]; omega
    · simp [hn]

/-- The document's lines of a series. -/
def docSer (kind : Int) (ls : List Int) (text : List UInt8) (ns : List Int) : List (List UInt8) :=
  if kind = 1 then [text ++ [32] ++ Lib.itoa (sumTo ns ns.length)] else if kind = 2 then [text ++ [32] ++ Lib.itoa (ns.getLast?.getD 0)] else ls.map (hLine text ns) ++ [hLast text ns]
theorem sumTo_all (ns : List Int) : sumTo ns ns.length = ns.foldl (fun s n => stopP (s + n)) 0 := by unfold sumTo; rw [List.take_length]
theorem uptoTo_all (ns : List Int) (l : Int) : uptoTo ns l ns.length = (ns.filter fun n => decide (n ≤ l)).length := by unfold uptoTo; rw [List.take_length]
theorem fit_nil {kind : Int} {ls : List Int} (h : fitB kind ls = true) (hk : kind = 1 ∨ kind = 2) : ls = [] := by
  unfold fitB at h
  rw [if_pos hk] at h
  exact of_decide_eq_true h
theorem ser_lines (kind : Int) (ls : List Int) (x : Cnt) : serLines kind ls x = (List.range ls.length).map (lineAt kind ls x) ++ [lastP kind x] := by
  unfold serLines
  rw [List.range_succ, List.map_append, List.map_cons, List.map_nil]
  congr 2
  unfold lineAt
  rw [if_neg (Nat.lt_irrefl _)]
theorem docSer_eq {kind : Int} {ls : List Int} (hf : fitB kind ls = true) (text : List UInt8) (ns : List Int) : docSer kind ls text ns = serLines kind ls (folds kind ls ns text) := by
  obtain ⟨hk, hl4, hs⟩ := fit_facts hf
  have hp : (folds kind ls ns text).plain = text := fl_plain kind ls ns (zeroCnt text)
  unfold docSer
  rw [ser_lines]
  rcases hk with rfl | rfl | rfl
  · obtain rfl := fit_nil hf (Or.inl rfl)
    have hn : (folds 1 [] ns text).num = sumTo ns ns.length := by rw [sumTo_all]; exact fl_num 1 (by omega) [] ns (zeroCnt text)
    unfold lastP
    rw [if_pos rfl, if_neg (by omega), hp, hn]
    rfl
  · obtain rfl := fit_nil hf (Or.inr rfl)
    have hn : (folds 2 [] ns text).num = ns.getLast?.getD 0 := fl_last [] ns (zeroCnt text)
    unfold lastP
    rw [if_neg (by omega), if_pos rfl, if_neg (by omega), hp, hn]
    rfl
  · have hn : (folds 3 ls ns text).num = sumTo ns ns.length := by rw [sumTo_all]; exact fl_num 3 (by omega) ls ns (zeroCnt text)
    have ha : (folds 3 ls ns text).all = (ns.length : Int) := by
      show (ns.foldl (fun c n => countP 3 ls n c) (zeroCnt text)).all = _
      rw [fl_all]; simp [zeroCnt]
    rw [if_neg (by omega), if_neg (by omega)]
    congr 1
    · refine List.ext_getElem (by simp) fun i h1 h2 => ?_
      have hi : i < ls.length := by simpa using h1
      have hu : (folds 3 ls ns text).us.getD i 0 = (uptoTo ns ls[i] ns.length : Int) := by
        have := fl_us hs i hi ns (zeroCnt text) (by simp [zeroCnt]; omega)
        rw [uptoTo_all]
        have h0 : (zeroCnt text).us.getD i 0 = 0 := by
          match i, (show i < 4 by omega) with
          | 0, _ => rfl
          | 1, _ => rfl
          | 2, _ => rfl
          | 3, _ => rfl
        rw [h0, Int.zero_add] at this
        exact this
      have hg : ls.getD i 0 = ls[i] := by rw [List.getD_eq_getElem?_getD, List.getElem?_eq_getElem hi]; rfl
      simp only [List.getElem_map, List.getElem_range]
      unfold lineAt hLine
      rw [if_pos hi, hp, hu, hg]
    · unfold hLast lastP
      rw [if_pos rfl, hp, hn, ha]

theorem least_next {L S P Q : List (List UInt8)} {a b : List UInt8} (hm : ∀ x, x ∈ L ↔ x ∈ S) (hs : KSrt lt S) (e : S = P ++ Q) (hP : ∀ x ∈ P, lt a x = false) (hQ : ∀ x ∈ Q, lt a x = true) (h : LeastTo L a L.length b) : b = Q.headD [] := by
  have hin : ∀ x ∈ S, ∃ j, ∃ h : j < L.length, L[j] = x := fun x hx => by
    obtain ⟨j, hj, e⟩ := List.getElem_of_mem ((hm x).2 hx)
    exact ⟨j, hj, e⟩
  rcases h with ⟨h1, h2⟩ | ⟨h0, ⟨j, hj, _, hb⟩, h2, h3⟩
  · cases Q with
    | nil => exact h1
    | cons q Q =>
      obtain ⟨j, hj, ej⟩ := hin q (by rw [e]; simp)
      have := h2 j hj hj
      rw [ej, hQ q (by simp)] at this; cases this
  · have hbS : b ∈ S := (hm b).1 (by rw [hb]; exact List.getElem_mem hj)
    rw [e, List.mem_append] at hbS
    rcases hbS with hbP | hbQ
    · rw [hP b hbP] at h2; cases h2
    · cases Q with
      | nil => simp at hbQ
      | cons q Q =>
        show b = q
        rcases List.mem_cons.1 hbQ with hq | hq
        · exact hq
        · exfalso
          unfold KSrt at hs
          rw [e, List.pairwise_append] at hs
          have hqb := (List.pairwise_cons.1 hs.2.1).1 b hq
          obtain ⟨i, hi, ei⟩ := hin q (by rw [e]; simp)
          have := h3 i hi hi (by rw [ei]; exact hQ q (by simp))
          rw [ei, hqb] at this; cases this
theorem lt_nil {x : List UInt8} (h : x ≠ []) : lt [] x = true := by
  cases x with
  | nil => exact absurd rfl h
  | cons c l => simp [lt, Op.bytesLess]
theorem next_first {L S : List (List UInt8)} {b : List UInt8} (hm : ∀ x, x ∈ L ↔ x ∈ S) (hs : KSrt lt S) (hne : ∀ x ∈ S, x ≠ []) (h : LeastTo L [] L.length b) : b = S.getD 0 [] := by
  have := least_next (P := []) (Q := S) hm hs rfl (by simp) (fun x hx => lt_nil (hne x hx)) h
  rw [this]; cases S <;> rfl
theorem next_on {L S : List (List UInt8)} {b : List UInt8} (hm : ∀ x, x ∈ L ↔ x ∈ S) (hs : KSrt lt S) (j : Nat) (hj : j < S.length) (h : LeastTo L S[j] L.length b) : b = S.getD (j + 1) [] := by
  have := least_next (P := S.take (j + 1)) (Q := S.drop (j + 1)) hm hs (List.take_append_drop _ _).symm (fun x hx => ?_) (fun x hx => ?_) h
  · rw [this, List.headD_eq_head?_getD, List.head?_drop, List.getD_eq_getElem?_getD]
  · obtain ⟨i, hi, e⟩ := List.getElem_of_mem hx
    rw [List.length_take] at hi
    rw [List.getElem_take] at e
    rw [← e]
    by_cases hij : i = j
    · subst hij; exact lt_irrefl _
    · exact lt_asymm _ _ (hs.get lt i j hj (by omega))
  · obtain ⟨i, hi, e⟩ := List.getElem_of_mem hx
    rw [List.length_drop] at hi
    rw [List.getElem_drop] at e
    rw [← e]
    exact hs.get lt j (j + 1 + i) (by omega) (by omega)

/-- The lines of families, one behind the other. -/
def famLines (f : Fam) : List (List UInt8) := titleP f.nm f.kind :: f.ser.flatMap (serLines f.kind f.ls)
theorem linesP_eq (F : List Fam) : linesP F = F.flatMap famLines := by
  unfold linesP momT
  rw [it_lines, List.flatMap_map]
  rfl
theorem filter_drop : ∀ {T : List Fam}, KSrt lt (T.map Fam.nm) → ∀ (a : List UInt8), T.filter (fun f => !lt f.nm a) = T.drop (kplace lt a (T.map Fam.nm))
  | [], _, _ => rfl
  | x :: T, hs, a => by
    unfold KSrt at hs
    rw [List.map_cons, List.pairwise_cons] at hs
    rw [List.map_cons]
    unfold kplace
    cases hx : lt x.nm a with
    | true =>
      rw [List.filter_cons, if_neg (by simp [hx]), if_pos rfl, List.drop_succ_cons]
      exact filter_drop hs.2 a
    | false =>
      rw [if_neg (by simp), List.drop_zero, List.filter_eq_self]
      intro f hf
      rcases List.mem_cons.1 hf with rfl | hf
      · simp [hx]
      · cases hfa : lt f.nm a with
        | false => rfl
        | true =>
          have := hs.1 f.nm (List.mem_map_of_mem hf)
          rw [lt_trans _ _ _ this hfa] at hx; cases hx

end Go.Proofs.YtcfdemhokbddiaaGreatDoor

/-
  What the document's Lines meets: rows of texts, the board's families and series, as the program has them.
-/
namespace Go.Proofs.YtcfdemhokbddiaaGreatDoor
open Go.RowKit

theorem strSl_of_row {w : World} {base n : Nat} {v : Value} {ls : List (List UInt8)} (h : w.ownsRow base 9 1 v n (strs ls)) : n = ls.length ∧ StrSl w v ls := by
  have hn : n = ls.length := by have := h.1; simp [strs] at this; omega
  subst hn
  refine ⟨rfl, ?_⟩
  obtain ⟨sa, sc, rfl, hc, hsa⟩ := own_shape1 h
  refine ⟨sa, sc, rfl, hc, fun e => ?_, ?_⟩
  · rcases hsa with ⟨_, _, h0⟩ | ⟨g, h1, _⟩
    · exact h0
    · rw [e] at h1; cases h1
  rcases hsa with ⟨_, h0, _⟩ | ⟨g, rfl, hg⟩
  · exact Or.inl (List.eq_nil_of_length_eq_zero h0)
  · refine Or.inr ⟨g, 0, rfl, hg, fun k hk => ?_⟩
    have := own_cells1 h rfl k (.string (B ls[k])) (by simp [strs, hk])
    rw [Addr.add_lit] at this
    exact this
/-- How many texts of the order are left, this one among them. -/
def rank (S : List (List UInt8)) (x : List UInt8) : Nat := if x = [] then 0 else S.length - kplace lt x S
def strOf : Value → List UInt8
  | .string s => s.data.toList
  | _ => []
theorem strOf_B (x : List UInt8) : strOf (.string (B x)) = x := data_B x
theorem rank_at {S : List (List UInt8)} (hs : KSrt lt S) (hne : ∀ x ∈ S, x ≠ []) (j : Nat) (hj : j ≤ S.length) : rank S (S.getD j []) = S.length - j := by
  by_cases h : j < S.length
  · have e : S.getD j [] = S[j] := by rw [List.getD_eq_getElem?_getD, List.getElem?_eq_getElem h]; rfl
    unfold rank
    rw [e, if_neg (hne _ (List.getElem_mem h))]
    rw [kplace_of lt S[j] S j (by omega) (fun k hk hkj => hs.get lt k j h hkj) (fun k hk hjk => by
      by_cases e : k = j
      · subst e; exact lt_irrefl _
      · exact lt_asymm _ _ (hs.get lt j k hk (by omega)))]
  · have e : S.getD j [] = [] := by rw [List.getD_eq_getElem?_getD, List.getElem?_eq_none (by omega)]; rfl
    unfold rank
    rw [e, if_pos rfl]; omega

theorem run_append_rows3 (w : World) (base base' : Nat) (v : Value) (n : Nat) (xs : List Value) (hv : w.ownsRow base 9 1 v n xs) (u : Value) (k : Nat) (ls : List (List UInt8)) (hu : w.ownsRow base' 9 1 u k (strs ls)) (hb : base ≤ w.heap.size) (hn : n + k ≤ 100000) :
    ∃ v' w', (Builtin.append_ #[32, 32] 32 #[v, u]).run Tryz.prog w = .ok v' w' ∧ w'.ownsRow base 9 1 v' (n + k) (xs ++ strs ls) ∧ w.grownBy w' v.ownBlock ∧ (v'.ownBlock = v.ownBlock ∨ v'.ownBlock = some w.heap.size) := by
  obtain ⟨v', w', hr, h2, h3⟩ := run_append_rows w base base' v n xs hv u k ls hu hb hn
  refine ⟨v', w', hr, h2, h3, ?_⟩
  obtain ⟨i0, hi, hz0, hz1, hz2⟩ := info_parts Tryz.info9
  rcases hu.2 with ⟨rfl, rfl⟩ | ⟨g, cap, cur, rfl, _⟩
  · have hr2 := run_append_owned_none w base 32 32 9 i0 1 Tryz.underlying32 hi v n xs hv
    have := hr.symm.trans hr2
    injection this with e1 _
    left; rw [e1]
  · have hl : (strs ls).length = k * i0.size := by rw [hz1]; exact hu.1
    have hnews : ∀ j u, (strs ls)[j]? = some u → w.cell? ((⟨g, 0, none⟩ : Addr).add j) = some u := fun j u hj => own_cells1 hu rfl j u hj
    have h1c : ∀ u ∈ strs ls, u.oneCell' = true := fun u hu => by
      simp only [strs, List.mem_map] at hu
      obtain ⟨a, _, rfl⟩ := hu
      rfl
    rcases hv.2 with ⟨rfl, rfl⟩ | ⟨g', cap', cur', rfl, hbg, hg, hnc, hcm, hcs, htake⟩
    · by_cases hk0 : k = 0
      · subst hk0
        obtain ⟨v2, w2, hq, _, _, hq4⟩ := run_append_own (P := Tryz.prog) w base 32 32 9 i0 (.string ⟨#[]⟩) 1 16 Tryz.underlying32 hi hz0 hz1 hz2 rfl (by omega) _ 0 xs hv ⟨g, 0, none⟩ 0 cap (strs ls) hu.1 hnews h1c (by unfold maxLen; omega) (by omega) hb
        have := hr.symm.trans hq
        injection this with e1 _
        left
        rw [e1, hq4.2 ⟨rfl, rfl⟩]
      · have hr2 := run_append_nil (P := Tryz.prog) w 32 32 9 i0 (.string ⟨#[]⟩) Tryz.underlying32 hi hz0 ⟨g, 0, none⟩ k cap (strs ls) hl hnews (by omega) (by omega) (by rw [hz2]; omega)
        have := hr.symm.trans hr2
        injection this with e1 _
        right; rw [e1]; rfl
    · by_cases hroom : n + k ≤ cap'
      · have hfit : n * i0.size + (strs ls).length ≤ cur'.size := by rw [hl, hz1, hcs]; omega
        have hr2 := run_append_room (P := Tryz.prog) w 32 32 9 i0 Tryz.underlying32 hi g' n cap' cur' hg ⟨g, 0, none⟩ k cap (strs ls) hl hnews h1c hroom hfit
        have := hr.symm.trans hr2
        injection this with e1 _
        left; rw [e1]; rfl
      · have holds : ∀ j u, xs[j]? = some u → w.cell? ((⟨g', 0, none⟩ : Addr).add j) = some u := hv.cells (g := g') rfl
        have hr2 := run_append_grow (P := Tryz.prog) w 32 32 9 i0 (.string ⟨#[]⟩) Tryz.underlying32 hi hz0 ⟨g', 0, none⟩ n cap' xs (by rw [hz1]; exact hv.1) holds ⟨g, 0, none⟩ k cap (strs ls) hl hnews (by omega) (by omega) (growslice_fits (by omega) (by rw [hz2]; omega))
        have := hr.symm.trans hr2
        injection this with e1 _
        right; rw [e1]; rfl

/-- append of a row onto a row of one's own: where the new one lies. -/
theorem wpList_append_rows3 (w : World) {ops : Array Oper} {rest : List Oper} {o : Oper} {a : Act} {Q : Exit → Act → World → Prop} (hg : o.guard = none) (s x : Operand) (hop : o.op = Op.call { callee := Callee.builtin Builtin.append, args := #[s, x], argTypes := #[32, 32] }) (hty : o.type = 32)
    (base base' : Nat) (v : Value) (n : Nat) (xs : List Value) (hs : a.eval s = v) (hv : w.ownsRow base 9 1 v n xs) (u : Value) (k : Nat) (ls : List (List UInt8)) (hx : a.eval x = u) (hu : w.ownsRow base' 9 1 u k (strs ls)) (hb : base ≤ w.heap.size) (hn : n + k ≤ 100000)
    (hK : ∀ v' w', w'.ownsRow base 9 1 v' (n + k) (xs ++ strs ls) → w.grownBy w' v.ownBlock → (v'.ownBlock = v.ownBlock ∨ v'.ownBlock = some w.heap.size) → wpList Tryz.prog ops Q rest (a.put o.dst v') w') : wpList Tryz.prog ops Q (o :: rest) a w := by
  refine wpList_plain hg fun K hK' => ?_
  obtain ⟨v', w', hrun, r1, r2, r3⟩ := run_append_rows3 w base base' v n xs hv u k ls hu hb hn
  unfold Oper.wp
  simp [execOp, hop, hty, resolve, invoke, builtin, hs, hx, hrun, Result.andThen]
  exact hK' _ _ (hK v' w' r1 r2 r3)

theorem inB_iff {n : Int} : inB n = true ↔ -1000000000 ≤ n ∧ n ≤ 1000000000 := by unfold inB; rw [decide_eq_true_eq]
theorem docSer_len (kind : Int) (ls : List Int) (text : List UInt8) (ns : List Int) : (docSer kind ls text ns).length ≤ ls.length + 1 := by
  unfold docSer
  split
  · simp
  · split <;> simp
theorem lines_any (nm fam text : List UInt8) (kind : Int) (lv nv : Value) (ls ns : List Int) (w : World) (hf : fitB kind ls = true) (hlb : ∀ l ∈ ls, -1000000000 ≤ l ∧ l ≤ 1000000000) (hl : IntSl w lv ls) (hn : IntSl w nv ns) (h0 : ns ≠ []) (hns : ns.length ≤ 4398046511104) (hb : ∀ n ∈ ns, inB n = true) (ht : text.length ≤ 400) :
    Calls Tryz.prog 120 #[.agg #[.string (B nm), .int .i64 kind, lv], .agg #[.string (B fam), .string (B text), nv]] w fun e w' => ∃ v, e = .returned v ∧ w'.ownsRow w.heap.size 9 1 v (docSer kind ls text ns).length (strs (docSer kind ls text ns)) ∧ w.grownBy w' none := by
  obtain ⟨hk, hl4, _⟩ := fit_facts hf
  have hb' : ∀ n ∈ ns, -1000000000 ≤ n ∧ n ≤ 1000000000 := fun n hn => inB_iff.1 (hb n hn)
  rcases hk with rfl | rfl | rfl
  · exact lines_count nm fam text lv nv ns w (by obtain ⟨a, c, e⟩ := intSl_shape hl; exact ⟨a, _, c, e⟩) hn hns hb' ht
  · obtain ⟨x, hx⟩ : ∃ x, ns.getLast? = some x := by
      cases h : ns.getLast? with
      | none => exact absurd (List.getLast?_eq_none_iff.1 h) h0
      | some x => exact ⟨x, rfl⟩
    have := lines_gauge nm fam text lv nv ns w (by obtain ⟨a, c, e⟩ := intSl_shape hl; exact ⟨a, _, c, e⟩) hn hns hb' ht x hx
    unfold docSer
    rw [if_neg (by omega), if_pos rfl, hx]
    exact this
  · have := lines_hist nm fam text lv nv ls ns w hl hn hl4 hlb hns hb' ht
    unfold docSer
    rw [if_neg (by omega), if_neg (by omega)]
    simpa using this

/-- The document's board beside the program's families. -/
structure DC (w : World) (T : List Fam) (r : RB) : Prop where
  at_ : RB.At w r
  flen : r.fams.length ≤ 8
  slen : r.ser.length ≤ 24
  each : ∀ x ∈ r.ser, x.ns.length ≤ 4398046511104
  rel : Rel T r.view
  srt : KSrt lt (T.map Fam.nm)
  sers : ∀ f ∈ T, KSrt lt (f.ser.map Cnt.plain)
  nml : ∀ f ∈ T, f.nm.length ≤ 12
  txl : ∀ f ∈ T, ∀ c ∈ f.ser, c.plain.length ≤ 400
  lb : ∀ f ∈ T, ∀ l ∈ f.ls, -1000000000 ≤ l ∧ l ≤ 1000000000
theorem DC.gb {w w' : World} {T : List Fam} {r : RB} (h : DC w T r) (hg : w.grownBy w' none) : DC w' T r := ⟨h.at_.gb hg, h.flen, h.slen, h.each, h.rel, h.srt, h.sers, h.nml, h.txl, h.lb⟩
theorem KSrt.nodup {S : List (List UInt8)} (h : KSrt lt S) : S.Nodup := List.Pairwise.imp (fun {a b} hab e => by rw [e, lt_irrefl] at hab; cases hab) h
section
variable {w : World} {T : List Fam} {r : RB}
theorem DC.fams (h : DC w T r) (x : List UInt8) : x ∈ r.fams.map RF.nm ↔ x ∈ T.map Fam.nm := by
  have e1 : r.fams.map RF.nm = r.view.fams.map (fun f => f.1) := by simp [RB.view]
  have e2 : T.map Fam.nm = (famsOf T).map (fun f => f.1) := by simp [famsOf]
  rw [e1, e2]
  exact ((h.rel.fams.map _).mem_iff).symm
theorem DC.fam (h : DC w T r) {f : Fam} (hf : f ∈ T) {code : Int} (hc : LookOut r.fams RF.nm f.nm code) : ∃ A g B', r.fams = A ++ g :: B' ∧ code = (A.length : Int) ∧ g.nm = f.nm ∧ g.kind = f.kind ∧ g.ls = f.ls := by
  rcases hc with ⟨hno, _⟩ | ⟨A, g, B', e, en, _, ec⟩
  · obtain ⟨g, hg, eg⟩ := List.mem_map.1 ((h.fams f.nm).2 (List.mem_map_of_mem hf))
    exact absurd eg (hno g hg)
  · have hg : (g.nm, g.kind, g.ls) ∈ r.view.fams := List.mem_map_of_mem (f := fun f : RF => (f.nm, f.kind, f.ls)) (by rw [e]; simp)
    have := h.rel.fams.mem_iff.2 hg
    simp only [famsOf, List.mem_map, Prod.mk.injEq] at this
    obtain ⟨f2, hf2, e1, e2, e3⟩ := this
    have : f2 = f := mem_nm h.srt.nodup hf2 hf (by rw [e1, en])
    subst this
    exact ⟨A, g, B', e, ec, e1.symm, e2.symm, e3.symm⟩
theorem DC.ser (h : DC w T r) {f : Fam} (hf : f ∈ T) {c : Cnt} (hc : c ∈ f.ser) {code : Int} (hl : LookOut r.ser RSer.text c.plain code) :
    ∃ A x B', r.ser = A ++ x :: B' ∧ code = (A.length : Int) ∧ x.text = c.plain ∧ x.ns ≠ [] ∧ (∀ n ∈ x.ns, inB n = true) ∧ c = folds f.kind f.ls x.ns c.plain := by
  obtain ⟨ns, hm, h0, hb, hfo⟩ := h.rel.vals f hf c hc
  have hm' : (f.nm, c.plain, ns) ∈ r.ser.map (fun x => (x.fam, x.text, x.ns)) := hm
  obtain ⟨y, hy, ey⟩ := List.mem_map.1 hm'
  simp only [Prod.mk.injEq] at ey
  rcases hl with ⟨hno, _⟩ | ⟨A, x, B', e, en, _, ec⟩
  · exact absurd ey.2.1 (hno y hy)
  · have hx : (x.fam, x.text, x.ns) ∈ r.view.ser := List.mem_map_of_mem (f := fun x : RSer => (x.fam, x.text, x.ns)) (by rw [e]; simp)
    have := ser_uniq h.rel.nodup hx hm (by show x.text = c.plain; exact en)
    simp only [Prod.mk.injEq] at this
    rw [← this.2.2] at h0 hb hfo
    exact ⟨A, x, B', e, ec, en, h0, hb, hfo⟩
/-- The texts of a family's series, as the document gathers them. -/
def txTo (r : RB) (nm : List UInt8) (k : Nat) : List (List UInt8) := ((r.ser.take k).filter fun x => decide (x.fam = nm)).map RSer.text
theorem DC.texts (h : DC w T r) {f : Fam} (hf : f ∈ T) (p : List UInt8) : p ∈ txTo r f.nm r.ser.length ↔ p ∈ f.ser.map Cnt.plain := by
  unfold txTo
  rw [List.take_length]
  constructor
  · intro hp
    obtain ⟨x, hx, ex⟩ := List.mem_map.1 hp
    rw [List.mem_filter, decide_eq_true_eq] at hx
    have hm : (x.fam, x.text, x.ns) ∈ r.view.ser := List.mem_map_of_mem (f := fun x : RSer => (x.fam, x.text, x.ns)) hx.1
    have ht : x.text ∈ plainsOf T := h.rel.texts.mem_iff.2 (List.mem_map_of_mem (f := fun x : List UInt8 × List UInt8 × List Int => x.2.1) hm)
    simp only [plainsOf, List.mem_flatMap, List.mem_map] at ht
    obtain ⟨g, hg, c, hc, ec⟩ := ht
    obtain ⟨ns, hm2, _⟩ := h.rel.vals g hg c hc
    have := ser_uniq h.rel.nodup hm hm2 (by show x.text = c.plain; exact ec.symm)
    simp only [Prod.mk.injEq] at this
    have eg : g = f := mem_nm h.srt.nodup hg hf (by rw [← this.1, hx.2])
    subst eg
    rw [← ex, ← ec]
    exact List.mem_map_of_mem hc
  · intro hp
    obtain ⟨c, hc, ec⟩ := List.mem_map.1 hp
    obtain ⟨ns, hm, _⟩ := h.rel.vals f hf c hc
    have hm' : (f.nm, c.plain, ns) ∈ r.ser.map (fun x => (x.fam, x.text, x.ns)) := hm
    obtain ⟨y, hy, ey⟩ := List.mem_map.1 hm'
    simp only [Prod.mk.injEq] at ey
    refine List.mem_map.2 ⟨y, ?_, by rw [ey.2.1, ec]⟩
    rw [List.mem_filter, decide_eq_true_eq]
    exact ⟨hy, ey.1⟩
theorem txTo_in (r : RB) (nm : List UInt8) (k : Nat) (h : k < r.ser.length) (e : (r.ser[k]).fam = nm) : txTo r nm (k + 1) = txTo r nm k ++ [(r.ser[k]).text] := by
  unfold txTo
  rw [take_snoc' r.ser k h, List.filter_append, List.map_append]
  simp [e]
theorem txTo_out (r : RB) (nm : List UInt8) (k : Nat) (h : k < r.ser.length) (e : (r.ser[k]).fam ≠ nm) : txTo r nm (k + 1) = txTo r nm k := by
  unfold txTo
  rw [take_snoc' r.ser k h, List.filter_append, List.map_append]
  simp [e]
theorem txTo_len (r : RB) (nm : List UInt8) (k : Nat) : (txTo r nm k).length ≤ k := by
  unfold txTo
  rw [List.length_map]
  have h1 := List.length_filter_le (fun x : RSer => decide (x.fam = nm)) (r.ser.take k)
  have h2 := List.length_take_le k r.ser
  omega
theorem DC.plain_ne (h : DC w T r) {f : Fam} (hf : f ∈ T) : ∀ x ∈ f.ser.map Cnt.plain, x ≠ [] := fun x hx e => by
  obtain ⟨c, hc, ec⟩ := List.mem_map.1 hx
  obtain ⟨t, et, _⟩ := h.rel.begins f hf c hc
  rw [ec, e] at et
  have := congrArg List.length et
  have hn := h.rel.named f hf
  cases hf' : f.nm with
  | nil => exact hn hf'
  | cons a b => rw [hf'] at this; simp at this
theorem DC.nm_ne (h : DC w T r) : ∀ x ∈ T.map Fam.nm, x ≠ [] := fun x hx => by
  obtain ⟨f, hf, e⟩ := List.mem_map.1 hx
  rw [← e]; exact h.rel.named f hf
end

end Go.Proofs.YtcfdemhokbddiaaGreatDoor

/-
  Where a family and a series stand in the document's board.
-/
namespace Go.Proofs.YtcfdemhokbddiaaGreatDoor
open Go.RowKit

theorem step_append_rows3 {ops : Array Oper} {o : Oper} {a : Act} {w : World} {K : Act → World → Prop} {Q : Exit → Act → World → Prop} {E : Prop} (hg : o.guard = none) (s x : Operand) (hop : o.op = Op.call { callee := Callee.builtin Builtin.append, args := #[s, x], argTypes := #[32, 32] }) (hty : o.type = 32)
    (base base' : Nat) (v : Value) (n : Nat) (xs : List Value) (hs : a.eval s = v) (hv : w.ownsRow base 9 1 v n xs) (u : Value) (k : Nat) (ls : List (List UInt8)) (hx : a.eval x = u) (hu : w.ownsRow base' 9 1 u k (strs ls)) (hb : base ≤ w.heap.size) (hn : n + k ≤ 100000)
    (hK : ∀ v' w', w'.ownsRow base 9 1 v' (n + k) (xs ++ strs ls) → w.grownBy w' v.ownBlock → (v'.ownBlock = v.ownBlock ∨ v'.ownBlock = some w.heap.size) → K (a.put o.dst v') w') :
    if Region.wanted o (yielded ops a.tmps) = true then Oper.wp Tryz.prog o a w K Q else E := by
  obtain ⟨v', w', hrun, r1, r2, r3⟩ := run_append_rows3 w base base' v n xs hv u k ls hu hb hn
  rw [if_pos (by simp [Region.wanted, hg])]
  unfold Oper.wp
  simp [execOp, hop, hty, resolve, invoke, builtin, hs, hx, hrun, Result.andThen]
  exact hK v' w' r1 r2 r3

theorem look_ex {α : Type} (key : α → List UInt8) (nm : List UInt8) : ∀ L : List α, ∃ code, LookOut L key nm code
  | [] => ⟨-1, Or.inl ⟨by simp, rfl⟩⟩
  | x :: L => by
    by_cases h : key x = nm
    · exact ⟨0, Or.inr ⟨[], x, L, rfl, h, by simp, rfl⟩⟩
    · obtain ⟨c, hc⟩ := look_ex key nm L
      rcases hc with ⟨hno, _⟩ | ⟨A, f, B', e, ek, hA, _⟩
      · refine ⟨-1, Or.inl ⟨fun f hf => ?_, rfl⟩⟩
        rcases List.mem_cons.1 hf with rfl | hf
        · exact h
        · exact hno f hf
      · refine ⟨((x :: A).length : Int), Or.inr ⟨x :: A, f, B', by rw [e]; rfl, ek, fun g hg => ?_, rfl⟩⟩
        rcases List.mem_cons.1 hg with rfl | hg
        · exact h
        · exact hA g hg
theorem look_le {α : Type} {L A B' A2 B2 : List α} {f f2 : α} (h1 : L = A ++ f :: B') (h2 : L = A2 ++ f2 :: B2) {p : α → Prop} (hf : ¬ p f) (hA : ∀ g ∈ A2, p g) : A2.length ≤ A.length := by
  refine Classical.byContradiction fun hn => ?_
  have e1 : L[A.length]? = some f := by rw [h1]; simp
  have e2 : L[A.length]? = A2[A.length]? := by rw [h2, List.getElem?_append_left (by omega)]
  rw [e1] at e2
  exact hf (hA f (List.mem_of_getElem? e2.symm))
theorem look_uniq {α : Type} {key : α → List UInt8} {nm : List UInt8} {L : List α} {c1 c2 : Int} (h1 : LookOut L key nm c1) (h2 : LookOut L key nm c2) : c1 = c2 := by
  rcases h1 with ⟨n1, rfl⟩ | ⟨A, f, B', e1, k1, m1, rfl⟩ <;> rcases h2 with ⟨n2, rfl⟩ | ⟨A2, f2, B2, e2, k2, m2, rfl⟩
  · rfl
  · exact absurd k2 (n1 f2 (by rw [e2]; simp))
  · exact absurd k1 (n2 f (by rw [e1]; simp))
  · have q1 := look_le (p := fun g => key g ≠ nm) e1 e2 (fun h => h k1) m2
    have q2 := look_le (p := fun g => key g ≠ nm) e2 e1 (fun h => h k2) m1
    have : A.length = A2.length := by omega
    rw [this]
section
variable {w : World} {T : List Fam} {r : RB}
theorem DC.famAt (h : DC w T r) {f : Fam} (hf : f ∈ T) : ∃ k, ∃ hk : k < r.fams.length, (r.fams[k]).nm = f.nm ∧ (r.fams[k]).kind = f.kind ∧ (r.fams[k]).ls = f.ls ∧ ∀ code, LookOut r.fams RF.nm f.nm code → code = (k : Int) := by
  obtain ⟨c, hc⟩ := look_ex RF.nm f.nm r.fams
  obtain ⟨A, g, B', e, ec, e1, e2, e3⟩ := h.fam hf hc
  have hk : A.length < r.fams.length := by rw [e]; simp
  have eg : r.fams[A.length] = g := by
    have : r.fams[A.length]? = some g := by rw [e]; simp
    rw [List.getElem?_eq_getElem hk] at this
    exact Option.some.inj this
  exact ⟨A.length, hk, by rw [eg]; exact e1, by rw [eg]; exact e2, by rw [eg]; exact e3, fun code h2 => by rw [look_uniq h2 hc, ec]⟩
theorem DC.serAt (h : DC w T r) {f : Fam} (hf : f ∈ T) {c : Cnt} (hc : c ∈ f.ser) : ∃ k, ∃ hk : k < r.ser.length, (r.ser[k]).text = c.plain ∧ (r.ser[k]).ns ≠ [] ∧ (∀ n ∈ (r.ser[k]).ns, inB n = true) ∧ c = folds f.kind f.ls (r.ser[k]).ns c.plain ∧ ∀ code, LookOut r.ser RSer.text c.plain code → code = (k : Int) := by
  obtain ⟨d, hd⟩ := look_ex RSer.text c.plain r.ser
  obtain ⟨A, g, B', e, ec, e1, e2, e3, e4⟩ := h.ser hf hc hd
  have hk : A.length < r.ser.length := by rw [e]; simp
  have eg : r.ser[A.length] = g := by
    have : r.ser[A.length]? = some g := by rw [e]; simp
    rw [List.getElem?_eq_getElem hk] at this
    exact Option.some.inj this
  exact ⟨A.length, hk, by rw [eg]; exact e1, by rw [eg]; exact e2, by rw [eg]; exact e3, by rw [eg]; exact e4, fun code h2 => by rw [look_uniq h2 hd, ec]⟩
/-- The family's look-up, at any world that has grown. -/
theorem DC.famCall (h : DC w T r) {f : Fam} {k : Nat} (hk : ∀ code, LookOut r.fams RF.nm f.nm code → code = (k : Int)) (V : World) (g : w.grownBy V none) :
    Calls Tryz.prog 83 #[.pointer (some ⟨r.b, 0, none⟩), .string (B f.nm)] V fun e w' => e = .returned (.int .i64 (k : Int)) ∧ w' = V :=
  (refFamily_any r f.nm V (h.at_.gb g) (by have := h.flen; omega)).mono fun e w' ⟨h1, code, h2, h3⟩ => ⟨by rw [h2, hk code h3], h1⟩
theorem DC.serCall (h : DC w T r) {p : List UInt8} {k : Nat} (hk : ∀ code, LookOut r.ser RSer.text p code → code = (k : Int)) (V : World) (g : w.grownBy V none) :
    Calls Tryz.prog 85 #[.pointer (some ⟨r.b, 0, none⟩), .string (B p)] V fun e w' => e = .returned (.int .i64 (k : Int)) ∧ w' = V :=
  (refSeries_any r p V (h.at_.gb g) (by have := h.slen; omega)).mono fun e w' ⟨h1, code, h2, h3⟩ => ⟨by rw [h2, hk code h3], h1⟩
end

end Go.Proofs.YtcfdemhokbddiaaGreatDoor
