/-
  Apart: a series under all orders of its labels (plain facts).
-/
import Derived.Test.YtcfdemhokbddiaaGreatDoorQUk

namespace Go.Proofs.YtcfdemhokbddiaaGreatDoor
open Go.RowKit

/-- A byte that stands for itself in a value. -/
def goodB (c : UInt8) : Prop := c.toNat ≠ 34 ∧ c.toNat ≠ 92 ∧ c.toNat ≠ 10
theorem valP_good : ∀ (v : List UInt8) (r : Nat) (rest : List UInt8), (∀ c ∈ v, goodB c) → v.length ≤ r → valP r (v ++ 34 :: rest) = (some v, rest)
  | [], 0, rest, _, _ => rfl
  | [], r + 1, rest, _, _ => rfl
  | c :: v, 0, rest, _, h => by simp at h
  | c :: v, r + 1, rest, hg, h => by
    have hc := hg c (by simp)
    have ih := valP_good v r rest (fun x hx => hg x (by simp [hx])) (by simpa using h)
    show valP (r + 1) (c :: (v ++ 34 :: rest)) = _
    unfold valP
    rw [if_neg hc.1]
    have hv : vbP (c :: (v ++ 34 :: rest)) = (some c, v ++ 34 :: rest) := if_neg hc.2.1
    rw [hv]
    simp only [ih]
theorem esc_good : ∀ (v : List UInt8), (∀ c ∈ v, goodB c) → v.flatMap escB = v
  | [], _ => rfl
  | c :: v, hg => by
    have hc := hg c (by simp)
    rw [List.flatMap_cons, esc_good v (fun x hx => hg x (by simp [hx]))]
    unfold escB
    rw [if_neg (by rintro (h | h); exact hc.1 h; exact hc.2.1 h), if_neg hc.2.2]
    rfl

/-- A label's text. -/
def LabT (x nm val : List UInt8) : Prop := ∀ rest, labelP (x ++ rest) = (some (nm, val), rest)
def lA (v : List UInt8) : List UInt8 := [97, 61, 34] ++ v ++ [34]
def lB : List UInt8 := [98, 61, 34, 92, 34, 92, 92, 34]
def lC : List UInt8 := [99, 61, 34, 92, 110, 34]
theorem nm1 (rest : List UInt8) : nameLen 0 (97 :: 61 :: rest) = 1 ∧ nameLen 0 (98 :: 61 :: rest) = 1 ∧ nameLen 0 (99 :: 61 :: rest) = 1 := ⟨rfl, rfl, rfl⟩
theorem labA {v : List UInt8} (hg : ∀ c ∈ v, goodB c) (hl : v.length ≤ 16) : LabT (lA v) [97] v := fun rest => by
  have e : lA v ++ rest = 97 :: 61 :: 34 :: (v ++ 34 :: rest) := by simp [lA]
  rw [e]
  unfold labelP
  rw [(nm1 _).1, if_neg (by omega)]
  rw [show takeP 61 (List.drop 1 (97 :: 61 :: 34 :: (v ++ 34 :: rest))) = some (34 :: (v ++ 34 :: rest)) from rfl]
  simp only
  rw [show takeP 34 (34 :: (v ++ 34 :: rest)) = some (v ++ 34 :: rest) from rfl]
  simp only
  rw [valP_good v 16 rest hg hl]
  rfl
theorem labB' : LabT lB [98] [34, 92] := fun _ => rfl
theorem labC' : LabT lC [99] [10] := fun _ => rfl

/-- The text of a series of hits with three labels. -/
def ser3 (x y z : List UInt8) : List UInt8 := [104, 105, 116, 115, 123] ++ x ++ [44] ++ y ++ [44] ++ z ++ [125]
theorem nm4 (rest : List UInt8) : nameLen 0 (104 :: 105 :: 116 :: 115 :: 123 :: rest) = 4 := rfl
theorem series3 {x y z nx ny nz vx vy vz : List UInt8} (hx : LabT x nx vx) (hy : LabT y ny vy) (hz : LabT z nz vz) (N : Nat) : ∃ a b c, seriesP N (ser3 x y z) = (some (nmH, [⟨nx, vx, a⟩, ⟨ny, vy, b⟩, ⟨nz, vz, c⟩]), []) := by
  have e : ser3 x y z = 104 :: 105 :: 116 :: 115 :: 123 :: (x ++ (44 :: (y ++ (44 :: (z ++ [125]))))) := by simp [ser3]
  refine ⟨N - (x ++ (44 :: (y ++ (44 :: (z ++ [125]))))).length, N - (y ++ (44 :: (z ++ [125]))).length, N - (z ++ [125]).length, ?_⟩
  rw [e]
  have hb : bracesP N (123 :: (x ++ (44 :: (y ++ (44 :: (z ++ [125])))))) = (some [⟨nx, vx, N - (x ++ (44 :: (y ++ (44 :: (z ++ [125]))))).length⟩, ⟨ny, vy, N - (y ++ (44 :: (z ++ [125]))).length⟩, ⟨nz, vz, N - (z ++ [125]).length⟩], []) := by
    show labelsP N 2 _ = _
    unfold labelsP
    rw [hx]
    show (match labelsP N 1 (y ++ (44 :: (z ++ [125]))) with | (none, l3) => (none, l3) | (some ls, l3) => (some (_ :: ls), l3)) = _
    unfold labelsP
    rw [hy]
    show (match (match labelsP N 0 (z ++ [125]) with | (none, l3) => (none, l3) | (some ls, l3) => (some (_ :: ls), l3)) with | (none, l3) => (none, l3) | (some ls, l3) => (some (_ :: ls), l3)) = _
    unfold labelsP
    rw [hz]
    rfl
  unfold seriesP
  rw [nm4, if_neg (by omega)]
  show (match bracesP N (123 :: (x ++ (44 :: (y ++ (44 :: (z ++ [125])))))) with | (none, l2) => (none, l2) | (some ls, l2) => if l2.isEmpty then (some (nmH, ls), l2) else (none, l2)) = _
  rw [hb]
  rfl

theorem sort3 {v : List UInt8} {a b c : Nat} : (∃ p q r, (sortP [] 0 [⟨[97], v, a⟩, ⟨[98], [34, 92], b⟩, ⟨[99], [10], c⟩]).1 = some [⟨[97], v, p⟩, ⟨[98], [34, 92], q⟩, ⟨[99], [10], r⟩]) ∧
    (∃ p q r, (sortP [] 0 [⟨[97], v, a⟩, ⟨[99], [10], b⟩, ⟨[98], [34, 92], c⟩]).1 = some [⟨[97], v, p⟩, ⟨[98], [34, 92], q⟩, ⟨[99], [10], r⟩]) ∧
    (∃ p q r, (sortP [] 0 [⟨[98], [34, 92], a⟩, ⟨[97], v, b⟩, ⟨[99], [10], c⟩]).1 = some [⟨[97], v, p⟩, ⟨[98], [34, 92], q⟩, ⟨[99], [10], r⟩]) ∧
    (∃ p q r, (sortP [] 0 [⟨[98], [34, 92], a⟩, ⟨[99], [10], b⟩, ⟨[97], v, c⟩]).1 = some [⟨[97], v, p⟩, ⟨[98], [34, 92], q⟩, ⟨[99], [10], r⟩]) ∧
    (∃ p q r, (sortP [] 0 [⟨[99], [10], a⟩, ⟨[97], v, b⟩, ⟨[98], [34, 92], c⟩]).1 = some [⟨[97], v, p⟩, ⟨[98], [34, 92], q⟩, ⟨[99], [10], r⟩]) ∧
    (∃ p q r, (sortP [] 0 [⟨[99], [10], a⟩, ⟨[98], [34, 92], b⟩, ⟨[97], v, c⟩]).1 = some [⟨[97], v, p⟩, ⟨[98], [34, 92], q⟩, ⟨[99], [10], r⟩]) :=
  ⟨⟨a, b, c, rfl⟩, ⟨a, c, b, rfl⟩, ⟨b, a, c, rfl⟩, ⟨c, a, b, rfl⟩, ⟨b, c, a, rfl⟩, ⟨c, b, a, rfl⟩⟩

theorem read3 {x y z nx ny nz vx vy vz v : List UInt8} (hx : LabT x nx vx) (hy : LabT y ny vy) (hz : LabT z nz vz) (hl : (ser3 x y z).length ≤ 100)
    (hs : ∀ a b c, ∃ p q r, (sortP [] 0 [⟨nx, vx, a⟩, ⟨ny, vy, b⟩, ⟨nz, vz, c⟩]).1 = some [⟨[97], v, p⟩, ⟨[98], [34, 92], q⟩, ⟨[99], [10], r⟩]) (hg : ∀ c ∈ v, goodB c) : Txt 0 (ser3 x y z) (ser3 (lA v) lB lC) := by
  obtain ⟨a, b, c, h1⟩ := series3 hx hy hz (ser3 x y z).length
  obtain ⟨p, q, r, h2⟩ := hs a b c
  have hr : readP (ser3 x y z) = ⟨0, 0, nmH, [⟨[97], v, p⟩, ⟨[98], [34, 92], q⟩, ⟨[99], [10], r⟩]⟩ := by
    unfold readP
    rw [if_neg (by omega), h1]
    show (match sortP [] 0 [⟨nx, vx, a⟩, ⟨ny, vy, b⟩, ⟨nz, vz, c⟩] with | (none, k) => _ | (some r, _) => Told.mk 0 0 nmH r) = _
    obtain ⟨s1, s2, h3⟩ : ∃ s1 s2, sortP [] 0 [⟨nx, vx, a⟩, ⟨ny, vy, b⟩, ⟨nz, vz, c⟩] = (s1, s2) := ⟨_, _, rfl⟩
    rw [h3] at h2 ⊢
    simp only at h2
    subst h2
    rfl
  refine ⟨by rw [hr], by rw [hr]; rfl, ?_⟩
  unfold plainP
  rw [hr]
  show plainB nmH [⟨[97], v, p⟩, ⟨[98], [34, 92], q⟩, ⟨[99], [10], r⟩] = _
  unfold plainB outP labB
  simp only [esc_good v hg]
  simp [outP, labB, ser3, lA, lB, lC, nmH, escB]

end Go.Proofs.YtcfdemhokbddiaaGreatDoor

/-
  Apart: the families as the changes and drops turn them.
-/
namespace Go.Proofs.YtcfdemhokbddiaaGreatDoor
open Go.RowKit

/-- `hits{a="other"}` -/
def otT : List UInt8 := [104, 105, 116, 115, 123, 97, 61, 34, 111, 116, 104, 101, 114, 34, 125]
theorem ot_txt : Txt 0 otT otT := ⟨by kernel_rfl, by kernel_rfl, by kernel_rfl⟩
theorem ser3_len (v : List UInt8) : (ser3 (lA v) lB lC).length = 26 + v.length := by simp [ser3, lA, lB, lC]; omega
theorem ser3_ne (v : List UInt8) : ser3 (lA v) lB lC ≠ otT := fun e => by
  have := congrArg List.length e
  rw [ser3_len] at this
  simp [otT] at this; omega

def AP (P : List UInt8) (i : Nat) : List (List UInt8) := if i = 0 then [P, otT] else []
theorem AP_len (P : List UInt8) (i : Nat) : (AP P i).length ≤ 6 := by unfold AP; split <;> simp
def rows2 (s : List Cnt) : List Fam := [⟨nmH, 1, [], s⟩, ⟨nmL, 2, [], []⟩, ⟨nmW, 3, [10, 100], []⟩]
theorem rows2_kv {P : List UInt8} {s : List Cnt} (h1 : ∀ c ∈ s, c.plain ∈ [P, otT]) (h2 : KSrt lt (s.map Cnt.plain)) : KV (AP P) (rows2 s) := by
  refine ⟨rfl, fun i hi => ?_, fun i hi => ?_, fun i hi => ?_, fun i c hc => ?_, fun f hf => ?_⟩
  · match i, hi with
    | 0, _ => rfl
    | 1, _ => rfl
    | 2, _ => rfl
  · match i, hi with
    | 0, _ => rfl
    | 1, _ => rfl
    | 2, _ => rfl
  · match i, hi with
    | 0, _ => rfl
    | 1, _ => rfl
    | 2, _ => rfl
  · match i, hc with
    | 0, hc => exact h1 c hc
    | 1, hc => exact absurd (show c ∈ ([] : List Cnt) from hc) (by simp)
    | 2, hc => exact absurd (show c ∈ ([] : List Cnt) from hc) (by simp)
    | n + 3, hc => exact absurd (show c ∈ ([] : List Cnt) from hc) (by simp)
  · unfold rows2 at hf
    simp only [List.mem_cons, List.not_mem_nil, or_false] at hf
    rcases hf with rfl | rfl | rfl
    · exact h2
    · exact List.Pairwise.nil
    · exact List.Pairwise.nil

def cP (P : List UInt8) (a : Int) : Cnt := ⟨P, a, 0, U4⟩
/-- Both series, in their order. -/
def both (P : List UInt8) (a : Int) : List Cnt := if lt P otT then [cP P a, cP otT 7] else [cP otT 7, cP P a]
theorem lt_other {P : List UInt8} (hne : P ≠ otT) (h : lt P otT = false) : lt otT P = true := by
  cases h2 : lt otT P with
  | true => rfl
  | false => exact absurd (lt_total _ _ h h2) hne
theorem both_srt {P : List UInt8} (hne : P ≠ otT) (a : Int) : KSrt lt ((both P a).map Cnt.plain) ∧ ∀ c ∈ both P a, c.plain ∈ [P, otT] := by
  unfold both
  cases h : lt P otT with
  | true =>
    simp only [if_true]
    exact ⟨by simp [KSrt, cP, h], by simp [cP]⟩
  | false =>
    simp only [Bool.false_eq_true, if_false]
    exact ⟨by simp [KSrt, cP, lt_other hne h], by simp [cP]⟩
theorem one_kv (P : List UInt8) (a : Int) : KV (AP P) (rows2 [cP P a]) := rows2_kv (by simp [cP]) (srt1 _)
theorem oth_kv (P : List UInt8) : KV (AP P) (rows2 [cP otT 7]) := rows2_kv (by simp [cP]) (srt1 _)
theorem both_kv {P : List UInt8} (hne : P ≠ otT) (a : Int) : KV (AP P) (rows2 (both P a)) := rows2_kv (both_srt hne a).2 (both_srt hne a).1

theorem kf1 (P Q : List UInt8) (hne : P ≠ Q) : kfnd lt P [Q] = false := by
  unfold kfnd kplace
  cases h : lt Q P with
  | true => simp [kplace]
  | false => simpa using fun e : Q = P => hne e.symm
theorem kp1 (P Q : List UInt8) : kplace lt P [Q] = if lt Q P then 1 else 0 := by
  unfold kplace
  cases h : lt Q P <;> simp [kplace]
theorem kself (P : List UInt8) : kfnd lt P [P] = true ∧ kplace lt P [P] = 0 := by
  have : kplace lt P [P] = 0 := by rw [kp1, lt_irrefl]; rfl
  refine ⟨?_, this⟩
  unfold kfnd; rw [this]; simp

section
variable {P : List UInt8}
theorem ap_first {s : List UInt8} (ht : Txt 0 s P) : chgP V0 s 2 = (0, rows2 [cP P 2]) := by
  rw [(chg_kv (A := AP P) (V0_kv _) (AP_len P) 0 (by omega) s P 2 ht (by simp [AP]) (by omega) (fun _ => by omega)).1, chg_new (V := V0) (i := 0) (p := P) (n := 2) (takes_in (by omega) (fun _ => by omega)) rfl (by show ¬ 24 ≤ 0; omega)]
  show (0, rows2 [countP 1 [] 2 (zeroCnt P)]) = _
  unfold countP zeroCnt
  simp [stop_in (n := 2) (by omega), cP, U4]
theorem ap_more {s : List UInt8} (ht : Txt 0 s P) {a : Int} (ha : 0 ≤ a ∧ a ≤ 900000000) {n : Int} (hn : 0 ≤ n ∧ n ≤ 1000) : chgP (rows2 [cP P a]) s n = (0, rows2 [cP P (a + n)]) := by
  rw [(chg_kv (one_kv P a) (AP_len P) 0 (by omega) s P n ht (by simp [AP]) (by omega) (fun _ => hn.1)).1, chg_old (V := rows2 [cP P a]) (i := 0) (p := P) (n := n) (takes_in (by omega) (fun _ => hn.1)) (kself P).1]
  show (0, rows2 (([cP P a] : List Cnt).set (kplace lt P [P]) (countP 1 [] n (([cP P a] : List Cnt).getD (kplace lt P [P]) default)))) = _
  rw [(kself P).2]
  show (0, rows2 [countP 1 [] n (cP P a)]) = _
  unfold countP cP
  simp [stop_in (n := a + n) (by omega)]
theorem ap_other (hne : P ≠ otT) (a : Int) : chgP (rows2 [cP P a]) otT 7 = (0, rows2 (both P a)) := by
  rw [(chg_kv (one_kv P a) (AP_len P) 0 (by omega) otT otT 7 ot_txt (by simp [AP]) (by omega) (fun _ => by omega)).1, chg_new (V := rows2 [cP P a]) (i := 0) (p := otT) (n := 7) (takes_in (by omega) (fun _ => by omega)) (kf1 otT P hne.symm) (by show ¬ 24 ≤ 1; omega)]
  show (0, rows2 (kins [cP P a] (kplace lt otT [P]) (countP 1 [] 7 (zeroCnt otT)))) = _
  have e : countP 1 [] 7 (zeroCnt otT) = cP otT 7 := by
    unfold countP zeroCnt cP
    simp [stop_in (n := 7) (by omega), U4]
  rw [e, kp1]
  unfold both kins
  cases lt P otT <;> rfl
theorem ap_drop (hne : P ≠ otT) (ht : Txt 0 P P) (a : Int) : drpP (rows2 (both P a)) P = (0, rows2 [cP otT 7]) := by
  rw [(drp_kv (both_kv hne a) 0 (by omega) P P ht).1]
  unfold drpAt
  show (if kfnd lt P ((both P a).map Cnt.plain) = false then _ else (0, rows2 (cut1 (both P a) (kplace lt P ((both P a).map Cnt.plain))))) = _
  unfold both
  cases h : lt P otT with
  | true =>
    simp only [if_true]
    have e : kplace lt P (([cP P a, cP otT 7] : List Cnt).map Cnt.plain) = 0 := by simp [kplace, cP, lt_irrefl]
    have e2 : kfnd lt P (([cP P a, cP otT 7] : List Cnt).map Cnt.plain) = true := by unfold kfnd; rw [e]; simp [cP]
    rw [e2, e, if_neg (by simp)]
    rfl
  | false =>
    simp only [Bool.false_eq_true, if_false]
    have e : kplace lt P (([cP otT 7, cP P a] : List Cnt).map Cnt.plain) = 1 := by simp [kplace, cP, lt_irrefl, lt_other hne h]
    have e2 : kfnd lt P (([cP otT 7, cP P a] : List Cnt).map Cnt.plain) = true := by unfold kfnd; rw [e]; simp [cP]
    rw [e2, e, if_neg (by simp)]
    rfl
theorem ap_gone (hne : P ≠ otT) (ht : Txt 0 P P) : drpP (rows2 [cP otT 7]) P = (6, rows2 [cP otT 7]) := by
  rw [(drp_kv (oth_kv P) 0 (by omega) P P ht).1]
  unfold drpAt
  exact if_pos (kf1 P otT hne)
theorem ap_anew (hne : P ≠ otT) (ht : Txt 0 P P) : chgP (rows2 [cP otT 7]) P 1 = (0, rows2 (both P 1)) := by
  rw [(chg_kv (oth_kv P) (AP_len P) 0 (by omega) P P 1 ht (by simp [AP]) (by omega) (fun _ => by omega)).1, chg_new (V := rows2 [cP otT 7]) (i := 0) (p := P) (n := 1) (takes_in (by omega) (fun _ => by omega)) (kf1 P otT hne) (by show ¬ 24 ≤ 1; omega)]
  show (0, rows2 (kins [cP otT 7] (kplace lt P [otT]) (countP 1 [] 1 (zeroCnt P)))) = _
  have e : countP 1 [] 1 (zeroCnt P) = cP P 1 := by
    unfold countP zeroCnt cP
    simp [stop_in (n := 1) (by omega), U4]
  rw [e, kp1]
  unfold both kins
  cases h : lt P otT with
  | true => rw [lt_asymm _ _ h]; rfl
  | false => rw [lt_other hne h]; rfl
theorem ap_lines (a : Int) : (linesP (rows2 (both P a))).length = 5 ∧ P ++ [32] ++ Lib.itoa a ∈ linesP (rows2 (both P a)) ∧ otT ++ [32] ++ Lib.itoa 7 ∈ linesP (rows2 (both P a)) := by
  have hm : cP P a ∈ both P a ∧ cP otT 7 ∈ both P a ∧ (both P a).length = 2 := by
    unfold both
    split <;> simp
  refine ⟨?_, ?_, ?_⟩
  · rw [lines_len]
    show 1 + (both P a).length * 1 + (1 + 0 + (1 + 0 + 0)) = 5
    rw [hm.2.2]
  · exact last_line (V := rows2 (both P a)) (f := ⟨nmH, 1, [], both P a⟩) (c := cP P a) (by simp [rows2]) hm.1
  · exact last_line (V := rows2 (both P a)) (f := ⟨nmH, 1, [], both P a⟩) (c := cP otT 7) (by simp [rows2]) hm.2.1
end

end Go.Proofs.YtcfdemhokbddiaaGreatDoor

/-
  Apart: the value out of the text that is handed in (the first loop).
-/
namespace Go.Proofs.YtcfdemhokbddiaaGreatDoor
open Go.RowKit

def goodD (c : UInt8) : Bool := decide (c.toNat ≠ 34) && decide (c.toNat ≠ 92) && decide (c.toNat ≠ 10)
def vOf (s : ByteArray) (i : Nat) : List UInt8 := (s.data.toList.take i).filter goodD
theorem vOf_zero (s : ByteArray) : vOf s 0 = [] := by simp [vOf]
theorem take_snoc (s : ByteArray) (i : Nat) (h : i < s.size) : s.data.toList.take (i + 1) = s.data.toList.take i ++ [s[i]] := by
  rw [List.take_add_one, List.getElem?_eq_getElem (by simpa using h)]; rfl
theorem vOf_in (s : ByteArray) (i : Nat) (h : i < s.size) (hg : goodD s[i] = true) : vOf s (i + 1) = vOf s i ++ [s[i]] := by
  unfold vOf
  rw [take_snoc s i h, List.filter_append]; simp [hg]
theorem vOf_out (s : ByteArray) (i : Nat) (h : i < s.size) (hg : goodD s[i] = false) : vOf s (i + 1) = vOf s i := by
  unfold vOf
  rw [take_snoc s i h, List.filter_append]; simp [hg]
theorem vOf_good (s : ByteArray) (i : Nat) : ∀ c ∈ vOf s i, goodB c := fun c hc => by
  have := (List.mem_filter.1 hc).2
  simp [goodD] at this
  exact ⟨this.1.1, this.1.2, this.2⟩
theorem vOf_len (s : ByteArray) (i : Nat) : (vOf s i).length ≤ i := by
  have h1 := List.length_filter_le goodD (s.data.toList.take i)
  have h2 := List.length_take_le i s.data.toList
  unfold vOf; omega
theorem ex1 (s : ByteArray) (i : Nat) (h : i < s.size) : s.extract i (i + 1) = B [s[i]] := by
  rw [extract_B, drop_cons s i h]; rfl

/-- The three labels' texts, in a block of their own. -/
structure LB3 (bl : Nat) (V : List UInt8) (t : GT) (w : World) : Prop where
  at_ : w.heap[bl]? = some (.cells #[.string (B (lA V)), .string ⟨#[98, 61, 34, 92, 34, 92, 92, 34]⟩, .string ⟨#[99, 61, 34, 92, 110, 34]⟩] 9)
  far : bl ∉ t.own
theorem LB3.stp {base m bl : Nat} {V : List UInt8} {t t' : GT} {w w' : World} (h : LB3 bl V t w) (hs : Stp base m t t' w w') : LB3 bl V t' w' :=
  ⟨by rw [hs.kept.block bl (lt_of h.at_) h.far]; exact h.at_, fun hm => by
    rcases hs.sub bl hm with h1 | h1
    · exact h.far h1
    · have := lt_of h.at_; omega⟩
theorem LB3.gb {bl : Nat} {V : List UInt8} {t : GT} {w w' : World} (h : LB3 bl V t w) (hg : w.grownBy w' none) : LB3 bl V t w' :=
  ⟨by rw [hg.block bl (lt_of h.at_) (by simp)]; exact h.at_, h.far⟩
theorem LB3.cells {bl : Nat} {V : List UInt8} {t : GT} {w : World} (h : LB3 bl V t w) : w.cell? ⟨bl, 0, none⟩ = some (.string (B (lA V))) ∧ w.cell? ⟨bl, 1, none⟩ = some (.string ⟨#[98, 61, 34, 92, 34, 92, 92, 34]⟩) ∧ w.cell? ⟨bl, 2, none⟩ = some (.string ⟨#[99, 61, 34, 92, 110, 34]⟩) := by
  unfold World.cell?
  simp only [h.at_]
  exact ⟨rfl, rfl, rfl⟩
/-- Where the second loop has come. -/
def apV (P : List UInt8) (i : Nat) : List Fam := if i = 0 then V0 else rows2 [cP P (2 * (i : Int))]
theorem ap_step {P s : List UInt8} (ht : Txt 0 s P) (i : Nat) (hi : i ≤ 1048577) : chgP (apV P i) s 2 = (0, apV P (i + 1)) := by
  unfold apV
  by_cases h : i = 0
  · subst h
    rw [if_pos rfl, ap_first ht]; rfl
  · rw [if_neg h, if_neg (by omega), ap_more ht (by omega) (by omega)]
    rw [show 2 * (i : Int) + 2 = 2 * ((i + 1 : Nat) : Int) by omega]
def ApI (base bl : Nat) (V P : List UInt8) (b : Nat) (w : World) (i : Nat) (wr : World) : Prop :=
  ∃ t', Bd base i wr t' ∧ t'.b = b ∧ Below base w wr ∧ t'.rview = [none, none, none] ∧ t'.view = apV P i ∧ LB3 bl V t' wr

end Go.Proofs.YtcfdemhokbddiaaGreatDoor

/-
  Apart: the six orders of three labels.
-/
namespace Go.Proofs.YtcfdemhokbddiaaGreatDoor
open Go.RowKit

/-- The six orders, laid out. -/
def perms (w : World) : World := (((((((w.alloc (.cells #[.int .i64 0, .int .i64 1, .int .i64 2] 3)).alloc (.cells #[.int .i64 0, .int .i64 2, .int .i64 1] 3)).alloc (.cells #[.int .i64 1, .int .i64 0, .int .i64 2] 3)).alloc (.cells #[.int .i64 1, .int .i64 2, .int .i64 0] 3)).alloc (.cells #[.int .i64 2, .int .i64 0, .int .i64 1] 3)).alloc (.cells #[.int .i64 2, .int .i64 1, .int .i64 0] 3)).alloc (.cells #[.slice (some ⟨w.heap.size, 0, none⟩) 3 3, .slice (some ⟨w.heap.size + 1, 0, none⟩) 3 3, .slice (some ⟨w.heap.size + 1 + 1, 0, none⟩) 3 3, .slice (some ⟨w.heap.size + 1 + 1 + 1, 0, none⟩) 3 3, .slice (some ⟨w.heap.size + 1 + 1 + 1 + 1, 0, none⟩) 3 3, .slice (some ⟨w.heap.size + 1 + 1 + 1 + 1 + 1, 0, none⟩) 3 3] 26))
theorem perms_def (w : World) : perms w = (((((((w.alloc (.cells #[.int .i64 0, .int .i64 1, .int .i64 2] 3)).alloc (.cells #[.int .i64 0, .int .i64 2, .int .i64 1] 3)).alloc (.cells #[.int .i64 1, .int .i64 0, .int .i64 2] 3)).alloc (.cells #[.int .i64 1, .int .i64 2, .int .i64 0] 3)).alloc (.cells #[.int .i64 2, .int .i64 0, .int .i64 1] 3)).alloc (.cells #[.int .i64 2, .int .i64 1, .int .i64 0] 3)).alloc (.cells #[.slice (some ⟨w.heap.size, 0, none⟩) 3 3, .slice (some ⟨w.heap.size + 1, 0, none⟩) 3 3, .slice (some ⟨w.heap.size + 1 + 1, 0, none⟩) 3 3, .slice (some ⟨w.heap.size + 1 + 1 + 1, 0, none⟩) 3 3, .slice (some ⟨w.heap.size + 1 + 1 + 1 + 1, 0, none⟩) 3 3, .slice (some ⟨w.heap.size + 1 + 1 + 1 + 1 + 1, 0, none⟩) 3 3] 26)) := rfl
theorem perms_gb (w : World) : w.grownBy (perms w) none := by
  unfold perms
  exact gb_alloc (gb_alloc (gb_alloc (gb_alloc (gb_alloc (gb_alloc (gb_alloc (gb_refl _ _) _) _) _) _) _) _) _
theorem perms_out (w : World) (k : Nat) (hk : k < 6) : (perms w).cell? ⟨w.heap.size + 1 + 1 + 1 + 1 + 1 + 1, k, none⟩ = some (.slice (some ⟨w.heap.size + k, 0, none⟩) 3 3) := by
  have hb := alloc_new (((((((w.alloc (.cells #[.int .i64 0, .int .i64 1, .int .i64 2] 3)).alloc (.cells #[.int .i64 0, .int .i64 2, .int .i64 1] 3)).alloc (.cells #[.int .i64 1, .int .i64 0, .int .i64 2] 3)).alloc (.cells #[.int .i64 1, .int .i64 2, .int .i64 0] 3)).alloc (.cells #[.int .i64 2, .int .i64 0, .int .i64 1] 3)).alloc (.cells #[.int .i64 2, .int .i64 1, .int .i64 0] 3))) (.cells #[.slice (some ⟨w.heap.size, 0, none⟩) 3 3, .slice (some ⟨w.heap.size + 1, 0, none⟩) 3 3, .slice (some ⟨w.heap.size + 1 + 1, 0, none⟩) 3 3, .slice (some ⟨w.heap.size + 1 + 1 + 1, 0, none⟩) 3 3, .slice (some ⟨w.heap.size + 1 + 1 + 1 + 1, 0, none⟩) 3 3, .slice (some ⟨w.heap.size + 1 + 1 + 1 + 1 + 1, 0, none⟩) 3 3] 26) (w.heap.size + 1 + 1 + 1 + 1 + 1 + 1) (by simp)
  have hb' : (perms w).heap[w.heap.size + 1 + 1 + 1 + 1 + 1 + 1]? = some (.cells #[.slice (some ⟨w.heap.size, 0, none⟩) 3 3, .slice (some ⟨w.heap.size + 1, 0, none⟩) 3 3, .slice (some ⟨w.heap.size + 1 + 1, 0, none⟩) 3 3, .slice (some ⟨w.heap.size + 1 + 1 + 1, 0, none⟩) 3 3, .slice (some ⟨w.heap.size + 1 + 1 + 1 + 1, 0, none⟩) 3 3, .slice (some ⟨w.heap.size + 1 + 1 + 1 + 1 + 1, 0, none⟩) 3 3] 26) := hb
  unfold World.cell?
  simp only [hb']
  match k, hk with
  | 0, _ => rfl
  | 1, _ => rfl
  | 2, _ => rfl
  | 3, _ => rfl
  | 4, _ => rfl
  | 5, _ => rfl

def ordA (k : Nat) : Nat := if k < 2 then 0 else if k < 4 then 1 else 2
def ordB (k : Nat) : Nat := if k = 0 then 1 else if k = 1 then 2 else if k = 2 then 0 else if k = 3 then 2 else if k = 4 then 0 else 1
def ordC (k : Nat) : Nat := if k = 0 then 2 else if k = 1 then 1 else if k = 2 then 2 else if k = 3 then 0 else if k = 4 then 1 else 0
def labN (V : List UInt8) (a : Nat) : List UInt8 := if a = 0 then lA V else if a = 1 then lB else lC
theorem ord_lt (k : Nat) : ordA k < 3 ∧ ordB k < 3 ∧ ordC k < 3 := by
  unfold ordA ordB ordC
  refine ⟨?_, ?_, ?_⟩ <;> (repeat' split) <;> omega
theorem labN_len {V : List UInt8} (hV : V.length ≤ 8) (a : Nat) : (labN V a).length ≤ 12 := by
  unfold labN
  split
  · simp [lA]; omega
  · split <;> simp [lB, lC]
theorem labN_at {bl : Nat} {V : List UInt8} {t : GT} {w : World} (h : LB3 bl V t w) (a : Nat) (ha : a < 3) : w.cell? ⟨bl, a, none⟩ = some (.string (B (labN V a))) := by
  obtain ⟨h1, h2, h3⟩ := h.cells
  match a, ha with
  | 0, _ => exact h1
  | 1, _ => exact h2
  | 2, _ => exact h3
theorem ord_txt {V : List UInt8} (hV : V.length ≤ 8) (hg : ∀ c ∈ V, goodB c) (k : Nat) (hk : k < 6) : Txt 0 (ser3 (labN V (ordA k)) (labN V (ordB k)) (labN V (ordC k))) (ser3 (lA V) lB lC) := by
  have hA := labA hg (by omega)
  have hl : ∀ x y z : List UInt8, x.length ≤ 12 → y.length ≤ 12 → z.length ≤ 12 → (ser3 x y z).length ≤ 100 := fun x y z h1 h2 h3 => by simp [ser3]; omega
  have l1 : (lA V).length ≤ 12 := labN_len hV 0
  have l2 : lB.length ≤ 12 := labN_len hV 1
  have l3 : lC.length ≤ 12 := labN_len hV 2
  match k, hk with
  | 0, _ => exact read3 hA labB' labC' (hl _ _ _ l1 l2 l3) (fun a b c => sort3.1) hg
  | 1, _ => exact read3 hA labC' labB' (hl _ _ _ l1 l3 l2) (fun a b c => sort3.2.1) hg
  | 2, _ => exact read3 labB' hA labC' (hl _ _ _ l2 l1 l3) (fun a b c => sort3.2.2.1) hg
  | 3, _ => exact read3 labB' labC' hA (hl _ _ _ l2 l3 l1) (fun a b c => sort3.2.2.2.1) hg
  | 4, _ => exact read3 labC' hA labB' (hl _ _ _ l3 l1 l2) (fun a b c => sort3.2.2.2.2.1) hg
  | 5, _ => exact read3 labC' labB' hA (hl _ _ _ l3 l2 l1) (fun a b c => sort3.2.2.2.2.2) hg
theorem perms_in (w : World) (k : Nat) (hk : k < 6) : (perms w).cell? ⟨w.heap.size + k, 0, none⟩ = some (.int .i64 (ordA k : Int)) ∧ (perms w).cell? ⟨w.heap.size + k, 1, none⟩ = some (.int .i64 (ordB k : Int)) ∧ (perms w).cell? ⟨w.heap.size + k, 2, none⟩ = some (.int .i64 (ordC k : Int)) := by
  have h : ∀ k, k < 6 → (perms w).heap[w.heap.size + k]? = some (.cells #[.int .i64 (ordA k : Int), .int .i64 (ordB k : Int), .int .i64 (ordC k : Int)] 3) := fun k hk => by
    match k, hk with
    | 0, _ =>
      have h1 : (w.alloc (.cells #[.int .i64 0, .int .i64 1, .int .i64 2] 3)).heap[w.heap.size + 0]? = some (.cells #[.int .i64 0, .int .i64 1, .int .i64 2] 3) := alloc_new w _ _ (by simp)
      have g : (w.alloc (.cells #[.int .i64 0, .int .i64 1, .int .i64 2] 3)).grownBy (perms w) none := gb_alloc (gb_alloc (gb_alloc (gb_alloc (gb_alloc (gb_alloc (gb_refl _ _) _) _) _) _) _) _
      exact (g.block _ (lt_of h1) (by simp)).trans h1
    | 1, _ =>
      have h1 : ((w.alloc (.cells #[.int .i64 0, .int .i64 1, .int .i64 2] 3)).alloc (.cells #[.int .i64 0, .int .i64 2, .int .i64 1] 3)).heap[w.heap.size + 1]? = some (.cells #[.int .i64 0, .int .i64 2, .int .i64 1] 3) := alloc_new (w.alloc (.cells #[.int .i64 0, .int .i64 1, .int .i64 2] 3)) _ _ (by simp)
      have g : ((w.alloc (.cells #[.int .i64 0, .int .i64 1, .int .i64 2] 3)).alloc (.cells #[.int .i64 0, .int .i64 2, .int .i64 1] 3)).grownBy (perms w) none := gb_alloc (gb_alloc (gb_alloc (gb_alloc (gb_alloc (gb_refl _ _) _) _) _) _) _
      exact (g.block _ (lt_of h1) (by simp)).trans h1
    | 2, _ =>
      have h1 : (((w.alloc (.cells #[.int .i64 0, .int .i64 1, .int .i64 2] 3)).alloc (.cells #[.int .i64 0, .int .i64 2, .int .i64 1] 3)).alloc (.cells #[.int .i64 1, .int .i64 0, .int .i64 2] 3)).heap[w.heap.size + 2]? = some (.cells #[.int .i64 1, .int .i64 0, .int .i64 2] 3) := alloc_new ((w.alloc (.cells #[.int .i64 0, .int .i64 1, .int .i64 2] 3)).alloc (.cells #[.int .i64 0, .int .i64 2, .int .i64 1] 3)) _ _ (by simp)
      have g : (((w.alloc (.cells #[.int .i64 0, .int .i64 1, .int .i64 2] 3)).alloc (.cells #[.int .i64 0, .int .i64 2, .int .i64 1] 3)).alloc (.cells #[.int .i64 1, .int .i64 0, .int .i64 2] 3)).grownBy (perms w) none := gb_alloc (gb_alloc (gb_alloc (gb_alloc (gb_refl _ _) _) _) _) _
      exact (g.block _ (lt_of h1) (by simp)).trans h1
    | 3, _ =>
      have h1 : ((((w.alloc (.cells #[.int .i64 0, .int .i64 1, .int .i64 2] 3)).alloc (.cells #[.int .i64 0, .int .i64 2, .int .i64 1] 3)).alloc (.cells #[.int .i64 1, .int .i64 0, .int .i64 2] 3)).alloc (.cells #[.int .i64 1, .int .i64 2, .int .i64 0] 3)).heap[w.heap.size + 3]? = some (.cells #[.int .i64 1, .int .i64 2, .int .i64 0] 3) := alloc_new (((w.alloc (.cells #[.int .i64 0, .int .i64 1, .int .i64 2] 3)).alloc (.cells #[.int .i64 0, .int .i64 2, .int .i64 1] 3)).alloc (.cells #[.int .i64 1, .int .i64 0, .int .i64 2] 3)) _ _ (by simp)
      have g : ((((w.alloc (.cells #[.int .i64 0, .int .i64 1, .int .i64 2] 3)).alloc (.cells #[.int .i64 0, .int .i64 2, .int .i64 1] 3)).alloc (.cells #[.int .i64 1, .int .i64 0, .int .i64 2] 3)).alloc (.cells #[.int .i64 1, .int .i64 2, .int .i64 0] 3)).grownBy (perms w) none := gb_alloc (gb_alloc (gb_alloc (gb_refl _ _) _) _) _
      exact (g.block _ (lt_of h1) (by simp)).trans h1
    | 4, _ =>
      have h1 : (((((w.alloc (.cells #[.int .i64 0, .int .i64 1, .int .i64 2] 3)).alloc (.cells #[.int .i64 0, .int .i64 2, .int .i64 1] 3)).alloc (.cells #[.int .i64 1, .int .i64 0, .int .i64 2] 3)).alloc (.cells #[.int .i64 1, .int .i64 2, .int .i64 0] 3)).alloc (.cells #[.int .i64 2, .int .i64 0, .int .i64 1] 3)).heap[w.heap.size + 4]? = some (.cells #[.int .i64 2, .int .i64 0, .int .i64 1] 3) := alloc_new ((((w.alloc (.cells #[.int .i64 0, .int .i64 1, .int .i64 2] 3)).alloc (.cells #[.int .i64 0, .int .i64 2, .int .i64 1] 3)).alloc (.cells #[.int .i64 1, .int .i64 0, .int .i64 2] 3)).alloc (.cells #[.int .i64 1, .int .i64 2, .int .i64 0] 3)) _ _ (by simp)
      have g : (((((w.alloc (.cells #[.int .i64 0, .int .i64 1, .int .i64 2] 3)).alloc (.cells #[.int .i64 0, .int .i64 2, .int .i64 1] 3)).alloc (.cells #[.int .i64 1, .int .i64 0, .int .i64 2] 3)).alloc (.cells #[.int .i64 1, .int .i64 2, .int .i64 0] 3)).alloc (.cells #[.int .i64 2, .int .i64 0, .int .i64 1] 3)).grownBy (perms w) none := gb_alloc (gb_alloc (gb_refl _ _) _) _
      exact (g.block _ (lt_of h1) (by simp)).trans h1
    | 5, _ =>
      have h1 : ((((((w.alloc (.cells #[.int .i64 0, .int .i64 1, .int .i64 2] 3)).alloc (.cells #[.int .i64 0, .int .i64 2, .int .i64 1] 3)).alloc (.cells #[.int .i64 1, .int .i64 0, .int .i64 2] 3)).alloc (.cells #[.int .i64 1, .int .i64 2, .int .i64 0] 3)).alloc (.cells #[.int .i64 2, .int .i64 0, .int .i64 1] 3)).alloc (.cells #[.int .i64 2, .int .i64 1, .int .i64 0] 3)).heap[w.heap.size + 5]? = some (.cells #[.int .i64 2, .int .i64 1, .int .i64 0] 3) := alloc_new (((((w.alloc (.cells #[.int .i64 0, .int .i64 1, .int .i64 2] 3)).alloc (.cells #[.int .i64 0, .int .i64 2, .int .i64 1] 3)).alloc (.cells #[.int .i64 1, .int .i64 0, .int .i64 2] 3)).alloc (.cells #[.int .i64 1, .int .i64 2, .int .i64 0] 3)).alloc (.cells #[.int .i64 2, .int .i64 0, .int .i64 1] 3)) _ _ (by simp)
      have g : ((((((w.alloc (.cells #[.int .i64 0, .int .i64 1, .int .i64 2] 3)).alloc (.cells #[.int .i64 0, .int .i64 2, .int .i64 1] 3)).alloc (.cells #[.int .i64 1, .int .i64 0, .int .i64 2] 3)).alloc (.cells #[.int .i64 1, .int .i64 2, .int .i64 0] 3)).alloc (.cells #[.int .i64 2, .int .i64 0, .int .i64 1] 3)).alloc (.cells #[.int .i64 2, .int .i64 1, .int .i64 0] 3)).grownBy (perms w) none := gb_alloc (gb_refl _ _) _
      exact (g.block _ (lt_of h1) (by simp)).trans h1
  unfold World.cell?
  simp only [h k hk]
  exact ⟨rfl, rfl, rfl⟩

end Go.Proofs.YtcfdemhokbddiaaGreatDoor

/-
  Apart: what comes behind the second loop.
-/
namespace Go.Proofs.YtcfdemhokbddiaaGreatDoor
open Go.RowKit

/-- A board with rows of texts beside it. -/
def ApT (base b : Nat) (w : World) (m : Nat) (V : List Fam) (R : List (Nat × Value × List (List UInt8))) (wr : World) : Prop :=
  ∃ t, Bd base m wr t ∧ t.b = b ∧ Below base w wr ∧ t.rview = [none, none, none] ∧ t.view = V ∧ ∀ r ∈ R, Row t wr r.1 r.2.1 r.2.2

theorem ApI.tail {base bl : Nat} {V P : List UInt8} {b : Nat} {w : World} {i : Nat} {wr : World} (h : ApI base bl V P b w i wr) (hi : i ≠ 0) : ApT base b w i (rows2 [cP P (2 * (i : Int))]) [] wr := by
  obtain ⟨t, h1, h2, h3, h4, h5, h6⟩ := h
  refine ⟨t, h1, h2, h3, h4, ?_, by simp⟩
  rw [h5]; unfold apV; rw [if_neg hi]

section
variable {base b : Nat} {w : World} {m : Nat} {V : List Fam} {R : List (Nat × Value × List (List UInt8))} {wr : World}
theorem ApT.gb {w' : World} (h : ApT base b w m V R wr) (hg : wr.grownBy w' none) : ApT base b w m V R w' := by
  obtain ⟨t, h1, h2, h3, h4, h5, h6⟩ := h
  exact ⟨t, h1.gb hg, h2, h3.trans (gb_below hg h1.size), h4, h5, fun r hr => (h6 r hr).gb hg⟩
theorem ApT.chg (h : ApT base b w m V R wr) {s : List UInt8} {n code : Int} {V' : List Fam} (hc : chgP V s n = (code, V')) (hm : m ≤ 4611686018427387904) :
    Calls Tryz.prog 20 #[.pointer (some ⟨b, 0, none⟩), .string (B s), .int .i64 n] wr fun e w' => e = .returned (.int .i64 code) ∧ ApT base b w (m + 1) V' R w' := by
  obtain ⟨t, h1, h2, h3, h4, h5, h6⟩ := h
  have hcc := cChange h1 (B s) n hm
  rw [h2, h5, data_B, hc] at hcc
  refine hcc.mono fun e w' ⟨t', code', he, hst, hr, hv⟩ => ?_
  simp only [Prod.mk.injEq] at hv
  obtain ⟨rfl, hv⟩ := hv
  exact ⟨he, t', hst.bd, hst.b.trans h2, h3.trans (hst.below h1.low h1.size), hr.trans h4, hv, fun r hr => (h6 r hr).stp hst⟩
theorem ApT.drp (h : ApT base b w m V R wr) {s : List UInt8} {code : Int} {V' : List Fam} (hc : drpP V s = (code, V')) :
    Calls Tryz.prog 27 #[.pointer (some ⟨b, 0, none⟩), .string (B s)] wr fun e w' => e = .returned (.int .i64 code) ∧ ApT base b w m V' R w' := by
  obtain ⟨t, h1, h2, h3, h4, h5, h6⟩ := h
  have hcc := cDrop h1 (B s)
  rw [h2, h5, data_B, hc] at hcc
  refine hcc.mono fun e w' ⟨t', code', he, hst, hr, hv⟩ => ?_
  simp only [Prod.mk.injEq] at hv
  obtain ⟨rfl, hv⟩ := hv
  exact ⟨he, t', hst.bd, hst.b.trans h2, h3.trans (hst.below h1.low h1.size), hr.trans h4, hv, fun r hr => (h6 r hr).stp hst⟩
theorem ApT.whole (h : ApT base b w m V R wr) {n : Nat} (hn : (linesP V).length = n) (hn9 : n ≤ 99) (hm : m + 1 ≤ 4611686018427387904) :
    Calls Tryz.prog 14 #[.pointer (some ⟨b, 0, none⟩), .int .i64 20] wr fun e w' => ∃ sa cap, e = .returned (.tuple #[.slice sa n cap, .bool true]) ∧ ∃ s, ApT base b w (m + 1) V ((s, .slice sa n cap, linesP V) :: R) w' := by
  obtain ⟨t, h1, h2, h3, h4, h5, h6⟩ := h
  have hw := whole_any base m 0 t 20 wr h1 hm (by rw [h4]; rfl) (by omega) (by rw [h5, hn]; exact hn9) ⟨by omega, by omega⟩
  rw [h2, h5] at hw
  refine hw.mono fun e w' ⟨t', v, he, hst, hv, hr, hrow, hfar⟩ => ?_
  obtain ⟨la, lc, rfl, _, _⟩ := own_shape1 hrow
  rw [hn] at he
  refine ⟨la, lc, he, wr.heap.size, t', hst.bd, hst.b.trans h2, h3.trans (hst.below h1.low h1.size), hr.trans h4, hv, fun r hr => ?_⟩
  rcases List.mem_cons.1 hr with rfl | hr
  · exact ⟨by rw [← hn]; exact hrow, by rw [← hn]; exact hfar⟩
  · exact (h6 r hr).stp hst
theorem ApT.itoa (h : ApT base b w m V R wr) (n : Int) (hn : I64 n) : Calls Tryz.prog 24 #[.int .i64 n] wr fun e w' => e = .returned (.string (B (Lib.itoa n))) ∧ ApT base b w m V R w' := by
  obtain ⟨t, h1, h2, h3, h4, h5, h6⟩ := id h
  exact (itoa_any n hn wr h1.tab).mono fun e w' ⟨he, hg⟩ => ⟨he, h.gb hg⟩
theorem ApT.inn (h : ApT base b w m V R wr) {r : Nat × Value × List (List UInt8)} (hr : r ∈ R) (hl : r.2.2.length ≤ 100000) {x : List UInt8} (hx : x ∈ r.2.2) : Calls Tryz.prog 21 #[r.2.1, .string (B x)] wr fun e w' => e = .returned (.bool true) ∧ w' = wr := by
  obtain ⟨t, h1, h2, h3, h4, h5, h6⟩ := h
  exact in_any r.2.1 r.2.2 x wr (h6 r hr).strAt hl hx
theorem ApT.below (h : ApT base b w m V R wr) : Below base w wr := h.choose_spec.2.2.1
end
theorem otB : B otT = ⟨#[104, 105, 116, 115, 123, 97, 61, 34, 111, 116, 104, 101, 114, 34, 125]⟩ := by kernel_rfl
theorem otB7 : B (otT ++ [32] ++ Lib.itoa 7) = ⟨#[104, 105, 116, 115, 123, 97, 61, 34, 111, 116, 104, 101, 114, 34, 125, 32, 55]⟩ := by kernel_rfl
theorem itoa1 : Lib.itoa 1 = [49] := by kernel_rfl
end Go.Proofs.YtcfdemhokbddiaaGreatDoor
