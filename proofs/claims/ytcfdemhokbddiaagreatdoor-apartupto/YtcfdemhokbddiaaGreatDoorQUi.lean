/-
  Sums: what is counted adds up. The families as the numbers change them.
-/
import Derived.Test.YtcfdemhokbddiaaGreatDoorQUh

namespace Go.Proofs.YtcfdemhokbddiaaGreatDoor
open Go.RowKit

def hxT : List UInt8 := [104, 105, 116, 115, 123, 120, 61, 34, 34, 125]
def wyT : List UInt8 := [119, 97, 105, 116, 123, 121, 61, 34, 97, 32, 98, 34, 125]
theorem hx_txt : Txt 0 hxT hxT := ⟨by kernel_rfl, by kernel_rfl, by kernel_rfl⟩
theorem ld_txt : Txt 1 nmL nmL := ⟨by kernel_rfl, by kernel_rfl, by kernel_rfl⟩
theorem wy_txt : Txt 2 wyT wyT := ⟨by kernel_rfl, by kernel_rfl, by kernel_rfl⟩
def SA (i : Nat) : List (List UInt8) := if i = 0 then [hxT] else if i = 1 then [nmL] else [wyT]
theorem SA_len (i : Nat) : (SA i).length ≤ 6 := by unfold SA; split <;> (try split) <;> simp
def U4 : List Int := [0, 0, 0, 0]
def sumV : Nat → Int → Int → Int → Int → List Fam
  | 0, _, _, _, _ => V0
  | k + 1, s, l, t, h => [⟨nmH, 1, [], [⟨hxT, s, 0, U4⟩]⟩, ⟨nmL, 2, [], [⟨nmL, l, 0, U4⟩]⟩, ⟨nmW, 3, [10, 100], [⟨wyT, s - 50 * ((k : Int) + 1), (k : Int) + 1, [t, h, 0, 0]⟩]⟩]
def upN (n lim : Int) : Int := if n - 50 ≤ lim then 1 else 0

theorem srt1 (x : List UInt8) : KSrt lt [x] := List.pairwise_singleton _ _
theorem kv_sum (k : Nat) (s l t h : Int) : KV SA (sumV k s l t h) := by
  cases k with
  | zero => exact V0_kv SA
  | succ k =>
    refine ⟨rfl, fun i hi => ?_, fun i hi => ?_, fun i hi => ?_, fun i c hc => ?_, fun f hf => ?_⟩
    · match i, hi with
      | 0, _ => rfl
      | 1, _ => rfl
      | 2, _ => rfl
    · match i, hi with
      | 0, _ => rfl
      | 1, _ => rfl
      | 2, _ => rfl
    · match i, hi with
      | 0, _ => rfl
      | 1, _ => rfl
      | 2, _ => rfl
    · match i, hc with
      | 0, hc =>
        have : c ∈ ([⟨hxT, s, 0, U4⟩] : List Cnt) := hc
        simp only [List.mem_singleton] at this
        subst this; simp [SA]
      | 1, hc =>
        have : c ∈ ([⟨nmL, l, 0, U4⟩] : List Cnt) := hc
        simp only [List.mem_singleton] at this
        subst this; simp [SA]
      | 2, hc =>
        have : c ∈ ([⟨wyT, s - 50 * ((k : Int) + 1), (k : Int) + 1, [t, h, 0, 0]⟩] : List Cnt) := hc
        simp only [List.mem_singleton] at this
        subst this; simp [SA]
      | n + 3, hc =>
        have : c ∈ ([] : List Cnt) := hc
        cases this
    · unfold sumV at hf
      simp only [List.mem_cons, List.not_mem_nil, or_false] at hf
      rcases hf with rfl | rfl | rfl <;> exact srt1 _

theorem stop_in {n : Int} (h : -1000000000 ≤ n ∧ n ≤ 1000000000) : stopP n = n := by unfold stopP; rw [if_neg (by omega), if_neg (by omega)]
theorem takes_in {kind n : Int} (h : -1000000000 ≤ n ∧ n ≤ 1000000000) (hk : kind = 1 → 0 ≤ n) : ¬ takesB kind n = false := by
  unfold takesB inB
  by_cases e : kind = 1
  · have := hk e; simp [h, this]
  · simp [h, e]
theorem chg_new {V : List Fam} {i : Nat} {p : List UInt8} {n : Int} (h1 : ¬ takesB (V.getD i default).kind n = false) (h2 : kfnd lt p ((V.getD i default).ser.map Cnt.plain) = false) (h3 : ¬ 24 ≤ sizeOfAll V) :
    chgAt V i p n = (0, V.set i { V.getD i default with ser := kins (V.getD i default).ser (kplace lt p ((V.getD i default).ser.map Cnt.plain)) (countP (V.getD i default).kind (V.getD i default).ls n (zeroCnt p)) }) := by
  unfold chgAt
  rw [if_neg h1, if_neg (by rw [h2]; simp), if_neg h3]
theorem chg_old {V : List Fam} {i : Nat} {p : List UInt8} {n : Int} (h1 : ¬ takesB (V.getD i default).kind n = false) (h2 : kfnd lt p ((V.getD i default).ser.map Cnt.plain) = true) :
    chgAt V i p n = (0, V.set i { V.getD i default with ser := (V.getD i default).ser.set (kplace lt p ((V.getD i default).ser.map Cnt.plain)) (countP (V.getD i default).kind (V.getD i default).ls n ((V.getD i default).ser.getD (kplace lt p ((V.getD i default).ser.map Cnt.plain)) default)) }) := by
  unfold chgAt
  rw [if_neg h1, if_pos h2]

theorem up_lims (n a b : Int) : upUs (kplace ltI (n - 50) [10, 100]) 2 [a, b, 0, 0] = [a + upN n 10, b + upN n 100, 0, 0] := by
  unfold upN
  by_cases h1 : n - 50 ≤ 10
  · have e : kplace ltI (n - 50) [10, 100] = 0 := by simp [kplace, ltI]; omega
    rw [e, if_pos h1, if_pos (by omega)]
    rfl
  · by_cases h2 : n - 50 ≤ 100
    · have e : kplace ltI (n - 50) [10, 100] = 1 := by simp [kplace, ltI, show 10 < n - 50 by omega, show ¬ 100 < n - 50 by omega]
      rw [e, if_neg h1, if_pos h2, Int.add_zero]
      rfl
    · have e : kplace ltI (n - 50) [10, 100] = 2 := by simp [kplace, ltI, show 10 < n - 50 by omega, show 100 < n - 50 by omega]
      rw [e, if_neg h1, if_neg h2, Int.add_zero, Int.add_zero]
      rfl

def sumA (k : Nat) (s l t h n : Int) : List Fam := match k with
  | 0 => [⟨nmH, 1, [], [⟨hxT, n, 0, U4⟩]⟩, ⟨nmL, 2, [], []⟩, ⟨nmW, 3, [10, 100], []⟩]
  | k + 1 => [⟨nmH, 1, [], [⟨hxT, s + n, 0, U4⟩]⟩, ⟨nmL, 2, [], [⟨nmL, l, 0, U4⟩]⟩, ⟨nmW, 3, [10, 100], [⟨wyT, s - 50 * ((k : Int) + 1), (k : Int) + 1, [t, h, 0, 0]⟩]⟩]
def sumB (k : Nat) (s t h n : Int) : List Fam := match k with
  | 0 => [⟨nmH, 1, [], [⟨hxT, n, 0, U4⟩]⟩, ⟨nmL, 2, [], [⟨nmL, -n, 0, U4⟩]⟩, ⟨nmW, 3, [10, 100], []⟩]
  | k + 1 => [⟨nmH, 1, [], [⟨hxT, s + n, 0, U4⟩]⟩, ⟨nmL, 2, [], [⟨nmL, -n, 0, U4⟩]⟩, ⟨nmW, 3, [10, 100], [⟨wyT, s - 50 * ((k : Int) + 1), (k : Int) + 1, [t, h, 0, 0]⟩]⟩]
theorem fnd_self : kfnd lt hxT [hxT] = true ∧ kfnd lt nmL [nmL] = true ∧ kfnd lt wyT [wyT] = true := ⟨by kernel_rfl, by kernel_rfl, by kernel_rfl⟩
theorem plc_self : kplace lt hxT [hxT] = 0 ∧ kplace lt nmL [nmL] = 0 ∧ kplace lt wyT [wyT] = 0 := ⟨by kernel_rfl, by kernel_rfl, by kernel_rfl⟩

section
variable {k : Nat} {s l t h n : Int} (hk : k ≤ 1000) (hn : 0 ≤ n ∧ n < 200) (hs : 0 ≤ s ∧ s ≤ 200 * (k : Int))
include hk hn hs
theorem sum_h : chgAt (sumV k s l t h) 0 hxT n = (0, sumA k s l t h n) := by
  cases k with
  | zero =>
    rw [chg_new (V := sumV 0 s l t h) (i := 0) (p := hxT) (n := n) (takes_in (by omega) (fun _ => hn.1)) rfl (by show ¬ 24 ≤ 0; omega)]
    show (0, [Fam.mk nmH 1 [] [countP 1 [] n (zeroCnt hxT)], _, _]) = _
    unfold countP zeroCnt
    simp [stop_in (n := n) (by omega), sumA, U4]
  | succ k =>
    rw [chg_old (takes_in (by omega) (fun _ => hn.1)) (show kfnd lt hxT [hxT] = true from fnd_self.1)]
    show (0, [Fam.mk nmH 1 [] (([⟨hxT, s, 0, U4⟩] : List Cnt).set (kplace lt hxT [hxT]) (countP 1 [] n (([⟨hxT, s, 0, U4⟩] : List Cnt).getD (kplace lt hxT [hxT]) default))), _, _]) = _
    rw [plc_self.1]
    unfold countP
    simp [stop_in (n := s + n) (by omega), sumA]
theorem sum_l : chgAt (sumA k s l t h n) 1 nmL (-n) = (0, sumB k s t h n) := by
  cases k with
  | zero =>
    rw [chg_new (V := sumA 0 s l t h n) (i := 1) (p := nmL) (n := -n) (takes_in (by omega) (fun e => by cases e)) rfl (by show ¬ 24 ≤ 1; omega)]
    show (0, [_, Fam.mk nmL 2 [] [countP 2 [] (-n) (zeroCnt nmL)], _]) = _
    unfold countP zeroCnt
    simp [sumB, U4]
  | succ k =>
    rw [chg_old (takes_in (by omega) (fun e => by cases e)) (show kfnd lt nmL [nmL] = true from fnd_self.2.1)]
    show (0, [_, Fam.mk nmL 2 [] (([⟨nmL, l, 0, U4⟩] : List Cnt).set (kplace lt nmL [nmL]) (countP 2 [] (-n) (([⟨nmL, l, 0, U4⟩] : List Cnt).getD (kplace lt nmL [nmL]) default))), _]) = _
    rw [plc_self.2.1]
    unfold countP
    simp [sumB]
theorem sum_w (h0 : k = 0 → s = 0 ∧ t = 0 ∧ h = 0) : chgAt (sumB k s t h n) 2 wyT (n - 50) = (0, sumV (k + 1) (s + n) (-n) (t + upN n 10) (h + upN n 100)) := by
  cases k with
  | zero =>
    obtain ⟨rfl, rfl, rfl⟩ := h0 rfl
    rw [chg_new (V := sumB 0 0 0 0 n) (i := 2) (p := wyT) (n := n - 50) (takes_in (by omega) (fun e => by cases e)) rfl (by show ¬ 24 ≤ 2; omega)]
    show (0, [_, _, Fam.mk nmW 3 [10, 100] [countP 3 [10, 100] (n - 50) (zeroCnt wyT)]]) = _
    have e : countP 3 [10, 100] (n - 50) (zeroCnt wyT) = ⟨wyT, n - 50, 1, [0 + upN n 10, 0 + upN n 100, 0, 0]⟩ := by
      rw [← up_lims]
      unfold countP zeroCnt
      simp [stop_in (n := n - 50) (by omega)]
    rw [e]
    simp [sumV]
  | succ k =>
    rw [chg_old (takes_in (by omega) (fun e => by cases e)) (show kfnd lt wyT [wyT] = true from fnd_self.2.2)]
    show (0, [_, _, Fam.mk nmW 3 [10, 100] (([⟨wyT, s - 50 * ((k : Int) + 1), (k : Int) + 1, [t, h, 0, 0]⟩] : List Cnt).set (kplace lt wyT [wyT]) (countP 3 [10, 100] (n - 50) (([⟨wyT, s - 50 * ((k : Int) + 1), (k : Int) + 1, [t, h, 0, 0]⟩] : List Cnt).getD (kplace lt wyT [wyT]) default)))]) = _
    rw [plc_self.2.2]
    have e : countP 3 [10, 100] (n - 50) ⟨wyT, s - 50 * ((k : Int) + 1), (k : Int) + 1, [t, h, 0, 0]⟩ = ⟨wyT, s + n - 50 * ((k : Int) + 1 + 1), (k : Int) + 1 + 1, [t + upN n 10, h + upN n 100, 0, 0]⟩ := by
      rw [← up_lims]
      unfold countP
      have e2 : s - 50 * ((k : Int) + 1) + (n - 50) = s + n - 50 * ((k : Int) + 1 + 1) := by omega
      simp [e2, stop_in (n := s + n - 50 * ((k : Int) + 1 + 1)) (by omega)]
    show (0, [_, _, Fam.mk nmW 3 [10, 100] [countP 3 [10, 100] (n - 50) ⟨wyT, s - 50 * ((k : Int) + 1), (k : Int) + 1, [t, h, 0, 0]⟩]]) = _
    rw [e]
    simp [sumV]
end

def t1L : List UInt8 := [35, 32, 104, 105, 116, 115, 32, 99, 111, 117, 110, 116, 101, 114]
def t2L : List UInt8 := [35, 32, 108, 111, 97, 100, 32, 103, 97, 117, 103, 101]
def t3L : List UInt8 := [35, 32, 119, 97, 105, 116, 32, 104, 105, 115, 116, 111, 103, 114, 97, 109]
def wyS : List UInt8 := [119, 97, 105, 116, 123, 121, 61, 34, 97, 32, 98, 34, 125, 32]
theorem titles : titleP nmH 1 = t1L ∧ titleP nmL 2 = t2L ∧ titleP nmW 3 = t3L := ⟨by kernel_rfl, by kernel_rfl, by kernel_rfl⟩
theorem itoas : Lib.itoa 10 = [49, 48] ∧ Lib.itoa 100 = [49, 48, 48] := ⟨by kernel_rfl, by kernel_rfl⟩
theorem sum_lines0 (s l t h : Int) : linesP (sumV 0 s l t h) = [t1L, t2L, t3L] := by
  unfold linesP
  rw [it_lines]
  show [titleP nmH 1, titleP nmL 2, titleP nmW 3] = _
  rw [titles.1, titles.2.1, titles.2.2]
theorem sum_lines (k : Nat) (s l t h : Int) : linesP (sumV (k + 1) s l t h) =
    [t1L, [104, 105, 116, 115, 123, 120, 61, 34, 34, 125, 32] ++ Lib.itoa s, t2L, [108, 111, 97, 100, 32] ++ Lib.itoa l, t3L, wyS ++ [117, 112, 116, 111, 32, 49, 48, 32] ++ Lib.itoa t, wyS ++ [117, 112, 116, 111, 32, 49, 48, 48, 32] ++ Lib.itoa h,
      wyS ++ [97, 108, 108, 32] ++ Lib.itoa ((k : Int) + 1) ++ [32, 115, 117, 109, 32] ++ Lib.itoa (s - 50 * ((k : Int) + 1))] := by
  unfold linesP
  rw [it_lines]
  show [titleP nmH 1, lastP 1 ⟨hxT, s, 0, U4⟩, titleP nmL 2, lastP 2 ⟨nmL, l, 0, U4⟩, titleP nmW 3, uptoP wyT 10 t, uptoP wyT 100 h, lastP 3 ⟨wyT, s - 50 * ((k : Int) + 1), (k : Int) + 1, [t, h, 0, 0]⟩] = _
  rw [titles.1, titles.2.1, titles.2.2]
  unfold lastP uptoP
  rw [itoas.1, itoas.2]
  simp [hxT, nmL, wyT, wyS]

/-- A row of texts, made anew. -/
theorem strAt_alloc (w : World) (ls : List (List UInt8)) (a : Array Value) (c : Nat) (ha : a.toList = strs ls) : StrAt (w.alloc (.cells a 9)) (.slice (some ⟨w.heap.size, 0, none⟩) ls.length c) ls := by
  refine ⟨_, c, rfl, Or.inr ⟨w.heap.size, rfl, fun k hk => ?_⟩⟩
  have hb := alloc_new w (.cells a 9) _ rfl
  unfold World.cell?
  simp only [hb]
  have : a[k]? = some (.string (B ls[k])) := by
    rw [← Array.getElem?_toList, ha]
    simp [strs, hk]
  simpa using this

end Go.Proofs.YtcfdemhokbddiaaGreatDoor
