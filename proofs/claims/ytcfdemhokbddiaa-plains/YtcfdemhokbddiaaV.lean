/-
  The document's own plain value; what its reading comes to, as plain functions.
-/
import Derived.Test.YtcfdemhokbddiaaU
namespace Go.Proofs.Ytcfdemhokbddiaa
open Go.RowKit

def pvB (c : UInt8) : List UInt8 := if c.toNat = 10 then [92, 110] else [c]
def plainV (l : List UInt8) : List UInt8 := l.flatMap pvB
theorem plainV_len (l : List UInt8) : (plainV l).length ≤ 2 * l.length := by
  induction l with
  | nil => simp [plainV]
  | cons c l ih =>
    have : (pvB c).length ≤ 2 := by unfold pvB; split <;> simp
    simp [plainV] at ih ⊢; omega

theorem add_lists (x y : List UInt8) (hx : x.length ≤ 100000) (hy : y.length ≤ 100000) (w : World) : (Op.stringOp .add (B x) (B y)).run Try.prog w = .ok (.string (B (x ++ y))) w :=
  run_string_add_lists (P := Try.prog) w x y (by omega) (by omega)

theorem two_bytes (w : World) (g cap : Nat) (h0 : w.cell? ⟨g, 0, none⟩ = some (.int .u8 92)) (h1 : w.cell? ⟨g, 1, none⟩ = some (.int .u8 110)) :
    (convert 47 9 (.slice (some ⟨g, 0, none⟩) 2 cap)).run Try.prog w = .ok (.string (B [92, 110])) w :=
  run_convert_bytes_back w 47 9 5 ⟨g, 0, none⟩ cap [92, 110] Try.underlying47 Try.underlying5 Try.underlying9 (fun j hj => by
    match j, hj with
    | 0, _ => simpa [Addr.add] using h0
    | 1, _ => simpa [Addr.add] using h1)

set_option maxHeartbeats 400000 in
theorem plainValue_any (v : List UInt8) (w : World) (hv : v.length ≤ 1000) :
    Calls Try.prog 18 #[.string (B v)] w fun e w' => e = .returned (.string (B (plainV v))) ∧ Below w.heap.size w w' := by
  have hsz := B_size v
  have HSZ : Hid ((B v).size = v.length) := hsz
  clear hsz
  go_enter Try.func18, Try.ntmps18
  go_wp2
  go_loopw [3, 4] (fun o i wr => ∃ k : Nat, k ≤ v.length ∧ i = .int .i64 (k : Int) ∧ o = .string (B (plainV (v.take k))) ∧ Below w.heap.size w wr) (fun _ i _ => 1000 - (intOf i).toNat)
  case atStart => exact ⟨0, Nat.zero_le _, rfl, rfl, Below.refl _ _⟩
  case round =>
    obtain ⟨k, hk, rfl, rfl, hB⟩ := hrel
    by_cases hlt : k < v.length
    · have hlt' : (k : Int) < ((B v).size : Int) := by rw [HSZ.out]; omega
      have hlt2 : k < (B v).size := by rw [HSZ.out]; omega
      have hpl := plainV_len (v.take k)
      have hpl' : (plainV (v.take k)).length ≤ 2000 := by simp at hpl; omega
      have HT : Hid (v.take (k + 1) = v.take k ++ [v[k]]) := List.take_succ_eq_append_getElem hlt
      by_cases h10 : v[k].toNat = 10
      · have e10 : (((B v)[k].toNat : Int) == 10) = true := by
          have : (B v)[k] = v[k] := rfl
          rw [this]; simp; omega
        have hadd := add_lists (plainV (v.take k)) [92, 110] (by omega) (by simp)
        have hcv : (convert 47 9 (.slice (some ⟨wr.heap.size, 0, none⟩) 2 2)).run Try.prog (wr.alloc (.cells #[.int .u8 92, .int .u8 110] 5)) = .ok (.string (B [92, 110])) (wr.alloc (.cells #[.int .u8 92, .int .u8 110] 5)) := two_bytes _ _ _ (by simp) (by simp)
        have H10 : Hid (v[k].toNat = 10) := h10
        clear h10 hpl
        go_wp2
        go_roundw
        case rel =>
          refine ⟨k + 1, by omega, by go_num, ?_, hB.alloc (by have := hB.size; omega) _⟩
          rw [HT.out]; simp [plainV, pvB, H10.out]
        case measure => simp [intOf]; omega
      · have e10 : (((B v)[k].toNat : Int) == 10) = false := by
          have : (B v)[k] = v[k] := rfl
          rw [this]; simp; omega
        have hsl : (B v).extract k (k + 1) = B [v[k]] := by
          rw [extract_B]
          show B ((v.drop k).take 1) = _
          rw [List.drop_eq_getElem_cons hlt]; rfl
        have hadd := add_lists (plainV (v.take k)) [v[k]] (by omega) (by simp)
        have H10 : Hid (v[k].toNat ≠ 10) := h10
        clear h10 hpl
        go_wp2
        go_roundw
        case rel =>
          refine ⟨k + 1, by omega, by go_num, ?_, hB⟩
          rw [HT.out]; simp [plainV, pvB, H10.out]
        case measure => simp [intOf]; omega
    · have hge : ¬ (k : Int) < ((B v).size : Int) := by rw [HSZ.out]; omega
      have HEQ : Hid (v.take k = v) := List.take_of_length_le (by omega)
      go_wp2
      go_ret
      exact ⟨by rw [HEQ.out]; rfl, hB⟩

def st0 : St := ⟨0, 0, [], []⟩
/-- The document's reader over all bytes: the place at which it stops, or where it stands at the end. -/
def runR : St → Nat → List UInt8 → Except Nat St
  | st, _, [] => .ok st
  | st, i, c :: l => match stepR st c i with
    | none => .error i
    | some st' => runR st' (i + 1) l
/-- The text ends too early. -/
def badEnd (st : St) : Bool := st.next != 6 && (st.next != 0 || st.name.isEmpty)

/-- The least of the first k names that are above last: its place. -/
def bestTo (last : List UInt8) (ls : List Lab) : Nat → Option Nat
  | 0 => none
  | k + 1 => if h : k < ls.length then
      (match bestTo last ls k with
      | none => if lt last (ls[k]).name then some k else none
      | some j => if lt last (ls[k]).name && lt (ls[k]).name ((ls[j]?.getD ⟨[], [], 0⟩).name) then some k else some j)
    else bestTo last ls k

theorem best_spec (last : List UInt8) (ls : List Lab) (k : Nat) (hk : k ≤ ls.length) :
    (bestTo last ls k = none ∧ ∀ j (h : j < ls.length), j < k → lt last (ls[j]).name = false) ∨
    (∃ j, ∃ h : j < ls.length, bestTo last ls k = some j ∧ j < k ∧ lt last (ls[j]).name = true ∧ ∀ i (hi : i < ls.length), i < k → lt last (ls[i]).name = true → lt (ls[i]).name (ls[j]).name = false) := by
  induction k with
  | zero => left; exact ⟨rfl, fun j h hj => by omega⟩
  | succ k ih =>
    have hk' : k < ls.length := by omega
    rcases ih (by omega) with ⟨h1, h2⟩ | ⟨j, hj, h1, h2, h3, h4⟩
    · cases hl : lt last (ls[k]).name with
      | false =>
        left
        refine ⟨by simp [bestTo, hk', h1, hl], fun i hi hik => ?_⟩
        by_cases e : i = k
        · subst e; exact hl
        · exact h2 i hi (by omega)
      | true =>
        right
        refine ⟨k, hk', by simp [bestTo, hk', h1, hl], by omega, hl, fun i hi hik hlt => ?_⟩
        by_cases e : i = k
        · subst e; exact lt_irrefl _
        · have := h2 i hi (by omega); rw [this] at hlt; cases hlt
    · right
      cases hb : (lt last (ls[k]).name && lt (ls[k]).name (ls[j]).name) with
      | true =>
        simp only [Bool.and_eq_true] at hb
        refine ⟨k, hk', by simp [bestTo, hk', h1, hj, hb], by omega, hb.1, fun i hi hik hlt => ?_⟩
        by_cases e : i = k
        · subst e; exact lt_irrefl _
        · have hij := h4 i hi (by omega) hlt
          cases hx : lt (ls[i]).name (ls[k]).name with
          | false => rfl
          | true => have := lt_trans _ _ _ hx hb.2; rw [hij] at this; cases this
      | false =>
        have hb' : ¬ (lt last (ls[k]).name = true ∧ lt (ls[k]).name (ls[j]).name = true) := by
          intro h; rw [h.1, h.2] at hb; cases hb
        refine ⟨j, hj, by simp [bestTo, hk', h1, hj]; intro a b; exact absurd ⟨a, b⟩ hb', by omega, h3, fun i hi hik hlt => ?_⟩
        by_cases e : i = k
        · subst e
          cases hx : lt (ls[i]).name (ls[j]).name with
          | false => rfl
          | true => exact absurd ⟨hlt, hx⟩ hb'
        · exact h4 i hi (by omega) hlt

/-- The name that was written last. -/
def lastOf (r : List Lab) (n : Nat) : List UInt8 := if n = 0 then [] else (r[n - 1]?.getD ⟨[], [], 0⟩).name

/-- Of the labels whose names are above the last one written, the least is the next of the sorted ones. -/
theorem best_next (ls r : List Lab) (n : Nat) (hs : Srt r) (hm : ∀ x, x ∈ ls ↔ x ∈ r) (hn : n < r.length) (hne : ∀ x ∈ r, x.name ≠ []) :
    ∃ j, ∃ h : j < ls.length, bestTo (lastOf r n) ls ls.length = some j ∧ ls[j] = r[n] := by
  have hlast : lt (lastOf r n) (r[n]).name = true := by
    unfold lastOf
    split
    · have := hne r[n] (List.getElem_mem hn)
      cases hc : (r[n]).name with
      | nil => exact absurd hc this
      | cons a b => rfl
    · rw [List.getElem?_eq_getElem (by omega)]
      exact hs.get (n - 1) n hn (by omega)
  obtain ⟨j0, hj0, e0⟩ := List.getElem_of_mem ((hm r[n]).2 (List.getElem_mem hn))
  rcases best_spec (lastOf r n) ls ls.length (Nat.le_refl _) with ⟨_, h2⟩ | ⟨j, hj, h1, h2, h3, h4⟩
  · have := h2 j0 hj0 hj0
    rw [e0, hlast] at this; cases this
  · refine ⟨j, hj, h1, ?_⟩
    obtain ⟨m, hmr, em⟩ := List.getElem_of_mem ((hm ls[j]).1 (List.getElem_mem hj))
    have hmn : n ≤ m := by
      rcases Nat.lt_or_ge m n with h | h
      · exfalso
        rw [← em] at h3
        unfold lastOf at h3
        rw [if_neg (by omega), List.getElem?_eq_getElem (by omega)] at h3
        simp only [Option.getD_some] at h3
        by_cases e : m = n - 1
        · subst e; rw [lt_irrefl] at h3; cases h3
        · have := lt_trans _ _ _ h3 (hs.get m (n - 1) (by omega) (by omega))
          rw [lt_irrefl] at this; cases this
      · exact h
    have hnm : ¬ n < m := fun h => by
      have h5 := hs.get n m hmr h
      have h6 := h4 j0 hj0 hj0 (by rw [e0]; exact hlast)
      rw [e0, ← em, h5] at h6; cases h6
    have : m = n := by omega
    subst this
    exact em.symm

def labQ (x : Lab) : List UInt8 := x.name ++ [61, 34] ++ plainV x.val ++ [34]
def outQ : UInt8 → List Lab → List UInt8
  | _, [] => []
  | a, x :: ls => a :: labQ x ++ outQ 44 ls
def plainQ (nm : List UInt8) (ls : List Lab) : List UInt8 := nm ++ outQ 123 ls ++ (if ls.isEmpty then [] else [125])

end Go.Proofs.Ytcfdemhokbddiaa
