/-
  order.Sorted at numbers, slices.Equal, rise, inBounds, limitsFit: which limits a family may have.
-/
import Derived.Test.YtcfdemhokbddiaaGreatDoorQKe

namespace Go.Proofs.YtcfdemhokbddiaaGreatDoor
open Go.RowKit

/-- A list of numbers that came in or is kept: nothing is asked of where an empty one lies. -/
def IntSl (w : World) (v : Value) (xs : List Int) : Prop := ∃ sa cap, v = .slice sa xs.length cap ∧ xs.length ≤ cap ∧ (xs = [] ∨ ∃ b off, sa = some ⟨b, off, none⟩ ∧ IntsAt w b off xs)
theorem IntSl.gb {w w' : World} {v : Value} {xs : List Int} (h : IntSl w v xs) (hg : w.grownBy w' none) : IntSl w' v xs := by
  obtain ⟨sa, cap, h1, h2, h3⟩ := h
  refine ⟨sa, cap, h1, h2, ?_⟩
  rcases h3 with h3 | ⟨b, off, h3, h4⟩
  · exact Or.inl h3
  · exact Or.inr ⟨b, off, h3, h4.gb hg⟩
theorem IntSl.of {w : World} {base : Nat} {v : Value} {xs : List Int} (h : w.ownsRow base 3 1 v xs.length (ints xs)) : IntSl w v xs := by
  rcases h.2 with ⟨rfl, h0⟩ | ⟨g, cap, cur, rfl, _, _, hn, _⟩
  · have e : xs = [] := List.eq_nil_of_length_eq_zero h0
    subst e
    exact ⟨none, 0, rfl, Nat.le_refl _, Or.inl rfl⟩
  · exact ⟨_, _, rfl, hn, Or.inr ⟨g, 0, rfl, intsAt_of h⟩⟩
theorem own_emptyI (w : World) : (w.alloc (.cells #[] 3)).ownsRow w.heap.size 3 1 (.slice (some ⟨w.heap.size, 0, none⟩) 0 0) 0 [] :=
  ⟨rfl, Or.inr ⟨w.heap.size, 0, #[], rfl, Nat.le_refl _, by show (w.heap.push _)[w.heap.size]? = _; simp, Nat.le_refl _, by unfold maxLen; omega, rfl, rfl⟩⟩

theorem kins_end {ks : List Int} {x : Int} (h : ∀ y ∈ ks, ltI y x = true) : kins ks (kplace ltI x ks) x = ks ++ [x] := by
  have : kplace ltI x ks = ks.length := kplace_of ltI x ks ks.length (Nat.le_refl _) (fun k hk _ => h _ (List.getElem_mem hk)) (fun k hk h2 => by omega)
  rw [this]; simp [kins]

set_option maxRecDepth 100000 in
set_option maxHeartbeats 1000000 in
theorem sortedI_any (b off cap : Nat) (xs : List Int) (w : World) (hx : IntsAt w b off xs) (hl : xs.length ≤ 4) (hc0 : xs.length ≤ cap) :
    Calls Tryz.prog 154 #[.slice (some ⟨b, off, none⟩) xs.length cap, .func (.func 104) #[] #[]] w fun e w' => ∃ (v : Value) (k : Int),
      e = .returned (.tuple #[v, .int .i64 k]) ∧ w.grownBy w' none ∧
      ((v = .slice none 0 0 ∧ xs ≠ [] ∧ ¬ KSrt ltI xs) ∨ ∃ r base, w'.ownsRow base 3 1 v r.length (ints r) ∧ KSrt ltI r ∧ (KSrt ltI xs → r = xs)) := by
  have HX : Hid (IntsAt w b off xs) := hx
  clear hx
  go_enter Tryz.func154, Tryz.ntmps154
  go_wp2_with fail
  go_loopw [6, 14] (fun v i wr => ∃ (acc : List Int) (g : Nat), v = .slice (some ⟨g, 0, none⟩) acc.length acc.length ∧ i = .int .i64 (acc.length : Int) ∧ acc.length ≤ xs.length ∧ Hid (KSrt ltI acc) ∧
      wr.ownsRow w.heap.size 3 1 (.slice (some ⟨g, 0, none⟩) acc.length acc.length) acc.length (ints acc) ∧ w.grownBy wr none ∧ Hid (KSrt ltI xs → acc = xs.take acc.length))
    (fun _ i _ => 4 - (intOf i).toNat)
  case atStart =>
    refine ⟨[], w.heap.size, rfl, rfl, by simp, List.Pairwise.nil, own_emptyI w, gb_alloc (gb_refl _ _) _, fun _ => by simp⟩
  case round =>
    obtain ⟨acc, g, rfl, rfl, h1, HS, own, hg, HT⟩ := hrel
    by_cases hlt : acc.length < xs.length
    · have d0 := gb_cell hg (HX.out acc.length hlt) (by simp)
      have HM : Hid (∀ y ∈ acc, KSrt ltI xs → ltI y (xs[acc.length]) = true) := by
        intro y hy hs
        rw [HT.out hs] at hy
        obtain ⟨i, hi, rfl⟩ := List.getElem_of_mem hy
        simp only [List.length_take] at hi
        rw [List.getElem_take]
        exact hs.get _ i acc.length hlt (by omega)
      have HD : Hid (xs.take (acc.length + 1) = xs.take acc.length ++ [xs[acc.length]]) := by
        show _ = _; rw [List.take_add_one, List.getElem?_eq_getElem hlt]; rfl
      obtain ⟨x, hxe⟩ : ∃ x, x = xs[acc.length] := ⟨_, rfl⟩
      rw [← hxe] at d0 HM HD
      clear hxe
      go_wp2_with fail
      refine (keyI_any _ _).mono ?_
      rintro e w1 ⟨rfl, rfl⟩
      go_wp2_with fail
      refine (findI_any _ _ acc x _ own (by omega) HS.out).mono ?_
      rintro e w2 ⟨rfl, g2⟩
      have own2 := own.kept g2 (Or.inr (by simp [Value.ownBlock]))
      have x0 := gb_cell g2 d0 (by simp)
      have hg2 : w.grownBy w2 none := gb_trans hg g2
      clear own g2 d0
      cases hf : kfnd ltI x acc with
      | true =>
        have HF : Hid (x ∈ acc) := (kfnd_iff ltIok x acc HS.out).1 hf
        clear hf
        go_wp2
        go_ret2
        refine ⟨.slice none 0 0, acc.length, rfl, hg2, Or.inl ⟨rfl, fun e => by rw [e] at hlt; simp at hlt, fun hs => ?_⟩⟩
        have := HM.out x HF.out hs
        rw [ltIok.irrefl] at this; cases this
      | false =>
        have HF : Hid (kfnd ltI x acc = false) := hf
        clear hf
        have hpl := kplace_le ltI x acc
        have hb1 : (acc.length : Int) + 1 ≤ (cap : Int) := by omega
        have hb2 : ¬ (cap = acc.length) := by omega
        have htn : ((acc.length : Int) + 1).toNat = acc.length + 1 := by omega
        have hsub : acc.length + 1 - acc.length = 1 := by omega
        go_wp2_with fail
        refine (togI_any _ _ b (off + acc.length) (cap - acc.length) acc x _ (by exact own2) (by exact x0) (by omega) HS.out HF.out).mono ?_
        rintro e w3 ⟨rfl, own3, gg3⟩
        clear htn hsub
        go_wp2
        go_roundw
        case rel =>
          have hil := kins_len acc (kplace ltI x acc) x hpl
          refine ⟨kins acc (kplace ltI x acc) x, w2.heap.size, by rw [hil], by rw [hil]; go_num, by omega, ksrt_ins ltIok acc x HS.out HF.out, by rw [hil]; exact own_mono own3 hg2.size, gb_trans hg2 gg3, fun hs => ?_⟩
          rw [hil, kins_end (fun y hy => HM.out y hy hs), HD.out, ← HT.out hs]
        case measure => simp [intOf]; omega
    · have HE : Hid (acc.length = xs.length) := by show _ = _; omega
      go_wp2
      go_ret2
      refine ⟨.slice (some ⟨g, 0, none⟩) acc.length acc.length, _, rfl, hg, Or.inr ⟨acc, _, own, HS.out, fun hs => ?_⟩⟩
      have := HT.out hs
      rw [HE.out, List.take_length] at this
      exact this

theorem drew2 (w : World) (q n : Nat) : ∃ k, (w.drewN q).drewN n = w.drewN k := ⟨q + n, by simp [World.drewN, Nat.add_assoc]⟩

set_option maxHeartbeats 1000000 in
theorem equal_any (v u : Value) (xs ys : List Int) (w : World) (hv : IntSl w v xs) (hu : IntSl w u ys) (hm : xs.length ≤ 9223372036854775807) :
    Calls Tryz.prog 122 #[v, u] w fun e w' => e = .returned (.bool (decide (xs = ys))) ∧ ∃ q, w' = w.drewN q := by
  obtain ⟨sa, ca, rfl, _, hxs⟩ := hv
  obtain ⟨sb, cb, rfl, _, hys⟩ := hu
  by_cases hn : xs.length = ys.length
  · have HN : Hid (xs.length = ys.length) := hn
    rw [← hn]
    clear hn
    go_enter Tryz.func122, Tryz.ntmps122
    go_wp2_with fail
    go_loopw [13] (fun i wr => ∃ k : Nat, i = .int .i64 (k : Int) ∧ k ≤ xs.length ∧ Hid (∀ j (h : j < xs.length) (h' : j < ys.length), j < k → xs[j] = ys[j]) ∧ ∃ q, wr = w.drewN q) (fun i _ => xs.length - (intOf i).toNat)
    case atStart => exact ⟨0, rfl, by omega, fun j _ _ h => by omega, 0, rfl⟩
    case round =>
      obtain ⟨k, rfl, hk, HJ, q, rfl⟩ := hrel
      by_cases hlt : k < xs.length
      · have hlt2 : k < ys.length := by rw [← HN.out]; exact hlt
        rcases hxs with h | ⟨b1, o1, rfl, h1⟩
        · rw [h] at hlt; simp at hlt
        rcases hys with h | ⟨b2, o2, rfl, h2⟩
        · rw [h] at hlt2; simp at hlt2
        have c1 : w.cell? ⟨b1, o1 + k, none⟩ = some (.int .i64 xs[k]) := h1 k hlt
        have c2 : w.cell? ⟨b2, o2 + k, none⟩ = some (.int .i64 ys[k]) := h2 k hlt2
        have HE : Hid (decide (xs = ys) = true → xs[k] = ys[k]) := by intro h; have e := of_decide_eq_true h; subst e; rfl
        obtain ⟨x, hx⟩ : ∃ x, x = xs[k] := ⟨_, rfl⟩
        obtain ⟨y, hy⟩ : ∃ y, y = ys[k] := ⟨_, rfl⟩
        have HX : Hid (x = xs[k] ∧ y = ys[k]) := ⟨hx, hy⟩
        rw [← hx] at c1 HE
        rw [← hy] at c2 HE
        have hlti : (k : Int) < (xs.length : Int) := by omega
        clear hx hy h1 h2
        by_cases he : x = y
        · have HE2 : Hid (x = y) := he
          have hne : (x != y) = false := by simp [he]
          clear he HE
          go_wp2_with fail
          go_quiet (fail)
          go_wp2
          go_roundw
          case rel =>
            refine ⟨k + 1, by go_num, by omega, fun j h h' hj => ?_, _, rfl⟩
            by_cases e : j = k
            · subst e; rw [← HX.out.1, ← HX.out.2]; exact HE2.out
            · exact HJ.out j h h' (by omega)
          case measure => simp [intOf]; omega
        · have hne : (x != y) = true := by simp [he]
          have HE2 : Hid (decide (xs = ys) = false) := by
            show _ = _
            cases hd : decide (xs = ys) with
            | false => rfl
            | true => exact absurd (HE.out hd) he
          clear he HE
          go_wp2_with fail
          go_quiet (fail)
          go_wp2
          go_ret
          exact ⟨by rw [HE2.out]; rfl, drew2 _ _ _⟩
      · have HE2 : Hid (decide (xs = ys) = true) := by
          show _ = _
          refine decide_eq_true (List.ext_getElem HN.out fun j h h' => HJ.out j h h' (by omega))
        go_wp2
        go_ret
        exact ⟨by rw [HE2.out]; rfl, _, rfl⟩
  · have HE2 : Hid (decide (xs = ys) = false) := by
      show _ = _
      exact decide_eq_false fun e => hn (by rw [e])
    have hne : ((xs.length : Int) != (ys.length : Int)) = true := by simp; omega
    go_enter Tryz.func122, Tryz.ntmps122
    go_wp2
    go_ret
    exact ⟨by rw [HE2.out]; rfl, 0, rfl⟩

/-- Does each number stand above the one ahead of it? -/
def riseB (xs : List Int) : Bool := match xs with
  | [] => true
  | x :: ys => ys.all (fun y => decide (x < y)) && riseB ys
theorem riseB_iff (xs : List Int) : riseB xs = true ↔ KSrt ltI xs := by
  induction xs with
  | nil => simp [riseB, KSrt]
  | cons x xs ih =>
    unfold riseB KSrt
    rw [List.pairwise_cons, Bool.and_eq_true, ih]
    simp [ltI, KSrt]

set_option maxHeartbeats 400000 in
theorem rise_any (b off cap : Nat) (xs : List Int) (w : World) (hx : IntsAt w b off xs) (hl : xs.length ≤ 4) (hc0 : xs.length ≤ cap) :
    Calls Tryz.prog 121 #[.slice (some ⟨b, off, none⟩) xs.length cap] w fun e w' => e = .returned (.bool (riseB xs)) ∧ w.grownBy w' none := by
  have HX : Hid (IntsAt w b off xs) := hx
  clear hx
  go_enter Tryz.func121, Tryz.ntmps121
  go_wp2_with fail
  refine (sortedI_any b off cap xs _ HX.out hl hc0).mono ?_
  rintro e w1 ⟨v, k, rfl, g1, hcase⟩
  have HR : Hid (∃ r, IntSl w1 v r ∧ r.length ≤ 9223372036854775807 ∧ decide (r = xs) = riseB xs) := by
    rcases hcase with ⟨rfl, h1, h2⟩ | ⟨r, base, h1, h2, h3⟩
    · refine ⟨[], ⟨none, 0, rfl, Nat.le_refl _, Or.inl rfl⟩, by simp, ?_⟩
      rw [decide_eq_false (fun e => h1 e.symm)]
      symm
      cases hr : riseB xs with
      | false => rfl
      | true => exact absurd ((riseB_iff xs).1 hr) h2
    · by_cases e : r = xs
      · subst e
        exact ⟨r, .of h1, by omega, by rw [(riseB_iff r).2 h2]; simp⟩
      · refine ⟨r, .of h1, ?_, ?_⟩
        · rcases h1.2 with ⟨_, h0⟩ | ⟨g, cap, cur, _, _, _, hn, hcm, _⟩
          · omega
          · unfold maxLen at hcm; omega
        · rw [decide_eq_false e]
          symm
          cases hr : riseB xs with
          | false => rfl
          | true => exact absurd (h3 ((riseB_iff xs).1 hr)) e
  clear hcase
  obtain ⟨r, h1, h2, h3⟩ := HR.out
  have H3 : Hid (decide (r = xs) = riseB xs) := h3
  have H1 : Hid (IntSl w1 v r) := h1
  have HX1 : Hid (IntSl w1 (.slice (some ⟨b, off, none⟩) xs.length cap) xs) := ⟨_, _, rfl, hc0, Or.inr ⟨_, _, rfl, HX.out.gb g1⟩⟩
  clear h1 h3 HR
  obtain ⟨sa, ca, rfl⟩ : ∃ sa ca, v = .slice sa r.length ca := by obtain ⟨sa, ca, h, _⟩ := H1.out; exact ⟨sa, ca, h⟩
  go_wp2_with fail
  refine (equal_any _ _ r xs _ H1.out HX1.out h2).mono ?_
  rintro e w2 ⟨rfl, q, rfl⟩
  go_wp2
  go_ret
  exact ⟨by rw [H3.out]; rfl, gb_d g1⟩

def inB (n : Int) : Bool := decide (-1000000000 ≤ n ∧ n ≤ 1000000000)
set_option maxHeartbeats 400000 in
theorem inBounds_any (n : Int) (w : World) : Calls Tryz.prog 96 #[.int .i64 n] w fun e w' => e = .returned (.bool (inB n)) ∧ w' = w := by
  by_cases h1 : -1000000000 ≤ n <;> by_cases h2 : n ≤ 1000000000
  all_goals
    have HE : Hid (inB n = decide (-1000000000 ≤ n ∧ n ≤ 1000000000)) := rfl
    go_enter Tryz.func96, Tryz.ntmps96
    go_wp2
    go_ret
    exact ⟨by rw [HE.out]; simp [h1, h2], rfl⟩

end Go.Proofs.YtcfdemhokbddiaaGreatDoor
