/-
  Looking up and laying in at rows of numbers: cmp.Compare, the closure, slices.BinarySearchFunc, order.Find, order.Together of one.
-/
import Derived.Test.YtcfdemhokbddiaaGreatDoorQKd

namespace Go.Proofs.YtcfdemhokbddiaaGreatDoor
open Go.RowKit

def ints (xs : List Int) : List Value := xs.map fun x => .int .i64 x
theorem ints_len (xs : List Int) : (ints xs).length = xs.length := by simp [ints]
theorem ints_take (xs : List Int) (k : Nat) : ints (xs.take k) = (ints xs).take k := by simp [ints, List.map_take]
theorem ints_drop (xs : List Int) (k : Nat) : ints (xs.drop k) = (ints xs).drop k := by simp [ints, List.map_drop]
theorem ints_one (xs : List Int) : ∀ v ∈ ints xs, v.oneCell' = true := by
  intro v hv
  simp only [ints, List.mem_map] at hv
  obtain ⟨b, _, rfl⟩ := hv
  rfl
/-- The numbers stand from off on in block g. -/
def IntsAt (w : World) (g off : Nat) (xs : List Int) : Prop := ∀ k (h : k < xs.length), w.cell? ⟨g, off + k, none⟩ = some (.int .i64 xs[k])
theorem IntsAt.gb {w w' : World} {g off : Nat} {xs : List Int} (h : IntsAt w g off xs) (hg : w.grownBy w' none) : IntsAt w' g off xs := fun k hk => gb_cell hg (h k hk) (by simp)
theorem intsAt_of {w : World} {base : Nat} {e : TypeId} {g n cap : Nat} {xs : List Int} (h : w.ownsRow base e 1 (.slice (some ⟨g, 0, none⟩) n cap) n (ints xs)) : IntsAt w g 0 xs := by
  intro k hk
  have := own_cells1 h rfl k (.int .i64 xs[k]) (by simp [ints, hk])
  rw [Addr.add_lit] at this
  exact this

def cmpI (a b : Int) : Int := if a < b then -1 else if a = b then 0 else 1
theorem cmpI_lt {a b : Int} (h : ltI a b = true) : cmpI a b < 0 := by simp [ltI] at h; simp [cmpI, h]
theorem cmpI_ge {a b : Int} (h : ltI a b = false) : 0 ≤ cmpI a b := by
  simp only [ltI, decide_eq_false_iff_not] at h
  unfold cmpI; rw [if_neg h]; split <;> omega
theorem cmpI_eq {a b : Int} (h : ltI a b = false) : (cmpI a b == 0) = decide (a = b) := by
  simp [ltI] at h
  have : ¬ a < b := by omega
  by_cases e : a = b
  · subst e; simp [cmpI]
  · simp [cmpI, this, e]

set_option maxHeartbeats 400000 in
theorem isNaNI_any (a : Int) (w : World) :
    Calls Tryz.prog 161 #[.int .i64 a] w fun e w' => e = .returned (.bool false) ∧ w' = w := by
  go_enter Tryz.func161, Tryz.ntmps161
  go_wp2
  go_ret
  exact ⟨by simp, rfl⟩

set_option maxHeartbeats 400000 in
theorem compareI_any (a c : Int) (w : World) :
    Calls Tryz.prog 138 #[.int .i64 a, .int .i64 c] w fun e w' => e = .returned (.int .i64 (cmpI a c)) ∧ w' = w := by
  by_cases h : a < c
  · have HE : Hid (cmpI a c = -1) := by simp [Hid, cmpI, h]
    go_enter Tryz.func138, Tryz.ntmps138
    go_wp2_with (go_at_call 161; refine (isNaNI_any _ _).mono ?_; rintro e w' ⟨rfl, rfl⟩)
    go_ret
    exact ⟨by rw [HE.out]; rfl, rfl⟩
  · by_cases e : c < a
    · have HE : Hid (cmpI a c = 1) := by
        have e' : ¬ a = c := by omega
        simp [Hid, cmpI, h, e']
      go_enter Tryz.func138, Tryz.ntmps138
      go_wp2_with (go_at_call 161; refine (isNaNI_any _ _).mono ?_; rintro e w' ⟨rfl, rfl⟩)
      go_ret
      exact ⟨by rw [HE.out]; rfl, rfl⟩
    · have HE : Hid (cmpI a c = 0) := by
        have e' : a = c := by omega
        simp [Hid, cmpI, e']
      go_enter Tryz.func138, Tryz.ntmps138
      go_wp2_with (go_at_call 161; refine (isNaNI_any _ _).mono ?_; rintro e w' ⟨rfl, rfl⟩)
      go_ret
      exact ⟨by rw [HE.out]; rfl, rfl⟩

set_option maxHeartbeats 400000 in
theorem keyI_any (a : Int) (w : World) :
    Calls Tryz.prog 104 #[.int .i64 a] w fun e w' => e = .returned (.int .i64 a) ∧ w' = w := by
  go_enter Tryz.func104, Tryz.ntmps104
  go_wp2
  go_ret
  exact ⟨rfl, rfl⟩

set_option maxHeartbeats 400000 in
theorem closI_any (a c : Int) (kb : Nat) (w : World) (hk : w.cell? ⟨kb, 0, none⟩ = some (.func (.func 104) #[] #[])) :
    Calls Tryz.prog 137 #[.int .i64 a, .int .i64 c, .pointer (some ⟨kb, 0, none⟩)] w fun e w' => e = .returned (.int .i64 (cmpI a c)) ∧ w' = w := by
  go_enter Tryz.func137, Tryz.ntmps137
  go_wp2_with fail
  refine (keyI_any _ _).mono ?_
  rintro e w1 ⟨rfl, rfl⟩
  go_wp2_with fail
  refine (compareI_any a c _).mono ?_
  rintro e w2 ⟨rfl, rfl⟩
  go_wp2
  go_ret
  exact ⟨rfl, rfl⟩

set_option maxHeartbeats 1000000 in
theorem searchI_any (g cap kb : Nat) (ks : List Int) (t : Int) (w : World) (hp : IntsAt w g 0 ks) (hl : ks.length ≤ 100) (hsrt : KSrt ltI ks)
    (hk : w.cell? ⟨kb, 0, none⟩ = some (.func (.func 104) #[] #[])) :
    Calls Tryz.prog 136 #[.slice (some ⟨g, 0, none⟩) ks.length cap, .int .i64 t, .func (.func 137) #[] #[.pointer (some ⟨kb, 0, none⟩)]] w
      fun e w' => e = .returned (.tuple #[.int .i64 (kplace ltI t ks : Int), .bool (kfnd ltI t ks)]) ∧ w' = w := by
  have HS : Hid (KSrt ltI ks) := hsrt
  have HP : Hid (IntsAt w g 0 ks) := hp
  clear hsrt hp
  go_enter Tryz.func136, Tryz.ntmps136
  go_wp2
  go_loopw [9, 10] (fun i j wr => ∃ (a c : Nat), i = .int .i64 (a : Int) ∧ j = .int .i64 (c : Int) ∧ a ≤ c ∧ c ≤ ks.length ∧ wr = w ∧
      Hid ((∀ k (h : k < ks.length), k < a → ltI (ks[k]) t = true) ∧ (∀ k (h : k < ks.length), c ≤ k → ltI (ks[k]) t = false)))
    (fun i j _ => (intOf j - intOf i).toNat)
  case atStart => exact ⟨0, ks.length, rfl, rfl, by omega, by omega, rfl, ⟨fun k h h0 => by omega, fun k h h0 => by omega⟩⟩
  case round =>
    obtain ⟨a, c, rfl, rfl, h1, h2, rfl, HI⟩ := hrel
    by_cases hlt : a < c
    · have hm : (a + c) / 2 < ks.length := by omega
      have d0 := HP.out _ hm
      rw [Nat.zero_add] at d0
      go_wp2_with fail
      refine (closI_any _ _ _ _ hk).mono ?_
      rintro e w1 ⟨rfl, rfl⟩
      cases hq : ltI (ks[(a + c) / 2]) t with
      | true =>
        have hneg := cmpI_lt hq
        have HQ : Hid (ltI (ks[(a + c) / 2]) t = true) := hq
        clear hq
        generalize cmpI (ks[(a + c) / 2]) t = q at hneg ⊢
        go_wp2
        go_roundw
        case rel =>
          refine ⟨(a + c) / 2 + 1, c, by go_num, rfl, by omega, h2, by simp, ⟨fun k h hk => ?_, HI.out.2⟩⟩
          by_cases hk2 : k = (a + c) / 2
          · subst hk2; exact HQ.out
          · exact ltIok.trans _ _ _ (HS.out.get _ k ((a + c) / 2) hm (by omega)) HQ.out
        case measure => simp [intOf]; omega
      | false =>
        have hneg := cmpI_ge hq
        have HQ : Hid (ltI (ks[(a + c) / 2]) t = false) := hq
        clear hq
        generalize cmpI (ks[(a + c) / 2]) t = q at hneg ⊢
        go_wp2
        go_roundw
        case rel =>
          refine ⟨a, (a + c) / 2, rfl, by go_num, by omega, by omega, by simp, ⟨HI.out.1, fun k h hk => ?_⟩⟩
          by_cases hk2 : k = (a + c) / 2
          · subst hk2; exact HQ.out
          · cases hx : ltI (ks[k]) t with
            | false => rfl
            | true =>
              have := ltIok.trans _ _ _ (HS.out.get _ ((a + c) / 2) k h (by omega)) hx
              rw [HQ.out] at this; cases this
        case measure => simp [intOf]; omega
    · obtain rfl : a = c := by omega
      have hp : kplace ltI t ks = a := kplace_of ltI t ks a h2 HI.out.1 HI.out.2
      by_cases hn : a < ks.length
      · have d0 := HP.out _ hn
        rw [Nat.zero_add] at d0
        have hge := HI.out.2 a hn (Nat.le_refl _)
        have hf : kfnd ltI t ks = (cmpI (ks[a]) t == 0) := by
          rw [cmpI_eq hge]; unfold kfnd; rw [hp, List.getElem?_eq_getElem hn]
        have HF : Hid (kfnd ltI t ks = _) := hf
        have HPl : Hid (kplace ltI t ks = a) := hp
        clear hp hf hge
        go_wp2_with fail
        refine (closI_any _ _ _ _ hk).mono ?_
        rintro e w1 ⟨rfl, rfl⟩
        go_wp2
        go_ret2
        exact ⟨by rw [HF.out, HPl.out]; rfl, rfl⟩
      · have HF : Hid (kfnd ltI t ks = false) := by
          show _ = _; unfold kfnd; rw [hp, List.getElem?_eq_none (by omega)]
        have HPl : Hid (kplace ltI t ks = a) := hp
        clear hp
        go_wp2
        go_ret2
        exact ⟨by rw [HF.out, HPl.out]; rfl, rfl⟩

set_option maxHeartbeats 400000 in
theorem findI_some (g cap : Nat) (ks : List Int) (t : Int) (w : World) (hp : IntsAt w g 0 ks) (hl : ks.length ≤ 100) (hsrt : KSrt ltI ks) :
    Calls Tryz.prog 103 #[.slice (some ⟨g, 0, none⟩) ks.length cap, .func (.func 104) #[] #[], .int .i64 t] w
      fun e w' => e = .returned (.tuple #[.int .i64 (kplace ltI t ks : Int), .bool (kfnd ltI t ks)]) ∧ w.grownBy w' none := by
  have HS : Hid (KSrt ltI ks) := hsrt
  have HP : Hid (IntsAt w g 0 ks) := hp
  clear hsrt hp
  go_enter Tryz.func103, Tryz.ntmps103
  go_wp2_with fail
  refine (searchI_any g cap w.heap.size ks t _ (HP.out.gb (gb_alloc (gb_refl _ _) _)) hl HS.out (by simp)).mono ?_
  rintro e w1 ⟨rfl, rfl⟩
  go_wp2
  go_ret2
  exact ⟨rfl, gb_alloc (gb_refl _ _) _⟩

set_option maxHeartbeats 400000 in
theorem searchI_none (t : Int) (f : Value) (w : World) :
    Calls Tryz.prog 136 #[.slice none 0 0, .int .i64 t, f] w fun e w' => e = .returned (.tuple #[.int .i64 0, .bool false]) ∧ w' = w := by
  go_enter Tryz.func136, Tryz.ntmps136
  go_wp2
  refine wp_loop_rounds 1 ?_
  rw [rounds_succ]
  go_wp2
  go_ret2
  exact ⟨rfl, rfl⟩

set_option maxHeartbeats 400000 in
theorem findI_none (t : Int) (w : World) :
    Calls Tryz.prog 103 #[.slice none 0 0, .func (.func 104) #[] #[], .int .i64 t] w fun e w' => e = .returned (.tuple #[.int .i64 0, .bool false]) ∧ w.grownBy w' none := by
  go_enter Tryz.func103, Tryz.ntmps103
  go_wp2_with fail
  refine (searchI_none _ _ _).mono ?_
  rintro e w1 ⟨rfl, rfl⟩
  go_wp2
  go_ret2
  exact ⟨rfl, gb_alloc (gb_refl _ _) _⟩

/-- order.Find in a row of numbers, whatever the row. -/
theorem findI_any (v : Value) (base : Nat) (ks : List Int) (t : Int) (w : World) (hown : w.ownsRow base 3 1 v ks.length (ints ks)) (hl : ks.length ≤ 100) (hsrt : KSrt ltI ks) :
    Calls Tryz.prog 103 #[v, .func (.func 104) #[] #[], .int .i64 t] w
      fun e w' => e = .returned (.tuple #[.int .i64 (kplace ltI t ks : Int), .bool (kfnd ltI t ks)]) ∧ w.grownBy w' none := by
  rcases hown.2 with ⟨rfl, h0⟩ | ⟨g, cap, cur, rfl, _⟩
  · have e : ks = [] := List.eq_nil_of_length_eq_zero h0
    subst e
    exact findI_none _ w
  · exact findI_some g cap ks t w (intsAt_of hown) hl hsrt

theorem Tryz.info3 : (Tryz.prog.info? 3).map (fun i => (i.zero, i.size, i.bytes)) = some (some (.int .i64 0), 1, 8) := by kernel_rfl

set_option maxRecDepth 100000 in
set_option maxHeartbeats 1000000 in
theorem togI_any (v : Value) (base h off c2 : Nat) (ks : List Int) (t : Int) (w : World) (hown : w.ownsRow base 3 1 v ks.length (ints ks))
    (x0 : w.cell? ⟨h, off, none⟩ = some (.int .i64 t))
    (hl : ks.length ≤ 100) (hsrt : KSrt ltI ks) (hf : kfnd ltI t ks = false) :
    Calls Tryz.prog 165 #[v, .slice (some ⟨h, off, none⟩) 1 c2, .func (.func 104) #[] #[]] w fun e w' =>
      e = .returned (.slice (some ⟨w.heap.size, 0, none⟩) (ks.length + 1) (ks.length + 1)) ∧ w'.ownsRow w.heap.size 3 1 (.slice (some ⟨w.heap.size, 0, none⟩) (ks.length + 1) (ks.length + 1)) (ks.length + 1) (ints (kins ks (kplace ltI t ks) t)) ∧ w.grownBy w' none := by
  obtain ⟨i0, hi, hz0, hz1, hz2⟩ := info_parts Tryz.info3
  have HI : Hid (Tryz.prog.info? 3 = some i0 ∧ i0.zero = some (.int .i64 0) ∧ i0.size = 1 ∧ i0.bytes = 8) := ⟨hi, hz0, hz1, hz2⟩
  have HS : Hid (KSrt ltI ks) := hsrt
  have HF : Hid (kfnd ltI t ks = false) := hf
  have hpl := kplace_le ltI t ks
  obtain ⟨sa, sc, rfl, hsc, hsn⟩ := own_shape1 hown
  clear hi hz0 hz1 hz2 hsrt hf
  go_enter Tryz.func165, Tryz.ntmps165
  go_wp2_with (at_make; refine wpList_make_own _ rfl _ _ 26 rfl w.heap.size 3 i0 (.int .i64 0) 1 Tryz.underlying26 HI.out.1 HI.out.2.1 HI.out.2.2.1 .i64 .i64 _ (ks.length + 1) rfl rfl (by go_num) (by rw [HI.out.2.2.2]; omega) (by unfold maxLen; omega) (Nat.le_refl _) ?_; intro w0 own0 g0)
  refine wp_loop_rounds 2 ?_
  rw [rounds_succ]
  have y0 := gb_cell g0 x0 (by simp)
  go_wp2_with fail
  refine (keyI_any _ _).mono ?_
  rintro e w1 ⟨rfl, rfl⟩
  have ownA := hown.kept g0 (ownNe _)
  go_wp2_with fail
  refine (findI_any _ base ks t _ (by exact ownA) hl HS.out).mono ?_
  rintro e w2 ⟨rfl, g2⟩
  rw [HF.out]
  obtain ⟨k, hk⟩ : ∃ k, kplace ltI t ks = k := ⟨_, rfl⟩
  rw [hk] at hpl ⊢
  have HKE : Hid (kplace ltI t ks = k) := hk
  clear hk
  have own2 := own0.kept g2 (by right; simp [Value.ownBlock])
  have ownA2 := ownA.kept g2 (ownNe _)
  have G2 := gb_trans g0 g2
  have hb1 : (k : Int) ≤ (sc : Int) := by omega
  have hb2 : (k : Int) ≤ (ks.length : Int) := by omega
  have HA : Hid (∀ ad, sa = some ad → ∀ j u, (ints (ks.take k))[j]? = some u → w2.cell? (ad.add j) = some u) := by
    rintro ad rfl j u hj
    refine (own_cells1 ownA2 rfl j u ?_)
    rw [ints_take] at hj
    rw [List.getElem?_take] at hj
    split at hj
    · exact hj
    · cases hj
  clear ownA
  rcases hsn with ⟨rfl, hn0, rfl⟩ | ⟨g, rfl, hgl⟩
  · obtain rfl : k = 0 := by omega
    have e0 : ks = [] := List.eq_nil_of_length_eq_zero hn0
    subst e0
    clear HA ownA2 hown hb1 hb2
    go_wp2_with (at_builtin; first
      | refine wpList_append_own_none rfl _ _ 26 rfl w.heap.size 3 i0 1 Tryz.underlying26 HI.out.1 _ 0 [] rfl own2 rfl ?_
      | (refine wpList_append_fits _ rfl _ _ 26 rfl w.heap.size 3 i0 1 Tryz.underlying26 HI.out.1 HI.out.2.2.1 w.heap.size 0 1 [] rfl (by exact own2.alloc _) ⟨w2.heap.size, 0, none⟩ 1 1 [.int .i64 t] rfl rfl (cells_new w2 _ 3) (fun v hv => by simp at hv; subst hv; rfl) (by omega) ?_; intro w3 own3 g3))
    have G3 := gb_new G2 (gb_trans (gb_alloc (gb_refl w2 (some w.heap.size)) (.cells #[.int .i64 t] 3)) g3) (Nat.le_refl _)
    rw [rounds_succ]
    go_wp2_with (at_builtin; refine wpList_append_own_none rfl _ _ 26 rfl w.heap.size 3 i0 1 Tryz.underlying26 HI.out.1 _ _ _ rfl own3 rfl ?_)
    go_ret
    refine ⟨rfl, ?_, G3⟩
    rw [HKE.out]; exact own3
  · have HV : Hid (ints (ks.take k) ++ [Value.int .i64 t] ++ ints (ks.drop k) = ints (kins ks k t)) := by
      show _ = _; simp [kins, ints]
    have HL1 : Hid ((ints (ks.take k)).length = k * 1) := by show _ = _; simp [ints]; omega
    have HL2 : Hid ((ints (ks.drop k)).length = (ks.length - k) * 1) := by show _ = _; simp [ints]
    have HN : Hid (k + 1 + (ks.length - k) = ks.length + 1) := by show _ = _; omega
    clear hown
    go_wp2_with (at_builtin; first
      | (refine wpList_append_fits _ rfl _ _ 26 rfl w.heap.size 3 i0 1 Tryz.underlying26 HI.out.1 HI.out.2.2.1 w.heap.size 0 (ks.length + 1) [] rfl own2 ⟨g, 0, none⟩ k sc (ints (ks.take k)) rfl HL1.out (HA.out _ rfl) (ints_one _) (by omega) ?_; intro w3 own3 g3; simp only [Nat.zero_add, List.nil_append] at own3)
      | (refine wpList_append_fits _ rfl _ _ 26 rfl w.heap.size 3 i0 1 Tryz.underlying26 HI.out.1 HI.out.2.2.1 w.heap.size k (ks.length + 1) (ints (ks.take k)) rfl (by exact own3.alloc _) ⟨w3.heap.size, 0, none⟩ 1 1 [.int .i64 t] rfl rfl (cells_new w3 _ 3) (fun v hv => by simp at hv; subst hv; rfl) (by omega) ?_; intro w4 own4 g4))
    all_goals
     have G3 := gb_new G2 g3 (Nat.le_refl _)
     have G4 := gb_new G3 (gb_trans (gb_alloc (gb_refl w3 (some w.heap.size)) (.cells #[.int .i64 t] 3)) g4) (Nat.le_refl _)
     have ownA4 := (ownA2.kept g3 (by right; simp [Value.ownBlock]; omega) |>.alloc (.cells #[.int .i64 t] 3)).kept g4 (by right; simp [Value.ownBlock]; omega)
     have HC5 : Hid (∀ (ad : Addr), (ad = ⟨g, 0, none⟩ ∧ sc = k) ∨ ad = ⟨g, k, none⟩ → ∀ j u, (ints (ks.drop k))[j]? = some u → w4.cell? (ad.add j) = some u) := by
      rintro ad (⟨rfl, e⟩ | rfl) j u hj
      · rw [List.drop_of_length_le (by omega)] at hj; simp [ints] at hj
      · rw [ints_drop, List.getElem?_drop] at hj
        have := own_cells1 ownA4 rfl _ u hj
        rw [Addr.add_lit] at this ⊢
        simpa using this
     clear ownA4 ownA2 HA
     rw [rounds_succ]
     go_wp2_with (at_builtin; refine wpList_append_fits _ rfl _ _ 26 rfl w.heap.size 3 i0 1 Tryz.underlying26 HI.out.1 HI.out.2.2.1 w.heap.size (k + 1) (ks.length + 1) _ rfl own4 _ (ks.length - k) _ (ints (ks.drop k)) rfl HL2.out (HC5.out _ (by first | exact Or.inr rfl | exact Or.inl ⟨rfl, by assumption⟩)) (ints_one _) (by omega) ?_; intro w5 own5 g5)
     go_ret
     rw [HN.out, HV.out] at own5
     refine ⟨by rw [HN.out]; rfl, ?_, gb_new G4 g5 (Nat.le_refl _)⟩
     rw [HKE.out]; exact own5

end Go.Proofs.YtcfdemhokbddiaaGreatDoor
