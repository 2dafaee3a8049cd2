/-
  Looking up and laying in at rows of pointers to series (keys: texts): the key, the closure, slices.BinarySearchFunc, order.Find, order.Together of one.
-/
import Derived.Test.YtcfdemhokbddiaaGreatDoorQKc

namespace Go.Proofs.YtcfdemhokbddiaaGreatDoor
open Go.RowKit

set_option maxHeartbeats 400000 in
theorem keyC_any (b : Nat) (s : ByteArray) (w : World) (h : w.cell? ⟨b, 1, none⟩ = some (.string s)) :
    Calls Tryz.prog 98 #[.pointer (some ⟨b, 0, none⟩)] w fun e w' => e = .returned (.string s) ∧ w' = w := by
  go_enter Tryz.func98, Tryz.ntmps98
  go_wp2
  go_ret
  exact ⟨rfl, rfl⟩

set_option maxHeartbeats 400000 in
theorem closC_any (b : Nat) (a c : List UInt8) (kb : Nat) (w : World) (h : w.cell? ⟨b, 1, none⟩ = some (.string (B a))) (hk : w.cell? ⟨kb, 0, none⟩ = some (.func (.func 98) #[] #[])) :
    Calls Tryz.prog 134 #[.pointer (some ⟨b, 0, none⟩), .string (B c), .pointer (some ⟨kb, 0, none⟩)] w fun e w' => e = .returned (.int .i64 (cmpB a c)) ∧ w' = w := by
  go_enter Tryz.func134, Tryz.ntmps134
  go_wp2_with fail
  refine (keyC_any _ _ _ h).mono ?_
  rintro e w1 ⟨rfl, rfl⟩
  go_wp2_with fail
  refine (compare_any a c _).mono ?_
  rintro e w2 ⟨rfl, rfl⟩
  go_wp2
  go_ret
  exact ⟨rfl, rfl⟩

set_option maxHeartbeats 1000000 in
theorem searchC_any (g cap kb : Nat) (ps : List Nat) (ks : List (List UInt8)) (t : List UInt8) (w : World) (hp : PtrsAt w g ps) (hks : Keyed w ps ks) (hl : ks.length ≤ 100) (hsrt : KSrt lt ks)
    (hk : w.cell? ⟨kb, 0, none⟩ = some (.func (.func 98) #[] #[])) :
    Calls Tryz.prog 133 #[.slice (some ⟨g, 0, none⟩) ks.length cap, .string (B t), .func (.func 134) #[] #[.pointer (some ⟨kb, 0, none⟩)]] w
      fun e w' => e = .returned (.tuple #[.int .i64 (kplace lt t ks : Int), .bool (kfnd lt t ks)]) ∧ w' = w := by
  have HS : Hid (KSrt lt ks) := hsrt
  have HP : Hid (PtrsAt w g ps) := hp
  have HK : Hid (Keyed w ps ks) := hks
  clear hsrt hp hks
  go_enter Tryz.func133, Tryz.ntmps133
  go_wp2
  go_loopw [9, 10] (fun i j wr => ∃ (a c : Nat), i = .int .i64 (a : Int) ∧ j = .int .i64 (c : Int) ∧ a ≤ c ∧ c ≤ ks.length ∧ wr = w ∧
      Hid ((∀ k (h : k < ks.length), k < a → lt (ks[k]) t = true) ∧ (∀ k (h : k < ks.length), c ≤ k → lt (ks[k]) t = false)))
    (fun i j _ => (intOf j - intOf i).toNat)
  case atStart => exact ⟨0, ks.length, rfl, rfl, by omega, by omega, rfl, ⟨fun k h h0 => by omega, fun k h h0 => by omega⟩⟩
  case round =>
    obtain ⟨a, c, rfl, rfl, h1, h2, rfl, HI⟩ := hrel
    by_cases hlt : a < c
    · have hm : (a + c) / 2 < ks.length := by omega
      obtain ⟨d0, d1⟩ := keyed_get HP.out HK.out _ hm
      go_wp2_with fail
      refine (closC_any _ _ _ _ _ d1 hk).mono ?_
      rintro e w1 ⟨rfl, rfl⟩
      cases hq : lt (ks[(a + c) / 2]) t with
      | true =>
        have hneg := cmpB_lt hq
        have HQ : Hid (lt (ks[(a + c) / 2]) t = true) := hq
        clear hq
        generalize cmpB (ks[(a + c) / 2]) t = q at hneg ⊢
        go_wp2
        go_roundw
        case rel =>
          refine ⟨(a + c) / 2 + 1, c, by go_num, rfl, by omega, h2, by simp, ⟨fun k h hk => ?_, HI.out.2⟩⟩
          by_cases hk2 : k = (a + c) / 2
          · subst hk2; exact HQ.out
          · exact lt_trans _ _ _ (HS.out.get _ k ((a + c) / 2) hm (by omega)) HQ.out
        case measure => simp [intOf]; omega
      | false =>
        have hneg := cmpB_ge hq
        have HQ : Hid (lt (ks[(a + c) / 2]) t = false) := hq
        clear hq
        generalize cmpB (ks[(a + c) / 2]) t = q at hneg ⊢
        go_wp2
        go_roundw
        case rel =>
          refine ⟨a, (a + c) / 2, rfl, by go_num, by omega, by omega, by simp, ⟨HI.out.1, fun k h hk => ?_⟩⟩
          by_cases hk2 : k = (a + c) / 2
          · subst hk2; exact HQ.out
          · cases hx : lt (ks[k]) t with
            | false => rfl
            | true =>
              have := lt_trans _ _ _ (HS.out.get _ ((a + c) / 2) k h (by omega)) hx
              rw [HQ.out] at this; cases this
        case measure => simp [intOf]; omega
    · obtain rfl : a = c := by omega
      have hp : kplace lt t ks = a := kplace_of lt t ks a h2 HI.out.1 HI.out.2
      by_cases hn : a < ks.length
      · obtain ⟨d0, d1⟩ := keyed_get HP.out HK.out _ hn
        have hge := HI.out.2 a hn (Nat.le_refl _)
        have hf : kfnd lt t ks = (cmpB (ks[a]) t == 0) := by
          rw [cmpB_eq hge]; unfold kfnd; rw [hp, List.getElem?_eq_getElem hn, Bool.eq_iff_iff]; simp
        have HF : Hid (kfnd lt t ks = _) := hf
        have HPl : Hid (kplace lt t ks = a) := hp
        clear hp hf hge
        go_wp2_with fail
        refine (closC_any _ _ _ _ _ d1 hk).mono ?_
        rintro e w1 ⟨rfl, rfl⟩
        go_wp2
        go_ret2
        exact ⟨by rw [HF.out, HPl.out]; rfl, rfl⟩
      · have HF : Hid (kfnd lt t ks = false) := by
          show _ = _; unfold kfnd; rw [hp, List.getElem?_eq_none (by omega)]
        have HPl : Hid (kplace lt t ks = a) := hp
        clear hp
        go_wp2
        go_ret2
        exact ⟨by rw [HF.out, HPl.out]; rfl, rfl⟩

set_option maxHeartbeats 400000 in
theorem findC_some (g cap : Nat) (ps : List Nat) (ks : List (List UInt8)) (t : List UInt8) (w : World) (hp : PtrsAt w g ps) (hks : Keyed w ps ks) (hl : ks.length ≤ 100) (hsrt : KSrt lt ks) :
    Calls Tryz.prog 97 #[.slice (some ⟨g, 0, none⟩) ks.length cap, .func (.func 98) #[] #[], .string (B t)] w
      fun e w' => e = .returned (.tuple #[.int .i64 (kplace lt t ks : Int), .bool (kfnd lt t ks)]) ∧ w.grownBy w' none := by
  have HS : Hid (KSrt lt ks) := hsrt
  have HP : Hid (PtrsAt w g ps) := hp
  have HK : Hid (Keyed w ps ks) := hks
  clear hsrt hp hks
  go_enter Tryz.func97, Tryz.ntmps97
  go_wp2_with fail
  refine (searchC_any g cap w.heap.size ps ks t _ (HP.out.gb (gb_alloc (gb_refl _ _) _)) (HK.out.gb (gb_alloc (gb_refl _ _) _)) hl HS.out (by simp)).mono ?_
  rintro e w1 ⟨rfl, rfl⟩
  go_wp2
  go_ret2
  exact ⟨rfl, gb_alloc (gb_refl _ _) _⟩

set_option maxHeartbeats 400000 in
theorem searchC_none (t : ByteArray) (f : Value) (w : World) :
    Calls Tryz.prog 133 #[.slice none 0 0, .string t, f] w fun e w' => e = .returned (.tuple #[.int .i64 0, .bool false]) ∧ w' = w := by
  go_enter Tryz.func133, Tryz.ntmps133
  go_wp2
  refine wp_loop_rounds 1 ?_
  rw [rounds_succ]
  go_wp2
  go_ret2
  exact ⟨rfl, rfl⟩

set_option maxHeartbeats 400000 in
theorem findC_none (t : ByteArray) (w : World) :
    Calls Tryz.prog 97 #[.slice none 0 0, .func (.func 98) #[] #[], .string t] w fun e w' => e = .returned (.tuple #[.int .i64 0, .bool false]) ∧ w.grownBy w' none := by
  go_enter Tryz.func97, Tryz.ntmps97
  go_wp2_with fail
  refine (searchC_none _ _ _).mono ?_
  rintro e w1 ⟨rfl, rfl⟩
  go_wp2
  go_ret2
  exact ⟨rfl, gb_alloc (gb_refl _ _) _⟩

/-- order.Find in a row of pointers, whatever the row. -/
theorem findC_any (v : Value) (base : Nat) (ps : List Nat) (ks : List (List UInt8)) (t : List UInt8) (w : World) (hown : w.ownsRow base 120 1 v ps.length (ptrs ps)) (hks : Keyed w ps ks) (hl : ks.length ≤ 100) (hsrt : KSrt lt ks) :
    Calls Tryz.prog 97 #[v, .func (.func 98) #[] #[], .string (B t)] w
      fun e w' => e = .returned (.tuple #[.int .i64 (kplace lt t ks : Int), .bool (kfnd lt t ks)]) ∧ w.grownBy w' none := by
  rcases hown.2 with ⟨rfl, h0⟩ | ⟨g, cap, cur, rfl, _⟩
  · have e : ks = [] := List.eq_nil_of_length_eq_zero (by rw [← hks.1]; exact h0)
    subst e
    exact findC_none _ w
  · have h := findC_some g cap ps ks t w (ptrsAt_of hown) hks hl hsrt
    rw [hks.1]; exact h

theorem Tryz.info120 : (Tryz.prog.info? 120).map (fun i => (i.zero, i.size, i.bytes)) = some (some (.pointer none), 1, 8) := by kernel_rfl

set_option maxRecDepth 100000 in
set_option maxHeartbeats 1000000 in
theorem togC_any (v : Value) (base h c2 b : Nat) (ps : List Nat) (ks : List (List UInt8)) (t : List UInt8) (w : World) (hown : w.ownsRow base 120 1 v ps.length (ptrs ps)) (hks : Keyed w ps ks)
    (x0 : w.cell? ⟨h, 0, none⟩ = some (.pointer (some ⟨b, 0, none⟩))) (xk : w.cell? ⟨b, 1, none⟩ = some (.string (B t)))
    (hl : ks.length ≤ 100) (hsrt : KSrt lt ks) (hf : kfnd lt t ks = false) :
    Calls Tryz.prog 101 #[v, .slice (some ⟨h, 0, none⟩) 1 c2, .func (.func 98) #[] #[]] w fun e w' =>
      e = .returned (.slice (some ⟨w.heap.size, 0, none⟩) (ps.length + 1) (ps.length + 1)) ∧ w'.ownsRow w.heap.size 120 1 (.slice (some ⟨w.heap.size, 0, none⟩) (ps.length + 1) (ps.length + 1)) (ps.length + 1) (ptrs (kins ps (kplace lt t ks) b)) ∧ w.grownBy w' none := by
  obtain ⟨i0, hi, hz0, hz1, hz2⟩ := info_parts Tryz.info120
  have HI : Hid (Tryz.prog.info? 120 = some i0 ∧ i0.zero = some (.pointer none) ∧ i0.size = 1 ∧ i0.bytes = 8) := ⟨hi, hz0, hz1, hz2⟩
  have HS : Hid (KSrt lt ks) := hsrt
  have HF : Hid (kfnd lt t ks = false) := hf
  have HKs : Hid (Keyed w ps ks) := hks
  have hpl := kplace_le lt t ks
  have HLEN : Hid (ps.length = ks.length) := hks.1
  rw [← hks.1] at hpl hl
  obtain ⟨sa, sc, rfl, hsc, hsn⟩ := own_shape1 hown
  clear hi hz0 hz1 hz2 hsrt hf hks
  go_enter Tryz.func101, Tryz.ntmps101
  go_wp2_with (at_make; refine wpList_make_own _ rfl _ _ 169 rfl w.heap.size 120 i0 (.pointer none) 1 Tryz.underlying169 HI.out.1 HI.out.2.1 HI.out.2.2.1 .i64 .i64 _ (ps.length + 1) rfl rfl (by go_num) (by rw [HI.out.2.2.2]; omega) (by unfold maxLen; omega) (Nat.le_refl _) ?_; intro w0 own0 g0)
  refine wp_loop_rounds 2 ?_
  rw [rounds_succ]
  have y0 := gb_cell g0 x0 (by simp)
  have yk := gb_cell g0 xk (by simp)
  go_wp2_with fail
  refine (keyC_any _ _ _ yk).mono ?_
  rintro e w1 ⟨rfl, rfl⟩
  have ownA := hown.kept g0 (ownNe _)
  go_wp2_with fail
  refine (findC_any _ base ps ks t _ (by exact ownA) (HKs.out.gb g0) (by rw [← HLEN.out]; exact hl) HS.out).mono ?_
  rintro e w2 ⟨rfl, g2⟩
  rw [HF.out]
  obtain ⟨k, hk⟩ : ∃ k, kplace lt t ks = k := ⟨_, rfl⟩
  rw [hk] at hpl ⊢
  have HKE : Hid (kplace lt t ks = k) := hk
  clear hk
  have own2 := own0.kept g2 (by right; simp [Value.ownBlock])
  have ownA2 := ownA.kept g2 (ownNe _)
  have G2 := gb_trans g0 g2
  have hb1 : (k : Int) ≤ (sc : Int) := by omega
  have hb2 : (k : Int) ≤ (ps.length : Int) := by omega
  have HA : Hid (∀ ad, sa = some ad → ∀ j u, (ptrs (ps.take k))[j]? = some u → w2.cell? (ad.add j) = some u) := by
    rintro ad rfl j u hj
    refine (own_cells1 ownA2 rfl j u ?_)
    rw [ptrs_take] at hj
    rw [List.getElem?_take] at hj
    split at hj
    · exact hj
    · cases hj
  clear ownA
  rcases hsn with ⟨rfl, hn0, rfl⟩ | ⟨g, rfl, hgl⟩
  · obtain rfl : k = 0 := by omega
    have e0 : ps = [] := List.eq_nil_of_length_eq_zero hn0
    subst e0
    clear HA ownA2 hown hb1 hb2
    go_wp2_with (at_builtin; first
      | refine wpList_append_own_none rfl _ _ 169 rfl w.heap.size 120 i0 1 Tryz.underlying169 HI.out.1 _ 0 [] rfl own2 rfl ?_
      | (refine wpList_append_fits _ rfl _ _ 169 rfl w.heap.size 120 i0 1 Tryz.underlying169 HI.out.1 HI.out.2.2.1 w.heap.size 0 1 [] rfl (by exact own2.alloc _) ⟨w2.heap.size, 0, none⟩ 1 1 [.pointer (some ⟨b, 0, none⟩)] rfl rfl (cells_new w2 _ 120) (fun v hv => by simp at hv; subst hv; rfl) (by omega) ?_; intro w3 own3 g3))
    have G3 := gb_new G2 (gb_trans (gb_alloc (gb_refl w2 (some w.heap.size)) (.cells #[.pointer (some ⟨b, 0, none⟩)] 120)) g3) (Nat.le_refl _)
    rw [rounds_succ]
    go_wp2_with (at_builtin; refine wpList_append_own_none rfl _ _ 169 rfl w.heap.size 120 i0 1 Tryz.underlying169 HI.out.1 _ _ _ rfl own3 rfl ?_)
    go_ret
    refine ⟨rfl, ?_, G3⟩
    rw [HKE.out]; exact own3
  · have HV : Hid (ptrs (ps.take k) ++ [Value.pointer (some ⟨b, 0, none⟩)] ++ ptrs (ps.drop k) = ptrs (kins ps k b)) := by
      show _ = _; simp [kins, ptrs]
    have HL1 : Hid ((ptrs (ps.take k)).length = k * 1) := by show _ = _; simp [ptrs]; omega
    have HL2 : Hid ((ptrs (ps.drop k)).length = (ps.length - k) * 1) := by show _ = _; simp [ptrs]
    have HN : Hid (k + 1 + (ps.length - k) = ps.length + 1) := by show _ = _; omega
    clear hown
    go_wp2_with (at_builtin; first
      | (refine wpList_append_fits _ rfl _ _ 169 rfl w.heap.size 120 i0 1 Tryz.underlying169 HI.out.1 HI.out.2.2.1 w.heap.size 0 (ps.length + 1) [] rfl own2 ⟨g, 0, none⟩ k sc (ptrs (ps.take k)) rfl HL1.out (HA.out _ rfl) (ptrs_one _) (by omega) ?_; intro w3 own3 g3; simp only [Nat.zero_add, List.nil_append] at own3)
      | (refine wpList_append_fits _ rfl _ _ 169 rfl w.heap.size 120 i0 1 Tryz.underlying169 HI.out.1 HI.out.2.2.1 w.heap.size k (ps.length + 1) (ptrs (ps.take k)) rfl (by exact own3.alloc _) ⟨w3.heap.size, 0, none⟩ 1 1 [.pointer (some ⟨b, 0, none⟩)] rfl rfl (cells_new w3 _ 120) (fun v hv => by simp at hv; subst hv; rfl) (by omega) ?_; intro w4 own4 g4))
    all_goals
     have G3 := gb_new G2 g3 (Nat.le_refl _)
     have G4 := gb_new G3 (gb_trans (gb_alloc (gb_refl w3 (some w.heap.size)) (.cells #[.pointer (some ⟨b, 0, none⟩)] 120)) g4) (Nat.le_refl _)
     have ownA4 := (ownA2.kept g3 (by right; simp [Value.ownBlock]; omega) |>.alloc (.cells #[.pointer (some ⟨b, 0, none⟩)] 120)).kept g4 (by right; simp [Value.ownBlock]; omega)
     have HC5 : Hid (∀ (ad : Addr), (ad = ⟨g, 0, none⟩ ∧ sc = k) ∨ ad = ⟨g, k, none⟩ → ∀ j u, (ptrs (ps.drop k))[j]? = some u → w4.cell? (ad.add j) = some u) := by
      rintro ad (⟨rfl, e⟩ | rfl) j u hj
      · rw [List.drop_of_length_le (by omega)] at hj; simp [ptrs] at hj
      · rw [ptrs_drop, List.getElem?_drop] at hj
        have := own_cells1 ownA4 rfl _ u hj
        rw [Addr.add_lit] at this ⊢
        simpa using this
     clear ownA4 ownA2 HA
     rw [rounds_succ]
     go_wp2_with (at_builtin; refine wpList_append_fits _ rfl _ _ 169 rfl w.heap.size 120 i0 1 Tryz.underlying169 HI.out.1 HI.out.2.2.1 w.heap.size (k + 1) (ps.length + 1) _ rfl own4 _ (ps.length - k) _ (ptrs (ps.drop k)) rfl HL2.out (HC5.out _ (by first | exact Or.inr rfl | exact Or.inl ⟨rfl, by assumption⟩)) (ptrs_one _) (by omega) ?_; intro w5 own5 g5)
     go_ret
     rw [HN.out, HV.out] at own5
     refine ⟨by rw [HN.out]; rfl, ?_, gb_new G4 g5 (Nat.le_refl _)⟩
     rw [HKE.out]; exact own5

end Go.Proofs.YtcfdemhokbddiaaGreatDoor
