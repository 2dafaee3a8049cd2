/-
  The document's readings in its board; its Tick, walked.
-/
import Derived.Test.YtcfdemhokbddiaaGreatDoorQDh
import Derived.Test.YtcfdemhokbddiaaGreatDoorQLf

namespace Go.Proofs.YtcfdemhokbddiaaGreatDoor
open Go.RowKit

/-- The cells of the document's board. -/
def bdL (fv sv : Value) (ds : List RD) (time : Int) : List Value := fv :: sv :: (ds.flatMap rdCells ++ [.int .i64 time])
theorem rdFlat_len (ds : List RD) : (ds.flatMap rdCells).length = ds.length * 3 := flat_len3 rdCells (fun _ => rfl) ds
theorem bdL_get (fv sv : Value) (ds : List RD) (time : Int) (k j : Nat) (hk : k < ds.length) (hj : j < 3) : (bdL fv sv ds time)[2 + k * 3 + j]? = (rdCells ds[k])[j]? := by
  unfold bdL
  rw [show 2 + k * 3 + j = (k * 3 + j) + 1 + 1 by omega, List.getElem?_cons_succ, List.getElem?_cons_succ, List.getElem?_append_left (by rw [rdFlat_len]; omega)]
  exact flat3_get rdCells (fun _ => rfl) ds k hk j hj
theorem bdL_time (fv sv : Value) (ds : List RD) (time : Int) (h : ds.length = 3) : (bdL fv sv ds time)[11]? = some (.int .i64 time) := by
  unfold bdL
  rw [show 11 = 9 + 1 + 1 by omega, List.getElem?_cons_succ, List.getElem?_cons_succ, List.getElem?_append_right (by rw [rdFlat_len]; omega), rdFlat_len, h]
  rfl
theorem flat_put (f : RD → List Value) (hf : ∀ x, (f x).length = 3) : ∀ (ds : List RD) (k j : Nat) (v : Value) (d' : RD) (hk : k < ds.length), j < 3 → f d' = (f ds[k]).set j v → (ds.flatMap f).set (k * 3 + j) v = (ds.set k d').flatMap f
  | [], _, _, _, _, hk, _, _ => by simp at hk
  | d :: ds, 0, j, v, d', _, hj, h => by
    simp only [List.flatMap_cons, List.set_cons_zero]
    rw [List.set_append_left _ _ (by rw [hf]; omega)]
    simp only [List.getElem_cons_zero] at h
    rw [Nat.zero_mul, Nat.zero_add, ← h]
  | d :: ds, k + 1, j, v, d', hk, hj, h => by
    simp only [List.flatMap_cons, List.set_cons_succ]
    rw [List.set_append_right _ _ (by rw [hf]; omega), hf, show (k + 1) * 3 + j - 3 = k * 3 + j by omega]
    simp only [List.getElem_cons_succ] at h
    rw [flat_put f hf ds k j v d' (by simpa using hk) hj h]
theorem bdL_put (fv sv : Value) (ds : List RD) (time : Int) (k j : Nat) (v : Value) (d' : RD) (hk : k < ds.length) (hj : j < 3) (h : rdCells d' = (rdCells ds[k]).set j v) : (bdL fv sv ds time).set (2 + k * 3 + j) v = bdL fv sv (ds.set k d') time := by
  unfold bdL
  rw [show 2 + k * 3 + j = (k * 3 + j) + 1 + 1 by omega, List.set_cons_succ, List.set_cons_succ, List.set_append_left _ _ (by rw [rdFlat_len]; omega), flat_put rdCells (fun _ => rfl) ds k j v d' hk hj h]
theorem bdL_putT (fv sv : Value) (ds : List RD) (time t' : Int) (h : ds.length = 3) : (bdL fv sv ds time).set 11 (.int .i64 t') = bdL fv sv ds t' := by
  unfold bdL
  rw [show 11 = 9 + 1 + 1 by omega, List.set_cons_succ, List.set_cons_succ, List.set_append_right _ _ (by rw [rdFlat_len]; omega), rdFlat_len, h]
  rfl

/-- The board's block stands so, and nothing else was turned. -/
structure BdAt (b : Nat) (fv sv : Value) (ds : List RD) (time : Int) (w w' : World) : Prop where
  blk : w'.heap[b]? = some (.cells (bdL fv sv ds time).toArray 149)
  kept : Kept [b] w w'
section
variable {b : Nat} {fv sv : Value} {ds : List RD} {time : Int} {w w' : World}
theorem BdAt.cell (h : BdAt b fv sv ds time w w') (k j : Nat) (v : Value) (hk : k < ds.length) (hj : j < 3) (hv : (rdCells ds[k])[j]? = some v) : w'.cell? ⟨b, 2 + k * 3 + j, none⟩ = some v := by
  unfold World.cell?
  simp only [h.blk]
  rw [List.getElem?_toArray, bdL_get fv sv ds time k j hk hj, hv]
  rfl
theorem BdAt.timeC (h : BdAt b fv sv ds time w w') (h3 : ds.length = 3) : w'.cell? ⟨b, 11, none⟩ = some (.int .i64 time) := by
  unfold World.cell?
  simp only [h.blk]
  rw [List.getElem?_toArray, bdL_time fv sv ds time h3]
  rfl
theorem BdAt.froz (h : BdAt b fv sv ds time w w') (o : Nat) : w'.frozen? ⟨b, o, none⟩ = false := by
  unfold World.frozen?
  simp only [h.blk]; simp
theorem BdAt.gb {w2 : World} (h : BdAt b fv sv ds time w w') (hg : w'.grownBy w2 none) : BdAt b fv sv ds time w w2 :=
  ⟨(hg.block b (lt_of h.blk) (by simp)).trans h.blk, h.kept.trans (Kept.of_none hg _)⟩
theorem BdAt.set (h : BdAt b fv sv ds time w w') (o : Nat) (v : Value) (ds' : List RD) (t' : Int) (e : (bdL fv sv ds time).set o v = bdL fv sv ds' t') : BdAt b fv sv ds' t' w (w'.setCell ⟨b, o, none⟩ v) := by
  refine ⟨?_, h.kept.os, h.kept.tape, h.kept.output, by simpa using h.kept.size, fun k hk hn => ?_⟩
  · rw [text_set h.blk, ← e]
    simp
  · rw [Below.heap_setCell _ _ _ _ (by show k ≠ b; simpa using hn)]
    exact h.kept.block k hk hn
end
/-- A tick, of one reading. -/
def tkD (time : Int) (d : RD) : RD := if time - d.last = 5 then { d with there := false } else d
def tkTo (time : Int) (ds : List RD) (k : Nat) : List RD := (ds.take k).map (tkD time) ++ ds.drop k
theorem tkTo_len (time : Int) (ds : List RD) (k : Nat) : (tkTo time ds k).length = ds.length := by
  unfold tkTo; simp; omega
theorem tkTo_get (time : Int) (ds : List RD) (k : Nat) (h : k < ds.length) : (tkTo time ds k)[k]'(by rw [tkTo_len]; exact h) = ds[k] := by
  unfold tkTo
  rw [List.getElem_append_right (by simp; omega)]
  simp [Nat.min_eq_left (Nat.le_of_lt h)]
theorem tkTo_succ (time : Int) (ds : List RD) (k : Nat) (h : k < ds.length) : (tkTo time ds k).set k (tkD time ds[k]) = tkTo time ds (k + 1) := by
  unfold tkTo
  rw [List.set_append_right _ _ (by simp; omega), take_snoc' ds k h, List.map_append, List.append_assoc]
  have e : (List.map (tkD time) (ds.take k)).length = k := by simp; omega
  rw [e, Nat.sub_self, List.drop_eq_getElem_cons h]
  rfl

theorem tkTo_all (time : Int) (ds : List RD) (k : Nat) (h : ds.length ≤ k) : tkTo time ds k = ds.map (tkD time) := by
  unfold tkTo
  rw [List.take_of_length_le h, List.drop_of_length_le h, List.append_nil]

set_option maxRecDepth 100000 in
set_option maxHeartbeats 2000000 in
theorem refTick_any (b : Nat) (fv sv : Value) (ds : List RD) (time : Int) (w : World) (hb : w.heap[b]? = some (.cells (bdL fv sv ds time).toArray 149)) (h3 : ds.length = 3) (hl : ∀ d ∈ ds, 0 ≤ d.last ∧ d.last ≤ time) (ht : 0 ≤ time ∧ time ≤ 1000000000000) :
    Calls Tryz.prog 56 #[.pointer (some ⟨b, 0, none⟩)] w fun e w' => e = .returned (.tuple #[]) ∧ BdAt b fv sv (ds.map (tkD (time + 1))) (time + 1) w w' := by
  have H0 : BdAt b fv sv ds time w w := ⟨hb, Kept.refl _ _⟩
  have c0 := H0.timeC h3
  have z0 := H0.froz 11
  have H1 : Hid (BdAt b fv sv ds (time + 1) w (w.setCell ⟨b, 11, none⟩ (.int .i64 (time + 1)))) := H0.set 11 _ ds (time + 1) (bdL_putT fv sv ds time (time + 1) h3)
  have HL : Hid (∀ d ∈ ds, 0 ≤ d.last ∧ d.last ≤ time) := hl
  clear H0 hb hl
  go_enter Tryz.func56, Tryz.ntmps56
  go_wp2_with fail
  clear c0 z0
  go_loopw [2] (fun i wr => ∃ k : Nat, i = .int .i64 (k : Int) ∧ k ≤ 3 ∧ Hid (BdAt b fv sv (tkTo (time + 1) ds k) (time + 1) w wr)) (fun i _ => 3 - (intOf i).toNat)
  case atStart => exact ⟨0, rfl, by omega, H1.out⟩
  case round =>
    clear H1
    obtain ⟨k, rfl, hk, HB⟩ := hrel
    by_cases hk3 : k < 3
    · have hkd : k < ds.length := by omega
      have hkt : k < (tkTo (time + 1) ds k).length := by rw [tkTo_len]; exact hkd
      have c1 := HB.out.timeC (by rw [tkTo_len]; exact h3)
      have c2 := HB.out.cell k 1 (.int .i64 (ds[k]).last) hkt (by omega) (by rw [tkTo_get _ _ _ hkd]; rfl)
      have c3 := HB.out.cell k 2 (.bool (ds[k]).there) hkt (by omega) (by rw [tkTo_get _ _ _ hkd]; rfl)
      have z2 := HB.out.froz (2 + k * 3 + 2)
      have hd := HL.out ds[k] (List.getElem_mem hkd)
      have HSet : Hid (∀ d', tkD (time + 1) ds[k] = d' → ∀ v, rdCells d' = (rdCells ds[k]).set 2 v → ∀ q, BdAt b fv sv (tkTo (time + 1) ds (k + 1)) (time + 1) w ((wr.drewN q).setCell ⟨b, 2 + k * 3 + 2, none⟩ v)) := fun d' e v hv q => by
        refine (HB.out.gb (gb_drewN _ q _)).set _ v _ _ ?_
        rw [bdL_put _ _ _ _ k 2 v d' hkt (by omega) (by rw [tkTo_get _ _ _ hkd]; exact hv), ← e, tkTo_succ _ _ _ hkd]
      have HSame : Hid (tkD (time + 1) ds[k] = ds[k] → BdAt b fv sv (tkTo (time + 1) ds (k + 1)) (time + 1) w wr) := fun e => by
        rw [← tkTo_succ _ _ _ hkd, e]
        have e2 : (tkTo (time + 1) ds k).set k ds[k] = tkTo (time + 1) ds k := by
          conv => lhs; rw [← tkTo_get (time + 1) ds k hkd]
          exact List.set_getElem_self hkt
        rw [e2]; exact HB.out
      obtain ⟨d, hdd⟩ : ∃ d, ds[k] = d := ⟨_, rfl⟩
      rw [hdd] at c2 c3 hd HSet HSame
      have hki : (k : Int) < 3 := by omega
      by_cases h5 : time + 1 - d.last = 5
      · have HN : Hid (∀ q, BdAt b fv sv (tkTo (time + 1) ds (k + 1)) (time + 1) w ((wr.drewN q).setCell ⟨b, 2 + k * 3 + 2, none⟩ (.bool false))) := HSet.out _ rfl _ (by unfold tkD; rw [if_pos h5]; rfl)
        clear HSet HSame hdd
        go_wp2_with fail
        try go_quiet (fail)
        go_wp2
        go_roundw
        case rel => exact ⟨k + 1, by go_num, by omega, by first | exact HN.out _ | exact HN.out 0⟩
        case measure => simp [intOf]; omega
      · have HN : Hid (BdAt b fv sv (tkTo (time + 1) ds (k + 1)) (time + 1) w wr) := HSame.out (by unfold tkD; rw [if_neg h5])
        clear HSet HSame hdd
        go_wp2_with fail
        try go_quiet (fail)
        go_wp2
        go_roundw
        case rel => exact ⟨k + 1, by go_num, by omega, by first | exact HN.out | exact HN.out.gb (gb_drewN _ _ _)⟩
        case measure => simp [intOf]; omega
    · have hki : ¬ (k : Int) < 3 := by omega
      have HE : Hid (BdAt b fv sv (ds.map (tkD (time + 1))) (time + 1) w wr) := by rw [← tkTo_all (time + 1) ds k (by omega)]; exact HB.out
      go_wp2
      go_end0
      exact ⟨rfl, HE.out⟩

end Go.Proofs.YtcfdemhokbddiaaGreatDoor

/-
  The document's Open, walked.
-/
namespace Go.Proofs.YtcfdemhokbddiaaGreatDoor
open Go.RowKit

theorem BdAt.put {b : Nat} {fv sv : Value} {ds : List RD} {time : Int} {w w' : World} (h : BdAt b fv sv ds time w w') (k j : Nat) (v : Value) (d' : RD) (hk : k < ds.length) (hj : j < 3) (hv : rdCells d' = (rdCells ds[k]).set j v) : BdAt b fv sv (ds.set k d') time w (w'.setCell ⟨b, 2 + k * 3 + j, none⟩ v) :=
  h.set _ v _ _ (bdL_put fv sv ds time k j v d' hk hj hv)
theorem BdAt.put3 {b : Nat} {fv sv : Value} {ds : List RD} {time : Int} {w w' : World} (h : BdAt b fv sv ds time w w') (k : Nat) (v : Value) (l : Int) (t : Bool) (hk : k < ds.length) :
    BdAt b fv sv (ds.set k ⟨v, l, t⟩) time w (((w'.setCell ⟨b, 2 + k * 3, none⟩ v).setCell ⟨b, 2 + k * 3 + 1, none⟩ (.int .i64 l)).setCell ⟨b, 2 + k * 3 + 2, none⟩ (.bool t)) := by
  have h1 := h.put k 0 v ⟨v, (ds[k]).last, (ds[k]).there⟩ hk (by omega) rfl
  have h2 := h1.put k 1 (.int .i64 l) ⟨v, l, (ds[k]).there⟩ (by simpa using hk) (by omega) (by rw [List.getElem_set_self]; rfl)
  have h3 := h2.put k 2 (.bool t) ⟨v, l, t⟩ (by simpa using hk) (by omega) (by rw [List.getElem_set_self]; rfl)
  rw [List.set_set, List.set_set] at h3
  exact h3
theorem set_other {w : World} {a : Addr} {v : Value} {b : Nat} (h : b ≠ a.block) : (w.setCell a v).heap[b]? = w.heap[b]? := Below.heap_setCell _ _ _ _ h

set_option maxRecDepth 100000 in
set_option maxHeartbeats 2000000 in
theorem refOpen_bad (r : RB) (fr : List UInt8) (w : World) (hf : fr ≠ []) (hn : isNameB fr = false) :
    Calls Tryz.prog 52 #[.pointer (some ⟨r.b, 0, none⟩), .string (B fr)] w fun e w' => e = .returned (.tuple #[.int .i64 0, .int .i64 2]) ∧ w' = w := by
  have HN := refIsName_any (B fr) w
  rw [data_B, hn] at HN
  have HI : Hid (Calls Tryz.prog 81 #[.string (B fr)] w _) := HN
  have hE : ¬ (B fr).toList = [] := by rw [toList_B]; exact hf
  have hemp : (B fr).toList.isEmpty = false := by rw [toList_B]; cases fr with | nil => exact absurd rfl hf | cons _ _ => rfl
  clear HN
  go_enter Tryz.func52, Tryz.ntmps52
  go_wp2_with fail
  refine HI.out.mono ?_
  rintro e w1 ⟨rfl, rfl⟩
  go_wp2
  exact bodyPost_ret (v := .tuple #[.int .i64 0, .int .i64 2]) (by simp [results, Tryz.results52, go_sem]) rfl ⟨rfl, rfl⟩

set_option maxRecDepth 100000 in
set_option maxHeartbeats 4000000 in
theorem refOpen_any (T : List Fam) (r : RB) (fr : List UInt8) (ds : List RD) (time : Int) (w : World) (h : DC w T r) (hrest : r.rest = ds.flatMap rdCells ++ [.int .i64 time]) (h3 : ds.length = 3) (hok : fr = [] ∨ isNameB fr = true) :
    Calls Tryz.prog 52 #[.pointer (some ⟨r.b, 0, none⟩), .string (B fr)] w fun e w' =>
      (e = .returned (.tuple #[.int .i64 0, .int .i64 7]) ∧ (∀ d ∈ ds, d.there = true) ∧ w' = w) ∨
      (∃ i, ∃ hi : i < ds.length, e = .returned (.tuple #[.int .i64 (i : Int), .int .i64 0]) ∧ (ds[i]).there = false ∧ (∀ j (hj : j < ds.length), j < i → (ds[j]).there = true) ∧ ∃ v, BdAt r.b r.fv r.sv (ds.set i ⟨v, time, true⟩) time w w' ∧ w'.ownsRow w.heap.size 9 1 v (linTo T fr T.length).length (strs (linTo T fr T.length))) := by
  have H0 : BdAt r.b r.fv r.sv ds time w w := ⟨by have := h.at_.blk; rw [hrest] at this; exact this, Kept.refl _ _⟩
  have HB0 : Hid (BdAt r.b r.fv r.sv ds time w w) := H0
  have HI : Hid (Calls Tryz.prog 81 #[.string (B fr)] w _) := refIsName_any (B fr) w
  have HLI : Hid (Calls Tryz.prog 86 #[.pointer (some ⟨r.b, 0, none⟩), .string (B fr)] w _) := lines86_any T r fr w h
  have HOK : Hid (fr = [] ∨ isNameB fr = true) := hok
  clear H0 h hok hrest
  go_enter Tryz.func52, Tryz.ntmps52
  go_wp2_with fail
  refine HI.out.mono ?_
  rintro e w1 ⟨rfl, rfl⟩
  rw [data_B]
  have hcase : ((B fr).toList = [] ∧ (B fr).toList.isEmpty = true) ∨ (¬ (B fr).toList = [] ∧ (B fr).toList.isEmpty = false ∧ isNameB fr = true) := by
    rw [toList_B]
    by_cases e : fr = []
    · left; subst e; exact ⟨rfl, rfl⟩
    · right
      refine ⟨e, ?_, HOK.out.resolve_left e⟩
      cases fr with | nil => exact absurd rfl e | cons _ _ => rfl
  generalize isNameB fr = nb at hcase
  rcases hcase with ⟨hE, hemp⟩ | ⟨hE, hemp, hnb⟩
  all_goals
    go_wp2_with fail
    go_loopw [7] (fun i wr => ∃ k : Nat, i = .int .i64 (k : Int) ∧ k ≤ 3 ∧ wr = w1 ∧ Hid (∀ j (hj : j < ds.length), j < k → (ds[j]).there = true)) (fun i _ => 3 - (intOf i).toNat)
    case atStart => exact ⟨0, rfl, by omega, rfl, fun j _ h => by omega⟩
    case round =>
      obtain ⟨k, rfl, hk, rfl, HT⟩ := hrel
      by_cases hk3 : k < 3
      · have hkd : k < ds.length := by omega
        have c2 := HB0.out.cell k 2 (.bool (ds[k]).there) hkd (by omega) rfl
        have hki : (k : Int) < 3 := by omega
        cases ht : (ds[k]).there with
        | true =>
          rw [ht] at c2
          have HN : Hid (∀ j (hj : j < ds.length), j < k + 1 → (ds[j]).there = true) := fun j hj hjk => by
            by_cases e : j = k
            · subst e; exact ht
            · exact HT.out j hj (by omega)
          clear ht
          go_wp2
          go_roundw
          case rel => exact ⟨k + 1, by go_num, by omega, trivial, HN.out⟩
          case measure => simp [intOf]; omega
        | false =>
          rw [ht] at c2
          have HTF : Hid ((ds[k]).there = false) := ht
          clear ht
          go_wp2_with fail
          refine HLI.out.mono ?_
          rintro e w2 ⟨v, rfl, hrow, g2⟩
          obtain ⟨va, vc, rfl, _, _⟩ := own_shape1 hrow
          have HB2 : Hid (BdAt r.b r.fv r.sv ds time wr w2) := HB0.out.gb g2
          have HRW : Hid (w2.ownsRow wr.heap.size 9 1 (.slice va (linTo T fr T.length).length vc) (linTo T fr T.length).length (strs (linTo T fr T.length))) := hrow
          have d0 := HB2.out.cell k 0 (ds[k]).lv hkd (by omega) rfl
          have d1 := HB2.out.cell k 1 (.int .i64 (ds[k]).last) hkd (by omega) rfl
          have d2 := HB2.out.cell k 2 (.bool (ds[k]).there) hkd (by omega) rfl
          have dt := HB2.out.timeC h3
          have z0 := HB2.out.froz (2 + k * 3)
          have z1 := HB2.out.froz (2 + k * 3 + 1)
          have z2 := HB2.out.froz (2 + k * 3 + 2)
          rw [Nat.add_zero] at d0
          clear hrow g2
          go_wp2_with fail
          go_region
          all_goals go_wp2
          all_goals
            have hrb : r.b < wr.heap.size := lt_of HB0.out.blk
            refine bodyPost_ret (v := .tuple #[.int .i64 (k : Int), .int .i64 0]) (by simp [results, Tryz.results52, go_sem]) rfl (Or.inr ⟨k, hkd, rfl, HTF.out, HT.out, _, (HB2.out.put3 k _ time true hkd).gb (gb_drew (gb_refl _ _)), own_frame HRW.out fun b hb => ?_⟩)
            have hbl := own_base HRW.out b hb
            show (World.setCell _ _ _).heap[b]? = _
            rw [set_other (by show b ≠ r.b; omega), set_other (by show b ≠ r.b; omega), set_other (by show b ≠ r.b; omega)]
      · have hki : ¬ (k : Int) < 3 := by omega
        have HA : Hid (∀ d ∈ ds, d.there = true) := fun d hd => by
          obtain ⟨j, hj, rfl⟩ := List.getElem_of_mem hd
          exact HT.out j hj (by omega)
        go_wp2
        exact bodyPost_ret (v := .tuple #[.int .i64 0, .int .i64 7]) (by simp [results, Tryz.results52, go_sem]) rfl (Or.inl ⟨rfl, HA.out, rfl⟩)

end Go.Proofs.YtcfdemhokbddiaaGreatDoor

/-
  The document's Page, walked.
-/
namespace Go.Proofs.YtcfdemhokbddiaaGreatDoor
open Go.RowKit

/-- append of a list of texts, wherever it lies, onto a row of one's own. -/
theorem run_append_sl (w : World) (base : Nat) (v : Value) (n : Nat) (xs : List Value) (hv : w.ownsRow base 9 1 v n xs) (u : Value) (ls : List (List UInt8)) (hu : StrSl w u ls) (hb : base ≤ w.heap.size) (hn : n + ls.length ≤ 100000) :
    ∃ v' w', (Builtin.append_ #[32, 32] 32 #[v, u]).run Tryz.prog w = .ok v' w' ∧ w'.ownsRow base 9 1 v' (n + ls.length) (xs ++ strs ls) ∧ w.grownBy w' v.ownBlock := by
  obtain ⟨i0, hi, hz0, hz1, hz2⟩ := info_parts Tryz.info9
  obtain ⟨sa, cap, rfl, hc, hz, hp⟩ := hu
  have h1c : ∀ u ∈ strs ls, u.oneCell' = true := fun u hu => by
    simp only [strs, List.mem_map] at hu
    obtain ⟨a, _, rfl⟩ := hu
    rfl
  cases sa with
  | none =>
    have hc0 := hz rfl
    have hl0 : ls = [] := List.eq_nil_of_length_eq_zero (by omega)
    subst hl0 hc0
    refine ⟨v, w, run_append_owned_none w base 32 32 9 i0 1 Tryz.underlying32 hi v n xs hv, ?_, gb_refl _ _⟩
    simpa [strs] using hv
  | some a =>
    have hnews : ∀ j u, (strs ls)[j]? = some u → w.cell? (a.add j) = some u := fun j u hj => by
      rcases hp with rfl | ⟨b, off, e, _, hcell⟩
      · simp [strs] at hj
      · cases e
        have hjl : j < ls.length := by
          have := (List.getElem?_eq_some_iff.1 hj).1
          simpa [strs] using this
        rw [Addr.add_lit, hcell j hjl]
        simpa [strs, hjl] using hj
    obtain ⟨v', w', h1, h2, h3, _⟩ := run_append_own (P := Tryz.prog) w base 32 32 9 i0 (.string ⟨#[]⟩) 1 16 Tryz.underlying32 hi hz0 hz1 hz2 rfl (by omega) v n xs hv a ls.length cap (strs ls) (by simp [strs]) hnews h1c (by unfold maxLen; omega) (by omega) hb
    exact ⟨v', w', h1, h2, h3⟩
theorem wpList_append_sl (w : World) {ops : Array Oper} {rest : List Oper} {o : Oper} {a : Act} {Q : Exit → Act → World → Prop} (hg : o.guard = none) (s x : Operand) (hop : o.op = Op.call { callee := Callee.builtin Builtin.append, args := #[s, x], argTypes := #[32, 32] }) (hty : o.type = 32)
    (base : Nat) (v : Value) (n : Nat) (xs : List Value) (hs : a.eval s = v) (hv : w.ownsRow base 9 1 v n xs) (u : Value) (ls : List (List UInt8)) (hx : a.eval x = u) (hu : StrSl w u ls) (hb : base ≤ w.heap.size) (hn : n + ls.length ≤ 100000)
    (hK : ∀ v' w', w'.ownsRow base 9 1 v' (n + ls.length) (xs ++ strs ls) → w.grownBy w' v.ownBlock → wpList Tryz.prog ops Q rest (a.put o.dst v') w') : wpList Tryz.prog ops Q (o :: rest) a w := by
  refine wpList_plain hg fun K hK' => ?_
  obtain ⟨v', w', hrun, r1, r2⟩ := run_append_sl w base v n xs hv u ls hu hb hn
  unfold Oper.wp
  simp [execOp, hop, hty, resolve, invoke, builtin, hs, hx, hrun, Result.andThen]
  exact hK' _ _ (hK v' w' r1 r2)

section
variable {b : Nat} {fv sv : Value} {ds : List RD} {time : Int} {w : World}
set_option maxRecDepth 100000 in
set_option maxHeartbeats 2000000 in
theorem refPage_out (n k : Int) (w : World) (b : Nat) (hn : n < 0 ∨ 2 < n) :
    Calls Tryz.prog 53 #[.pointer (some ⟨b, 0, none⟩), .int .i64 n, .int .i64 k] w fun e w' => e = .returned (.tuple #[.slice none 0 0, .bool false, .int .i64 8]) ∧ w.grownBy w' none := by
  rcases hn with hn | hn
  · go_enter Tryz.func53, Tryz.ntmps53
    go_wp2
    exact bodyPost_ret (v := .tuple #[.slice none 0 0, .bool false, .int .i64 8]) (by simp [results, Tryz.results53, go_sem]) rfl ⟨rfl, by first | exact gb_refl _ _ | exact gb_drewN _ _ _⟩
  · have hn0 : ¬ n < 0 := by omega
    go_enter Tryz.func53, Tryz.ntmps53
    go_wp2
    exact bodyPost_ret (v := .tuple #[.slice none 0 0, .bool false, .int .i64 8]) (by simp [results, Tryz.results53, go_sem]) rfl ⟨rfl, by first | exact gb_refl _ _ | exact gb_drewN _ _ _⟩

set_option maxRecDepth 100000 in
set_option maxHeartbeats 2000000 in
theorem refPage_no (i : Nat) (k : Int) (h : BdAt b fv sv ds time w w) (h3 : ds.length = 3) (hi : i < ds.length) (ht : (ds[i]).there = false) :
    Calls Tryz.prog 53 #[.pointer (some ⟨b, 0, none⟩), .int .i64 (i : Int), .int .i64 k] w fun e w' => e = .returned (.tuple #[.slice none 0 0, .bool false, .int .i64 8]) ∧ w.grownBy w' none := by
  have c2 := h.cell i 2 (.bool (ds[i]).there) hi (by omega) rfl
  rw [ht] at c2
  have hi3 : (i : Int) < 3 := by omega
  have hi2 : ¬ (2 : Int) < (i : Int) := by omega
  clear h ht
  go_enter Tryz.func53, Tryz.ntmps53
  go_wp2
  exact bodyPost_ret (v := .tuple #[.slice none 0 0, .bool false, .int .i64 8]) (by simp [results, Tryz.results53, go_sem]) rfl ⟨rfl, by first | exact gb_refl _ _ | exact gb_drewN _ _ _⟩

set_option maxRecDepth 100000 in
set_option maxHeartbeats 2000000 in
theorem refPage_arg (i : Nat) (k : Int) (h : BdAt b fv sv ds time w w) (h3 : ds.length = 3) (hi : i < ds.length) (ht : (ds[i]).there = true) (hk : k < 1 ∨ 20 < k) :
    Calls Tryz.prog 53 #[.pointer (some ⟨b, 0, none⟩), .int .i64 (i : Int), .int .i64 k] w fun e w' => e = .returned (.tuple #[.slice none 0 0, .bool false, .int .i64 4]) ∧ w.grownBy w' none := by
  have c2 := h.cell i 2 (.bool (ds[i]).there) hi (by omega) rfl
  rw [ht] at c2
  have hi3 : (i : Int) < 3 := by omega
  have hi2 : ¬ (2 : Int) < (i : Int) := by omega
  clear h ht
  rcases hk with hk | hk
  · go_enter Tryz.func53, Tryz.ntmps53
    go_wp2
    exact bodyPost_ret (v := .tuple #[.slice none 0 0, .bool false, .int .i64 4]) (by simp [results, Tryz.results53, go_sem]) rfl ⟨rfl, by first | exact gb_refl _ _ | exact gb_drewN _ _ _⟩
  · have hk1 : ¬ k < 1 := by omega
    go_enter Tryz.func53, Tryz.ntmps53
    go_wp2
    exact bodyPost_ret (v := .tuple #[.slice none 0 0, .bool false, .int .i64 4]) (by simp [results, Tryz.results53, go_sem]) rfl ⟨rfl, by first | exact gb_refl _ _ | exact gb_drewN _ _ _⟩
end

end Go.Proofs.YtcfdemhokbddiaaGreatDoor

/-
  The document's Page where it tells lines.
-/
namespace Go.Proofs.YtcfdemhokbddiaaGreatDoor
open Go.RowKit

section
variable {b : Nat} {fv sv : Value} {ds : List RD} {time : Int} {w : World}
set_option maxRecDepth 100000 in
set_option maxHeartbeats 4000000 in
theorem refPage_more (i kk : Nat) (L : List (List UInt8)) (h : BdAt b fv sv ds time w w) (h3 : ds.length = 3) (hi : i < ds.length) (ht : (ds[i]).there = true) (h1 : 1 ≤ kk) (h20 : kk ≤ 20) (hL : StrSl w (ds[i]).lv L) (hk : kk < L.length) (hbn : b ∉ slBlk (ds[i]).lv) :
    Calls Tryz.prog 53 #[.pointer (some ⟨b, 0, none⟩), .int .i64 (i : Int), .int .i64 (kk : Int)] w fun e w' => ∃ v lv', e = .returned (.tuple #[v, .bool true, .int .i64 0]) ∧ w'.ownsRow w.heap.size 9 1 v kk (strs (L.take kk)) ∧ BdAt b fv sv (ds.set i ⟨lv', time, true⟩) time w w' ∧ StrSl w' lv' (L.drop kk) ∧ slBlk lv' = slBlk (ds[i]).lv := by
  have c0 := h.cell i 0 (ds[i]).lv hi (by omega) rfl
  have c1 := h.cell i 1 (.int .i64 (ds[i]).last) hi (by omega) rfl
  have c2 := h.cell i 2 (.bool (ds[i]).there) hi (by omega) rfl
  have ct := h.timeC h3
  have z0 := h.froz (2 + i * 3)
  have z1 := h.froz (2 + i * 3 + 1)
  have z2 := h.froz (2 + i * 3 + 2)
  rw [Nat.add_zero] at c0
  rw [ht] at c2
  obtain ⟨lv, hlv⟩ : ∃ lv, (ds[i]).lv = lv := ⟨_, rfl⟩
  rw [hlv] at c0 hL hbn ⊢
  have hL0 := hL
  obtain ⟨sa, cap, rfl, hcap, _, hp⟩ := hL
  obtain ⟨lb, lo, rfl, hlb, hcell⟩ : ∃ lb lo, sa = some ⟨lb, lo, none⟩ ∧ lb < w.heap.size ∧ ∀ k (h : k < L.length), w.cell? ⟨lb, lo + k, none⟩ = some (.string (B L[k])) := by
    rcases hp with hp | ⟨lb, lo, e, h1, h2⟩
    · rw [hp] at hk; simp at hk
    · exact ⟨lb, lo, e, h1, h2⟩
  have HT : Hid (StrSl w (.slice (some ⟨lb, lo, none⟩) kk cap) (L.take kk)) := by
    have e : (L.take kk).length = kk := by rw [List.length_take]; omega
    refine ⟨some ⟨lb, lo, none⟩, cap, by rw [e], by omega, fun h => by (cases h), Or.inr ⟨lb, lo, rfl, hlb, fun k hk' => ?_⟩⟩
    rw [hcell k (by omega), List.getElem_take]
  have hkl : (L.take kk).length = kk := by rw [List.length_take]; omega
  have HB : Hid (BdAt b fv sv ds time w w) := h
  have hi3 : (i : Int) < 3 := by omega
  have hi2 : ¬ (2 : Int) < (i : Int) := by omega
  have hkk1 : ¬ (kk : Int) < 1 := by omega
  have hkk2 : ¬ (20 : Int) < (kk : Int) := by omega
  have hkL : (kk : Int) < (L.length : Int) := by omega
  have hkc : kk ≤ cap := by omega
  have hLc : L.length ≤ cap := hcap
  have hdec : decide (0 < L.length - kk) = true := by simp; omega
  have hlbb : lb ≠ b := fun e => hbn (by simp only [slBlk]; rw [if_neg (by omega)]; simp [e])
  have HCL : Hid (∀ k (h : k < L.length), w.cell? ⟨lb, lo + k, none⟩ = some (.string (B L[k]))) := hcell
  clear h ht hL0 hp hcell hlv hbn
  go_enter Tryz.func53, Tryz.ntmps53
  go_wp2_with (at_builtin; refine wpList_append_sl _ rfl _ _ rfl rfl w.heap.size (.slice none 0 0) 0 [] rfl (own_nil _ _ _) (.slice (some ⟨lb, lo, none⟩) kk cap) (L.take kk) rfl HT.out (Nat.le_refl _) (by omega) ?_; intro v' w1 own1 g1; obtain ⟨xa, xc, rfl, _, _⟩ := own_shape1 own1; have d0 := gb_cell g1 c0 (by simp [Value.ownBlock]); have d1 := gb_cell g1 c1 (by simp [Value.ownBlock]); have d2 := gb_cell g1 c2 (by simp [Value.ownBlock]); have dt := gb_cell g1 ct (by simp [Value.ownBlock]); have y0 := gb_froz g1 (lt_of HB.out.blk) z0 (by simp [Value.ownBlock]); have y1 := gb_froz g1 (lt_of HB.out.blk) z1 (by simp [Value.ownBlock]); have y2 := gb_froz g1 (lt_of HB.out.blk) z2 (by simp [Value.ownBlock]))
  go_quiet (fail)
  go_wp2
  have e1 : 0 + (L.take kk).length = kk := by omega
  rw [e1, List.nil_append] at own1
  have hbw : b < w.heap.size := lt_of HB.out.blk
  have G1 : w.grownBy w1 none := g1
  have hs1 := G1.size
  have hoth : ∀ (v0 v1 v2 : Value) (o0 o1 o2 : Nat) (c : Nat), c ≠ b → ((((w1.setCell ⟨b, o0, none⟩ v0).setCell ⟨b, o1, none⟩ v1).setCell ⟨b, o2, none⟩ v2)).heap[c]? = w1.heap[c]? := fun v0 v1 v2 o0 o1 o2 c hc => by
    rw [set_other (by show c ≠ b; exact hc), set_other (by show c ≠ b; exact hc), set_other (by show c ≠ b; exact hc)]
  refine bodyPost_ret (v := .tuple #[.slice xa kk xc, .bool true, .int .i64 0]) (by simp [results, Tryz.results53, go_sem]) rfl ⟨.slice xa kk xc, .slice (some ⟨lb, lo + kk, none⟩) (L.length - kk) (cap - kk), rfl, own_frame own1 fun c hc => ?_, ((HB.out.gb G1).put3 i _ time true hi).gb (gb_drewN _ _ _), ?_, ?_⟩
  · have := own_base own1 c hc
    exact hoth _ _ _ _ _ _ c (by omega)
  · have hd : (L.drop kk).length = L.length - kk := by simp
    refine ⟨some ⟨lb, lo + kk, none⟩, cap - kk, by rw [hd], by omega, fun h => by (cases h), Or.inr ⟨lb, lo + kk, rfl, ?_, fun k hk' => ?_⟩⟩
    · show lb < (World.setCell _ _ _).heap.size
      simp; omega
    · have hb2 : ((((w1.setCell ⟨b, 2 + i * 3, none⟩ (.slice (some ⟨lb, lo + kk, none⟩) (L.length - kk) (cap - kk))).setCell ⟨b, 2 + i * 3 + 1, none⟩ (.int .i64 time)).setCell ⟨b, 2 + i * 3 + 2, none⟩ (.bool true)).drewN nq).heap[lb]? = w.heap[lb]? := (hoth _ _ _ _ _ _ lb hlbb).trans (G1.block lb hlb (by simp))
      rw [World.cell?_of_block (a := ⟨lb, lo + kk + k, none⟩) hb2, Nat.add_assoc, HCL.out (kk + k) (by omega), List.getElem_drop]
  · simp only [slBlk]
    rw [if_neg (by omega), if_neg (by omega)]
set_option maxRecDepth 100000 in
set_option maxHeartbeats 4000000 in
theorem refPage_last (i kk : Nat) (L : List (List UInt8)) (h : BdAt b fv sv ds time w w) (h3 : ds.length = 3) (hi : i < ds.length) (ht : (ds[i]).there = true) (h1 : 1 ≤ kk) (h20 : kk ≤ 20) (hL : StrSl w (ds[i]).lv L) (hk : L.length ≤ kk) :
    Calls Tryz.prog 53 #[.pointer (some ⟨b, 0, none⟩), .int .i64 (i : Int), .int .i64 (kk : Int)] w fun e w' => ∃ v lv', e = .returned (.tuple #[v, .bool false, .int .i64 0]) ∧ w'.ownsRow w.heap.size 9 1 v L.length (strs L) ∧ BdAt b fv sv (ds.set i ⟨lv', time, false⟩) time w w' ∧ StrSl w' lv' [] := by
  have c0 := h.cell i 0 (ds[i]).lv hi (by omega) rfl
  have c1 := h.cell i 1 (.int .i64 (ds[i]).last) hi (by omega) rfl
  have c2 := h.cell i 2 (.bool (ds[i]).there) hi (by omega) rfl
  have ct := h.timeC h3
  have z0 := h.froz (2 + i * 3)
  have z1 := h.froz (2 + i * 3 + 1)
  have z2 := h.froz (2 + i * 3 + 2)
  rw [Nat.add_zero] at c0
  rw [ht] at c2
  have HT0 : Hid (StrSl w (ds[i]).lv L) := hL
  obtain ⟨sa, cap, hlv, hcap, hz, _⟩ := hL
  rw [hlv] at c0 HT0
  have HB : Hid (BdAt b fv sv ds time w w) := h
  have hi3 : (i : Int) < 3 := by omega
  have hi2 : ¬ (2 : Int) < (i : Int) := by omega
  have hkk1 : ¬ (kk : Int) < 1 := by omega
  have hkk2 : ¬ (20 : Int) < (kk : Int) := by omega
  have hkL : ¬ (kk : Int) < (L.length : Int) := by omega
  have fin : Hid (∀ (w1 : World) (xa : Option Addr) (xc q : Nat) (sa' : Option Addr) (cap' : Nat), w.grownBy w1 none → (sa' = none → cap' = 0) → w1.ownsRow w.heap.size 9 1 (.slice xa L.length xc) L.length (strs L) →
      ∃ v lv', Ending.returned (.tuple #[.slice xa L.length xc, .bool false, .int .i64 0]) = .returned (.tuple #[v, .bool false, .int .i64 0]) ∧ ((((w1.setCell ⟨b, 2 + i * 3, none⟩ (.slice sa' 0 cap')).setCell ⟨b, 2 + i * 3 + 1, none⟩ (.int .i64 time)).setCell ⟨b, 2 + i * 3 + 2, none⟩ (.bool false)).drewN q).ownsRow w.heap.size 9 1 v L.length (strs L) ∧ BdAt b fv sv (ds.set i ⟨lv', time, false⟩) time w ((((w1.setCell ⟨b, 2 + i * 3, none⟩ (.slice sa' 0 cap')).setCell ⟨b, 2 + i * 3 + 1, none⟩ (.int .i64 time)).setCell ⟨b, 2 + i * 3 + 2, none⟩ (.bool false)).drewN q) ∧ StrSl ((((w1.setCell ⟨b, 2 + i * 3, none⟩ (.slice sa' 0 cap')).setCell ⟨b, 2 + i * 3 + 1, none⟩ (.int .i64 time)).setCell ⟨b, 2 + i * 3 + 2, none⟩ (.bool false)).drewN q) lv' []) := by
    intro w1 xa xc q sa' cap' G1 hz' own1
    have hbw : b < w.heap.size := lt_of HB.out.blk
    refine ⟨.slice xa L.length xc, .slice sa' 0 cap', rfl, own_frame own1 fun c hc => ?_, ((HB.out.gb G1).put3 i _ time false hi).gb (gb_drewN _ _ _), ⟨sa', cap', rfl, Nat.zero_le _, hz', Or.inl rfl⟩⟩
    have := own_base own1 c hc
    show ((World.setCell _ _ _).heap[c]?) = _
    rw [set_other (by show c ≠ b; omega), set_other (by show c ≠ b; omega), set_other (by show c ≠ b; omega)]
  clear h ht hlv
  cases sa with
  | none =>
    obtain rfl := hz rfl
    obtain rfl : L = [] := List.eq_nil_of_length_eq_zero (by omega)
    go_enter Tryz.func53, Tryz.ntmps53
    go_wp2_with (at_builtin; refine wpList_append_sl _ rfl _ _ rfl rfl w.heap.size (.slice none 0 0) 0 [] rfl (own_nil _ _ _) (.slice none 0 0) [] (by simp [Act.eval]) HT0.out (Nat.le_refl _) (by omega) ?_; intro v' w1 own1 g1; obtain ⟨xa, xc, rfl, _, _⟩ := own_shape1 own1; have d0 := gb_cell g1 c0 (by simp [Value.ownBlock]); have d1 := gb_cell g1 c1 (by simp [Value.ownBlock]); have d2 := gb_cell g1 c2 (by simp [Value.ownBlock]); have dt := gb_cell g1 ct (by simp [Value.ownBlock]); have y0 := gb_froz g1 (lt_of HB.out.blk) z0 (by simp [Value.ownBlock]); have y1 := gb_froz g1 (lt_of HB.out.blk) z1 (by simp [Value.ownBlock]); have y2 := gb_froz g1 (lt_of HB.out.blk) z2 (by simp [Value.ownBlock]))
    go_quiet (fail)
    go_wp2
    exact bodyPost_ret (v := .tuple #[.slice xa 0 xc, .bool false, .int .i64 0]) (by simp [results, Tryz.results53, go_sem]) rfl (fin.out w1 xa xc _ none 0 g1 (fun _ => rfl) own1)
  | some a =>
    obtain ⟨lb, lo, sp⟩ := a
    go_enter Tryz.func53, Tryz.ntmps53
    go_wp2_with (at_builtin; refine wpList_append_sl _ rfl _ _ rfl rfl w.heap.size (.slice none 0 0) 0 [] rfl (own_nil _ _ _) (.slice (some ⟨lb, lo, sp⟩) L.length cap) L (by simp [Act.eval]) HT0.out (Nat.le_refl _) (by omega) ?_; intro v' w1 own1 g1; obtain ⟨xa, xc, rfl, _, _⟩ := own_shape1 own1; have d0 := gb_cell g1 c0 (by simp [Value.ownBlock]); have d1 := gb_cell g1 c1 (by simp [Value.ownBlock]); have d2 := gb_cell g1 c2 (by simp [Value.ownBlock]); have dt := gb_cell g1 ct (by simp [Value.ownBlock]); have y0 := gb_froz g1 (lt_of HB.out.blk) z0 (by simp [Value.ownBlock]); have y1 := gb_froz g1 (lt_of HB.out.blk) z1 (by simp [Value.ownBlock]); have y2 := gb_froz g1 (lt_of HB.out.blk) z2 (by simp [Value.ownBlock]))
    all_goals
      go_quiet (fail)
      go_wp2
      have e1 : 0 + L.length = L.length := Nat.zero_add _
      rw [e1, List.nil_append] at own1
      exact bodyPost_ret (v := .tuple #[.slice xa L.length xc, .bool false, .int .i64 0]) (by simp [results, Tryz.results53, go_sem]) rfl (fin.out w1 xa xc _ _ _ g1 (fun h => by cases h) own1)
end

end Go.Proofs.YtcfdemhokbddiaaGreatDoor

/-
  The document's readings beside the program's: Open, Page, Tick leave them alike.
-/
namespace Go.Proofs.YtcfdemhokbddiaaGreatDoor
open Go.RowKit

theorem PairAt.dc {m : Nat} {w : World} {q : GT × RB} (h : PairAt m w q) (hm : m ≤ 4398046511104) : DC w q.1.view q.2 := by
  have hv : ∀ f ∈ q.1.view, ∃ g ∈ q.1.fams, GF.view g = f := fun f hf => by
    obtain ⟨g, hg, e⟩ := List.mem_map.1 hf
    exact ⟨g, hg, e⟩
  refine ⟨h.py, h.oy.flen, h.oy.slen, fun x hx => Nat.le_trans (h.oy.each x hx) hm, h.rel, view_srt h.ox, view_ser h.ox, fun f hf => ?_, fun f hf c hc => ?_, fun f hf => ?_⟩
  · obtain ⟨g, hg, rfl⟩ := hv f hf
    exact h.ox.names g hg
  · obtain ⟨g, hg, rfl⟩ := hv f hf
    obtain ⟨c', hc', rfl⟩ := List.mem_map.1 (show c ∈ g.ser.map GC.x from hc)
    exact ((h.ox.each g hg).each c' hc').pl
  · obtain ⟨g, hg, rfl⟩ := hv f hf
    exact (h.ox.each g hg).lb

def rdL (ds : List RD) (time : Int) : List Value := ds.flatMap rdCells ++ [.int .i64 time]
def rdB (ds : List RD) : List Nat := ds.flatMap fun d => slBlk d.lv
theorem rdBlks_L (ds : List RD) (time : Int) : rdBlks (rdL ds time) = rdB ds := by
  unfold rdBlks rdL rdB
  rw [List.flatMap_append]
  have e : ([.int .i64 time] : List Value).flatMap slBlk = [] := rfl
  rw [e, List.append_nil]
  induction ds with
  | nil => rfl
  | cons d ds ih =>
    rw [List.flatMap_cons, List.flatMap_append, ih, List.flatMap_cons]
    congr 1
    simp [rdCells, slBlk]
/-- The same, as lists. -/
structure RdsL (m : Nat) (w : World) (R : RdV) (ds : List RD) (time : Nat) : Prop where
  len : ds.length = 3
  rlen : R.length = 3
  tm : time ≤ m
  each : ∀ (i : Nat) x d, R[i]? = some x → ds[i]? = some d → RdIs w time x d
theorem RdsIs.list {m : Nat} {w : World} {R : RdV} {rest : List Value} (h : RdsIs m w R rest) : ∃ ds time, rest = rdL ds ((time : Nat) : Int) ∧ RdsL m w R ds time := by
  obtain ⟨d0, d1, d2, time, e, ht, x0, x1, x2, rfl, h0, h1, h2⟩ := h.ex
  refine ⟨[d0, d1, d2], time, by rw [e]; simp [rdL], rfl, rfl, ht, fun i x d hx hd => ?_⟩
  match i, hx, hd with
  | 0, hx, hd => cases hx; cases hd; exact h0
  | 1, hx, hd => cases hx; cases hd; exact h1
  | 2, hx, hd => cases hx; cases hd; exact h2
theorem RdsL.is {m : Nat} {w : World} {R : RdV} {ds : List RD} {time : Nat} (h : RdsL m w R ds time) : RdsIs m w R (rdL ds (time : Int)) := by
  obtain ⟨h1, h2, h3, h4⟩ := h
  match ds, h1, R, h2 with
  | [d0, d1, d2], _, [x0, x1, x2], _ =>
    exact ⟨d0, d1, d2, time, by simp [rdL], h3, x0, x1, x2, rfl, h4 0 x0 d0 rfl rfl, h4 1 x1 d1 rfl rfl, h4 2 x2 d2 rfl rfl⟩
theorem RdsL.lt {m : Nat} {w : World} {R : RdV} {ds : List RD} {time : Nat} (h : RdsL m w R ds time) : ∀ b ∈ rdB ds, b < w.heap.size := by
  have := h.is.lt
  rw [rdBlks_L] at this
  exact this
theorem rdB_mem {ds : List RD} {i : Nat} {d : RD} (h : ds[i]? = some d) : ∀ b ∈ slBlk d.lv, b ∈ rdB ds := fun _ hb => List.mem_flatMap.2 ⟨d, List.mem_of_getElem? h, hb⟩
theorem slBlk_nodup (v : Value) : (slBlk v).Nodup := by
  unfold slBlk
  split
  · split <;> simp
  · simp
theorem rdB_set {ds : List RD} {i n : Nat} {d' : RD} (hi : i < ds.length) (hnd : (rdB ds).Nodup) (hl : ∀ b ∈ rdB ds, b < n) (hs : ∀ b ∈ slBlk d'.lv, b ∈ slBlk (ds[i]).lv ∨ n ≤ b) : (rdB (ds.set i d')).Nodup ∧ ∀ b ∈ rdB (ds.set i d'), b ∈ rdB ds ∨ n ≤ b := by
  have e : ds = ds.take i ++ ds[i] :: ds.drop (i + 1) := by rw [← List.drop_eq_getElem_cons hi, List.take_append_drop]
  have el : (ds.take i).length = i := by rw [List.length_take]; omega
  have e2 : ds.set i d' = ds.take i ++ d' :: ds.drop (i + 1) := by
    conv => lhs; rw [e]
    rw [List.set_append_right _ _ (by omega), el, Nat.sub_self]; rfl
  have f1 : rdB ds = rdB (ds.take i) ++ (slBlk (ds[i]).lv ++ rdB (ds.drop (i + 1))) := by
    exact (congrArg rdB e).trans (by simp only [rdB, List.flatMap_append, List.flatMap_cons])
  have f2 : rdB (ds.set i d') = rdB (ds.take i) ++ (slBlk d'.lv ++ rdB (ds.drop (i + 1))) := by rw [e2]; simp [rdB]
  rw [f1] at hnd
  have hl' : ∀ b ∈ rdB (ds.take i) ++ rdB (ds.drop (i + 1)), b < n := fun b hb => hl b (by
    rw [f1]
    simp only [List.mem_append] at hb ⊢
    rcases hb with hb | hb
    · exact Or.inl hb
    · exact Or.inr (Or.inr hb))
  refine ⟨by rw [f2]; exact nodup_swap hnd (slBlk_nodup _) hs hl', fun b hb => ?_⟩
  rw [f2] at hb
  rw [f1]
  simp only [List.mem_append] at hb ⊢
  rcases hb with hb | hb | hb
  · exact Or.inl (Or.inl hb)
  · rcases hs b hb with h | h
    · exact Or.inl (Or.inr (Or.inl h))
    · exact Or.inr h
  · exact Or.inl (Or.inr (Or.inr hb))

theorem rb_rest {w1 w2 : World} {r : RB} {ds : List RD} {time : Int} (h : RB.At w1 r) (hb : BdAt r.b r.fv r.sv ds time w1 w2) : RB.At w2 { r with rest := rdL ds time } := by
  have hnd := h.nodup
  unfold RB.own at hnd
  rw [List.nodup_cons] at hnd
  simp only [List.mem_append, List.mem_flatMap, not_or] at hnd
  obtain ⟨⟨n1, n2, n3, n4⟩, _⟩ := hnd
  have hk : ∀ b, b < w1.heap.size → b ≠ r.b → w2.heap[b]? = w1.heap[b]? := fun b hl hn => hb.kept.block b hl (by simpa using hn)
  exact ⟨hb.blk, own_frame h.frows fun b hb' => hk b (own_lt h.frows b hb') (fun e => n1 (by rw [← e]; exact hb')), own_frame h.srows fun b hb' => hk b (own_lt h.srows b hb') (fun e => n2 (by rw [← e]; exact hb')),
    fun f hf => own_frame (h.lims f hf) fun b hb' => hk b (own_lt (h.lims f hf) b hb') (fun e => n3 ⟨f, hf, by rw [← e]; exact hb'⟩), fun x hx => own_frame (h.nums x hx) fun b hb' => hk b (own_lt (h.nums x hx) b hb') (fun e => n4 ⟨x, hx, by rw [← e]; exact hb'⟩), h.nodup⟩

/-- The program's board has become t', the document's has other readings. -/
theorem pair_rd {m : Nat} {t t' : GT} {r : RB} {w w1 w2 : World} {ds : List RD} {time : Int} (hnd : (pairOwn (t, r)).Nodup) (hr : RB.At w r) (ho : RB.Ok m r) (hrd : ∀ b ∈ rdBlks r.rest, b < w.heap.size) (h1 : Out m t t' w w1) (hro : RdOk t')
    (hb2 : BdAt r.b r.fv r.sv ds time w1 w2) (hds : RdsIs m w2 t'.rview (rdL ds time)) (hsub : ∀ b ∈ rdB ds, b ∈ rdBlks r.rest ∨ w1.heap.size ≤ b) (hndr : (rdB ds).Nodup) (hrel : Rel t'.view r.view) :
    PairAt m w2 (t', { r with rest := rdL ds time }) ∧ Kept (pairOwn (t, r)) w w2 ∧ (∀ b ∈ pairOwn (t', { r with rest := rdL ds time }), b ∈ pairOwn (t, r) ∨ w.heap.size ≤ b) := by
  simp only [pairOwn, List.nodup_append] at hnd
  obtain ⟨_, ⟨n2, n3, n4⟩, n5⟩ := hnd
  have hrb : r.b ∈ r.own := by simp [RB.own]
  have hd1 : ∀ b ∈ t'.own, b ∉ r.own := fun b hb hm => by
    rcases h1.sub b hb with h | h
    · exact n5 b h b (by simp [hm]) rfl
    · have := hr.lt b hm; omega
  have hr1 : RB.At w1 r := hr.kept h1.kept (fun b hb hm => n5 b hm b (by simp [hb]) rfl)
  have hkb : Kept [r.b] w1 w2 := hb2.kept
  have hro2 : (({ r with rest := rdL ds time } : RB)).own = r.own := rfl
  refine ⟨⟨h1.at_.kept hkb (fun b hb hm => hd1 b hb (by simp at hm; rw [hm]; exact hrb)), h1.ok, hro, rb_rest hr1 hb2, ⟨ho.flen, ho.slen, ho.each, ho.flim⟩, hrel, hds, ?_⟩, ?_, ?_⟩
  · show (t'.own ++ (r.own ++ rdBlks (rdL ds time))).Nodup
    rw [rdBlks_L, List.nodup_append, List.nodup_append]
    refine ⟨h1.at_.nodup, ⟨n2, hndr, fun a ha b hb e => ?_⟩, fun a ha b hb e => ?_⟩
    · subst e
      rcases hsub a hb with h | h
      · exact n4 a ha a h rfl
      · have := hr.lt a ha; have := h1.kept.size; omega
    · subst e
      simp only [List.mem_append] at hb
      rcases hb with hb | hb
      · exact hd1 a ha hb
      · rcases hsub a hb with h | h
        · rcases h1.sub a ha with h2 | h2
          · exact n5 a h2 a (by simp [h]) rfl
          · have := hrd a h; omega
        · have := h1.at_.lt a ha; omega
  · exact (h1.kept.mono fun b hb => Or.inl (by simp [pairOwn, hb])).then (hkb.mono (M := pairOwn (t, r)) fun b hb => Or.inl (by simp at hb; rw [hb]; simp [pairOwn, hrb])) (fun b hb => Or.inl hb)
  · intro b hb
    have hb' : b ∈ t'.own ++ (r.own ++ rdBlks (rdL ds time)) := hb
    rw [rdBlks_L] at hb'
    simp only [pairOwn, List.mem_append] at hb' ⊢
    rcases hb' with hb | hb | hb
    · rcases h1.sub b hb with h | h
      · exact Or.inl (Or.inl h)
      · exact Or.inr h
    · exact Or.inl (Or.inr (Or.inl hb))
    · rcases hsub b hb with h | h
      · exact Or.inl (Or.inr (Or.inr h))
      · exact Or.inr (Nat.le_trans h1.kept.size h)

end Go.Proofs.YtcfdemhokbddiaaGreatDoor

/-
  A pair of boards: Tick and Open on both.
-/
namespace Go.Proofs.YtcfdemhokbddiaaGreatDoor
open Go.RowKit

theorem Out.mono {m k : Nat} {t t' : GT} {w w' : World} (h : Out m t t' w w') (hk : m ≤ k) : Out k t t' w w' := ⟨h.at_, h.ok.mono hk, h.b, h.kept, h.sub⟩
/-- What a step of a pair leaves. -/
structure PStep (m : Nat) (q : GT × RB) (w : World) (q' : GT × RB) (w' : World) : Prop where
  at_ : PairAt m w' q'
  b1 : q'.1.b = q.1.b
  b2 : q'.2.b = q.2.b
  kept : Kept (pairOwn q) w w'
  sub : ∀ b ∈ pairOwn q', b ∈ pairOwn q ∨ w.heap.size ≤ b
theorem tkD_lv (t : Int) (d : RD) : (tkD t d).lv = d.lv := by unfold tkD; split <;> rfl
theorem RdIs.tick {w : World} {time : Nat} {x : Option (List (List UInt8) × Nat)} {d : RD} (h : RdIs w time x d) : RdIs w (time + 1) (tick1 x) (tkD ((time : Int) + 1) d) := by
  obtain ⟨L0, hs, hx⟩ := h.row
  have hl := h.last
  cases x with
  | none =>
    have ht : d.there = false := h.there
    have e : (tkD ((time : Int) + 1) d).there = false := by unfold tkD; split <;> first | rfl | exact ht
    have el : (tkD ((time : Int) + 1) d).last = d.last := by unfold tkD; split <;> rfl
    exact ⟨e, ⟨L0, by rw [tkD_lv]; exact hs, fun _ _ h => by cases h⟩, by rw [el]; omega⟩
  | some x =>
    obtain ⟨L, k⟩ := x
    obtain ⟨rfl, hk⟩ := hx L k rfl
    have ht : d.there = true := h.there
    by_cases h4 : k = 4
    · have e : tkD ((time : Int) + 1) d = { d with there := false } := by unfold tkD; rw [if_pos (by omega)]
      rw [tick1_over h4, e]
      exact ⟨rfl, ⟨L, hs, fun _ _ h => by cases h⟩, by show 0 ≤ d.last ∧ d.last ≤ ((time + 1 : Nat) : Int); omega⟩
    · have e : tkD ((time : Int) + 1) d = d := by unfold tkD; rw [if_neg (by omega)]
      rw [tick1_more h4, e]
      refine ⟨ht, ⟨L, hs, fun L' k' h => ?_⟩, by omega⟩
      cases h
      exact ⟨rfl, by omega⟩
section
variable {m : Nat} {w w1 : World} {q : GT × RB} {t' : GT}
theorem PairAt.ref1 (hp : PairAt m w q) {k : Nat} (h1 : Out k q.1 t' w w1) : RB.At w1 q.2 ∧ (∀ b ∈ rdBlks q.2.rest, b < w.heap.size ∧ b ≠ q.2.b ∧ w1.heap[b]? = w.heap[b]?) := by
  have hnd := hp.nodup
  simp only [pairOwn, List.nodup_append] at hnd
  obtain ⟨_, ⟨_, _, n4⟩, n5⟩ := hnd
  have hrb : q.2.b ∈ q.2.own := by simp [RB.own]
  exact ⟨hp.py.kept h1.kept (fun b hb hm => n5 b hm b (by simp [hb]) rfl), fun b hb => ⟨hp.rds.lt b hb, fun e => n4 q.2.b hrb b hb e.symm, h1.kept.block b (hp.rds.lt b hb) (fun hm => n5 b hm b (by simp [hb]) rfl)⟩⟩
theorem PairAt.rdNodup (hp : PairAt m w q) : (rdBlks q.2.rest).Nodup := by
  have hnd := hp.nodup
  simp only [pairOwn, List.nodup_append] at hnd
  exact hnd.2.1.2.1

theorem tick_pair (hp : PairAt m w q) (hm : m ≤ 1000000000) (h1 : Out m q.1 t' w w1) (hro : RdOk t') (hv : t'.view = q.1.view) (hrv : t'.rview = tickP q.1.rview) :
    Calls Tryz.prog 56 #[.pointer (some ⟨q.2.b, 0, none⟩)] w1 fun e w2 => e = .returned (.tuple #[]) ∧ ∃ r', PStep (m + 1) q w (t', r') w2 := by
  obtain ⟨ds, time, erest, hL⟩ := hp.rds.list
  obtain ⟨hr1, hfr⟩ := hp.ref1 h1
  have hndr := hp.rdNodup
  rw [erest, rdBlks_L] at hfr hndr
  have hblk : w1.heap[q.2.b]? = some (.cells (bdL q.2.fv q.2.sv ds (time : Int)).toArray 149) := by
    have := hr1.blk; rw [erest] at this; exact this
  have htm := hL.tm
  refine (refTick_any q.2.b q.2.fv q.2.sv ds (time : Int) w1 hblk hL.len (fun d hd => ?_) (by omega)).mono ?_
  · obtain ⟨i, hi, rfl⟩ := List.getElem_of_mem hd
    have hil := hL.len
    have hrl := hL.rlen
    exact (hL.each i _ _ (List.getElem?_eq_getElem (by omega)) (List.getElem?_eq_getElem hi)).last
  · rintro e w2 ⟨rfl, hb2⟩
    have eb : rdB (ds.map (tkD ((time : Int) + 1))) = rdB ds := by
      unfold rdB
      rw [List.flatMap_map]
      congr 1
      funext d
      rw [tkD_lv]
    have hfr2 : ∀ b ∈ rdB ds, w2.heap[b]? = w.heap[b]? := fun b hb => by
      obtain ⟨f1, f2, f3⟩ := hfr b hb
      exact (hb2.kept.block b (by have := h1.kept.size; omega) (by simpa using f2)).trans f3
    have hnew : RdsL (m + 1) w2 t'.rview (ds.map (tkD ((time : Int) + 1))) (time + 1) := by
      refine ⟨by rw [List.length_map]; exact hL.len, by rw [hrv]; unfold tickP; rw [List.length_map]; exact hL.rlen, by omega, fun i x d hx hd => ?_⟩
      rw [hrv] at hx
      unfold tickP at hx
      rw [List.getElem?_map] at hx hd
      cases hx0 : q.1.rview[i]? with
      | none => rw [hx0] at hx; cases hx
      | some x0 =>
        cases hd0 : ds[i]? with
        | none => rw [hd0] at hd; cases hd
        | some d0 =>
          rw [hx0] at hx
          rw [hd0] at hd
          cases hx
          cases hd
          refine ((hL.each i x0 d0 hx0 hd0).tick).frame (Nat.le_trans h1.kept.size hb2.kept.size) fun b hb => ?_
          rw [tkD_lv] at hb
          exact hfr2 b (rdB_mem hd0 b hb)
    have hds := hnew.is
    rw [show ((time + 1 : Nat) : Int) = (time : Int) + 1 by omega] at hds
    obtain ⟨k1, k2, k3⟩ := pair_rd (m := m + 1) hp.nodup hp.py (hp.oy.mono (Nat.le_succ m)) hp.rds.lt (h1.mono (Nat.le_succ m)) hro hb2 hds (fun b hb => Or.inl (by rw [erest, rdBlks_L, ← eb]; exact hb)) (by rw [eb]; exact hndr) (by rw [hv]; exact hp.rel)
    exact ⟨rfl, _, k1, h1.b, rfl, k2, k3⟩

theorem free_some {R : RdV} {ds : List RD} {time : Nat} (hL : RdsL m w R ds time) {i : Nat} (hi : i < ds.length) (ht : (ds[i]).there = false) (ha : ∀ j (hj : j < ds.length), j < i → (ds[j]).there = true) : freeP R = some i := by
  have hl := hL.len
  have hr := hL.rlen
  have ex : ∀ j (hj : j < ds.length), (ds[j]).there = (R[j]'(by omega)).isSome := fun j hj => (hL.each j _ _ (List.getElem?_eq_getElem (by omega)) (List.getElem?_eq_getElem hj)).there
  unfold freeP
  rw [List.findIdx?_eq_some_iff_getElem]
  refine ⟨by omega, ?_, fun j hj => ?_⟩
  · have := ex i hi
    rw [ht] at this
    cases hq : R[i]'(by omega) with
    | none => rfl
    | some x => rw [hq] at this; cases this
  · have := ex j (by omega)
    rw [ha j (by omega) hj] at this
    cases hq : R[j]'(by omega) with
    | none => rw [hq] at this; cases this
    | some x => simp
theorem free_none {R : RdV} {ds : List RD} {time : Nat} (hL : RdsL m w R ds time) (ha : ∀ d ∈ ds, d.there = true) : freeP R = none := by
  have hl := hL.len
  have hr := hL.rlen
  unfold freeP
  rw [List.findIdx?_eq_none_iff]
  intro x hx
  obtain ⟨j, hj, rfl⟩ := List.getElem_of_mem hx
  have := (hL.each j _ _ (List.getElem?_eq_getElem hj) (List.getElem?_eq_getElem (by omega))).there
  rw [ha _ (List.getElem_mem _)] at this
  cases hq : R[j] with
  | none => rw [hq] at this; cases this
  | some x => rfl

theorem open_pair (hp : PairAt m w q) (hm : m ≤ 1000000000) (s : List UInt8) {i c : Int} (h1 : Out (m + 1) q.1 t' w w1) (hro : RdOk t') (hv : t'.view = q.1.view) (hop : ((i, c), t'.rview) = openP q.1.view q.1.rview s) :
    Calls Tryz.prog 52 #[.pointer (some ⟨q.2.b, 0, none⟩), .string (B s)] w1 fun e w2 => e = .returned (.tuple #[.int .i64 i, .int .i64 c]) ∧ ∃ r', PStep (m + 1) q w (t', r') w2 := by
  obtain ⟨ds, time, erest, hL⟩ := hp.rds.list
  obtain ⟨hr1, hfr⟩ := hp.ref1 h1
  have hndr := hp.rdNodup
  rw [erest, rdBlks_L] at hfr hndr
  have same : ∀ w2, w1.grownBy w2 none → t'.rview = q.1.rview → ∃ r', PStep (m + 1) q w (t', r') w2 := fun w2 g e => by
    obtain ⟨k1, k2, k3⟩ := pair_out hp.nodup hp.py (hp.rds.mono (Nat.le_succ m)) h1 hro e (ROut.same hr1 (hp.oy.mono (Nat.le_succ m)) g) (by rw [hv]; exact hp.rel)
    exact ⟨q.2, k1, h1.b, rfl, k2, k3⟩
  unfold openP at hop
  by_cases hbad : s ≠ [] ∧ isNameB s = false
  · rw [if_pos hbad] at hop
    simp only [Prod.mk.injEq] at hop
    obtain ⟨⟨rfl, rfl⟩, hrv⟩ := hop
    exact (refOpen_bad q.2 s w1 hbad.1 hbad.2).mono fun e w2 ⟨h2, h3⟩ => ⟨h2, same w2 (by rw [h3]; exact gb_refl _ _) hrv⟩
  · rw [if_neg hbad] at hop
    have hok : s = [] ∨ isNameB s = true := by
      by_cases e : s = []
      · exact Or.inl e
      · exact Or.inr (by cases hq : isNameB s with | true => rfl | false => exact absurd ⟨e, hq⟩ hbad)
    have hdc : DC w1 q.1.view q.2 := by
      have := hp.dc (by omega)
      exact ⟨hr1, this.flen, this.slen, this.each, this.rel, this.srt, this.sers, this.nml, this.txl, this.lb⟩
    refine (refOpen_any q.1.view q.2 s ds (time : Int) w1 hdc erest hL.len hok).mono ?_
    rintro e w2 (⟨rfl, hall, rfl⟩ | ⟨j, hj, rfl, htj, hbef, v, hb2, hrow⟩)
    · rw [free_none hL hall] at hop
      simp only [Prod.mk.injEq] at hop
      obtain ⟨⟨rfl, rfl⟩, hrv⟩ := hop
      exact ⟨rfl, same w2 (gb_refl _ _) hrv⟩
    · rw [free_some hL hj htj hbef] at hop
      simp only [Prod.mk.injEq] at hop
      obtain ⟨⟨rfl, rfl⟩, hrv⟩ := hop
      have elin : linTo q.1.view s q.1.view.length = linesP (q.1.view.drop (kplace lt s (q.1.view.map Fam.nm))) := by
        unfold linTo
        rw [List.take_length, filter_drop (view_srt hp.ox) s, linesP_eq]
      rw [elin] at hrow
      have hstr := (strSl_of_row hrow).2
      have hvb : ∀ b ∈ slBlk v, w1.heap.size ≤ b := fun b hb => own_base hrow b (slBlk_own hb)
      obtain ⟨n1, n2⟩ := rdB_set (d' := ⟨v, (time : Int), true⟩) (n := w1.heap.size) hj hndr (fun b hb => by have := (hfr b hb).1; have := h1.kept.size; omega) (fun b hb => Or.inr (hvb b hb))
      have hfr2 : ∀ b ∈ rdB ds, w2.heap[b]? = w.heap[b]? := fun b hb => by
        obtain ⟨f1, f2, f3⟩ := hfr b hb
        exact (hb2.kept.block b (by have := h1.kept.size; omega) (by simpa using f2)).trans f3
      have hlen := hL.len
      have hrl := hL.rlen
      have hnew : RdsL (m + 1) w2 t'.rview (ds.set j ⟨v, (time : Int), true⟩) time := by
        refine ⟨by rw [List.length_set]; exact hlen, by rw [hrv, List.length_set]; exact hrl, by have := hL.tm; omega, fun i x d hx hd => ?_⟩
        rw [hrv] at hx
        rw [List.getElem?_set] at hx hd
        by_cases e : j = i
        · subst e
          rw [if_pos rfl, if_pos (by omega)] at hx hd
          cases hx
          cases hd
          refine ⟨rfl, ⟨_, hstr, fun L' k' h => ?_⟩, by show (0 : Int) ≤ (time : Int) ∧ (time : Int) ≤ (time : Int); omega⟩
          cases h
          exact ⟨rfl, by show (time : Int) - (time : Int) = _; omega⟩
        · rw [if_neg e] at hx hd
          exact (hL.each i x d hx hd).frame (Nat.le_trans h1.kept.size hb2.kept.size) fun b hb => hfr2 b (rdB_mem hd b hb)
      obtain ⟨k1, k2, k3⟩ := pair_rd (m := m + 1) hp.nodup hp.py (hp.oy.mono (Nat.le_succ m)) hp.rds.lt h1 hro hb2 hnew.is (fun b hb => by rw [erest, rdBlks_L]; exact n2 b hb) n1 (by rw [hv]; exact hp.rel)
      exact ⟨rfl, _, k1, h1.b, rfl, k2, k3⟩
theorem page_pair (hp : PairAt m w q) (n k : Int) {lines : List (List UInt8)} {more : Bool} {c : Int} (h1 : Out m q.1 t' w w1) (hro : RdOk t') (hto : t'.own = q.1.own) (hv : t'.view = q.1.view) (hpg : ((lines, more, c), t'.rview) = pageP q.1.rview n k) :
    Calls Tryz.prog 53 #[.pointer (some ⟨q.2.b, 0, none⟩), .int .i64 n, .int .i64 k] w1 fun e w2 => ∃ v, e = .returned (.tuple #[v, .bool more, .int .i64 c]) ∧ w2.ownsRow w1.heap.size 9 1 v lines.length (strs lines) ∧ Kept [q.2.b] w1 w2 ∧ ∃ r', PStep m q w (t', r') w2 ∧ ∀ b ∈ pairOwn (t', r'), b ∈ pairOwn q := by
  obtain ⟨ds, time, erest, hL⟩ := hp.rds.list
  obtain ⟨hr1, hfr⟩ := hp.ref1 h1
  have hndr := hp.rdNodup
  have hlen := hL.len
  have hrl := hL.rlen
  rw [erest, rdBlks_L] at hfr hndr
  have same : ∀ w2, w1.grownBy w2 none → t'.rview = q.1.rview → ∃ r', PStep m q w (t', r') w2 ∧ ∀ b ∈ pairOwn (t', r'), b ∈ pairOwn q := fun w2 g e => by
    obtain ⟨k1, k2, k3⟩ := pair_out hp.nodup hp.py hp.rds h1 hro e (ROut.same hr1 hp.oy g) (by rw [hv]; exact hp.rel)
    exact ⟨q.2, ⟨k1, h1.b, rfl, k2, k3⟩, fun b hb => by
      simp only [pairOwn, hto] at hb ⊢; exact hb⟩
  have hb1 : BdAt q.2.b q.2.fv q.2.sv ds (time : Int) w1 w1 := ⟨by have := hr1.blk; rw [erest] at this; exact this, Kept.refl _ _⟩
  unfold pageP at hpg
  by_cases hn : n < 0 ∨ 3 ≤ n
  · rw [if_pos hn] at hpg
    simp only [Prod.mk.injEq] at hpg
    obtain ⟨⟨rfl, rfl, rfl⟩, hrv⟩ := hpg
    exact (refPage_out n k w1 q.2.b (by omega)).mono fun e w2 ⟨h2, h3⟩ => ⟨_, h2, own_nil _ _ _, Kept.of_none h3 _, same w2 h3 hrv⟩
  rw [if_neg hn] at hpg
  obtain ⟨i, rfl⟩ : ∃ i : Nat, n = (i : Int) := ⟨n.toNat, by omega⟩
  have hi : i < ds.length := by omega
  have hir : i < q.1.rview.length := by omega
  rw [Int.toNat_natCast, List.getElem?_eq_getElem hir] at hpg
  have hix := hL.each i _ _ (List.getElem?_eq_getElem hir) (List.getElem?_eq_getElem hi)
  cases hx : q.1.rview[i] with
  | none =>
    rw [hx] at hpg hix
    simp only [Prod.mk.injEq] at hpg
    obtain ⟨⟨rfl, rfl, rfl⟩, hrv⟩ := hpg
    exact (refPage_no i k hb1 hlen hi hix.there).mono fun e w2 ⟨h2, h3⟩ => ⟨_, h2, own_nil _ _ _, Kept.of_none h3 _, same w2 h3 hrv⟩
  | some x =>
    obtain ⟨L, idle⟩ := x
    rw [hx] at hpg hix
    simp only at hpg
    by_cases hk : k < 1 ∨ 20 < k
    · rw [if_pos hk] at hpg
      simp only [Prod.mk.injEq] at hpg
      obtain ⟨⟨rfl, rfl, rfl⟩, hrv⟩ := hpg
      exact (refPage_arg i k hb1 hlen hi hix.there hk).mono fun e w2 ⟨h2, h3⟩ => ⟨_, h2, own_nil _ _ _, Kept.of_none h3 _, same w2 h3 hrv⟩
    rw [if_neg hk] at hpg
    obtain ⟨kk, rfl⟩ : ∃ kk : Nat, k = (kk : Int) := ⟨k.toNat, by omega⟩
    rw [Int.toNat_natCast] at hpg
    obtain ⟨L0, hs0, hx0⟩ := hix.row
    obtain ⟨rfl, _⟩ := hx0 L idle rfl
    have hs1 : StrSl w1 (ds[i]).lv L := hs0.frame h1.kept.size fun b hb => (hfr b (rdB_mem (List.getElem?_eq_getElem hi) b hb)).2.2
    have hbn : q.2.b ∉ slBlk (ds[i]).lv := fun hm => (hfr q.2.b (rdB_mem (List.getElem?_eq_getElem hi) _ hm)).2.1 rfl
    have fin : ∀ (w2 : World) (lv' : Value) (th : Bool) (x' : Option (List (List UInt8) × Nat)), BdAt q.2.b q.2.fv q.2.sv (ds.set i ⟨lv', (time : Int), th⟩) (time : Int) w1 w2 → RdIs w2 time x' ⟨lv', (time : Int), th⟩ → (∀ b ∈ slBlk lv', b ∈ slBlk (ds[i]).lv) → t'.rview = q.1.rview.set i x' → ∃ r', PStep m q w (t', r') w2 ∧ ∀ b ∈ pairOwn (t', r'), b ∈ pairOwn q := by
      intro w2 lv' th x' hb2 hri hsl hrv
      obtain ⟨n1, n2⟩ := rdB_set (d' := ⟨lv', (time : Int), th⟩) (n := w1.heap.size) hi hndr (fun b hb => by have := (hfr b hb).1; have := h1.kept.size; omega) (fun b hb => Or.inl (hsl b hb))
      have hfr2 : ∀ b ∈ rdB ds, w2.heap[b]? = w.heap[b]? := fun b hb => by
        obtain ⟨f1, f2, f3⟩ := hfr b hb
        exact (hb2.kept.block b (by have := h1.kept.size; omega) (by simpa using f2)).trans f3
      have hnew : RdsL m w2 t'.rview (ds.set i ⟨lv', (time : Int), th⟩) time := by
        refine ⟨by rw [List.length_set]; exact hlen, by rw [hrv, List.length_set]; exact hrl, hL.tm, fun j x d hx hd => ?_⟩
        rw [hrv] at hx
        rw [List.getElem?_set] at hx hd
        by_cases e : i = j
        · subst e
          rw [if_pos rfl, if_pos (by omega)] at hx hd
          cases hx
          cases hd
          exact hri
        · rw [if_neg e] at hx hd
          exact (hL.each j x d hx hd).frame (Nat.le_trans h1.kept.size hb2.kept.size) fun b hb => hfr2 b (rdB_mem hd b hb)
      obtain ⟨k1, k2, k3⟩ := pair_rd hp.nodup hp.py hp.oy hp.rds.lt h1 hro hb2 hnew.is (fun b hb => by rw [erest, rdBlks_L]; exact n2 b hb) n1 (by rw [hv]; exact hp.rel)
      refine ⟨_, ⟨k1, h1.b, rfl, k2, k3⟩, fun b hb => ?_⟩
      have hb' : b ∈ t'.own ++ (q.2.own ++ rdBlks (rdL (ds.set i ⟨lv', (time : Int), th⟩) (time : Int))) := hb
      rw [rdBlks_L, hto] at hb'
      simp only [pairOwn, List.mem_append, erest, rdBlks_L] at hb' ⊢
      rcases hb' with h | h | h
      · exact Or.inl h
      · exact Or.inr (Or.inl h)
      · refine Or.inr (Or.inr ?_)
        obtain ⟨d, hd, hbd⟩ := List.mem_flatMap.1 h
        rcases List.mem_or_eq_of_mem_set hd with hd | rfl
        · exact List.mem_flatMap.2 ⟨d, hd, hbd⟩
        · exact rdB_mem (List.getElem?_eq_getElem hi) b (hsl b hbd)
    by_cases hkl : kk < L.length
    · rw [if_pos hkl] at hpg
      simp only [Prod.mk.injEq] at hpg
      obtain ⟨⟨rfl, rfl, rfl⟩, hrv⟩ := hpg
      refine (refPage_more i kk L hb1 hlen hi hix.there (by omega) (by omega) hs1 hkl hbn).mono ?_
      rintro e w2 ⟨v, lv', rfl, hrow, hb2, hstr, hsl⟩
      refine ⟨v, rfl, ?_, hb2.kept, fin w2 lv' true (some (L.drop kk, 0)) hb2 ⟨rfl, ⟨_, hstr, fun L' k' h => ?_⟩, by show (0 : Int) ≤ (time : Int) ∧ (time : Int) ≤ (time : Int); omega⟩ (fun b hb => by rw [← hsl]; exact hb) hrv⟩
      · have e : (L.take kk).length = kk := by rw [List.length_take]; omega
        rw [e]; exact hrow
      · cases h
        exact ⟨rfl, by show (time : Int) - (time : Int) = _; omega⟩
    · rw [if_neg hkl] at hpg
      simp only [Prod.mk.injEq] at hpg
      obtain ⟨⟨rfl, rfl, rfl⟩, hrv⟩ := hpg
      refine (refPage_last i kk _ hb1 hlen hi hix.there (by omega) (by omega) hs1 (by omega)).mono ?_
      rintro e w2 ⟨v, lv', rfl, hrow, hb2, hstr⟩
      refine ⟨v, rfl, hrow, hb2.kept, fin w2 lv' false none hb2 ⟨rfl, ⟨_, hstr, fun _ _ h => by cases h⟩, by show (0 : Int) ≤ (time : Int) ∧ (time : Int) ≤ (time : Int); omega⟩ (fun b hb => ?_) hrv⟩
      obtain ⟨sa, cap, e, _⟩ := hstr
      rw [e] at hb
      cases sa <;> simp [slBlk] at hb
end

end Go.Proofs.YtcfdemhokbddiaaGreatDoor
