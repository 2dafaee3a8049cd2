/-
  order.Sorted: the labels in the order of their names, or the place of the first whose name stood already.
-/
import Derived.Test.YtcfdemhokbddiaaGreatDoorQI

namespace Go.Proofs.YtcfdemhokbddiaaGreatDoor
open Go.RowKit

def sortP : List Lab → Nat → List Lab → Option (List Lab) × Nat
  | acc, k, [] => (some acc, k)
  | acc, k, x :: ls => if fnd x.name acc then (none, k) else sortP (insAt acc (place x.name acc) x) (k + 1) ls

theorem srt_ins (acc : List Lab) (x : Lab) (h : Srt acc) (hf : fnd x.name acc = false) : Srt (insAt acc (place x.name acc) x) := by
  induction acc with
  | nil => simp [insAt, Srt]
  | cons y acc ih =>
    have hy := h
    unfold Srt at hy
    rw [List.pairwise_cons] at hy
    unfold place
    cases hlt : lt y.name x.name with
    | true =>
      have hf' : fnd x.name acc = false := by
        unfold fnd at hf ⊢; unfold place at hf; rw [hlt] at hf; simpa using hf
      have hi := ih hy.2 hf'
      simp only [if_true]
      have e : insAt (y :: acc) (place x.name acc + 1) x = y :: insAt acc (place x.name acc) x := by simp [insAt]
      rw [e]
      unfold Srt; rw [List.pairwise_cons]
      refine ⟨fun z hz => ?_, hi⟩
      simp only [insAt, List.mem_append, List.mem_cons] at hz
      rcases hz with hz | rfl | hz
      · exact hy.1 z (List.mem_of_mem_take hz)
      · exact hlt
      · exact hy.1 z (List.mem_of_mem_drop hz)
    | false =>
      simp only [Bool.false_eq_true, if_false]
      have hne : lt x.name y.name = true := by
        cases h2 : lt x.name y.name with
        | true => rfl
        | false =>
          have := lt_total _ _ hlt h2
          unfold fnd at hf; unfold place at hf; rw [hlt] at hf; simp [this] at hf
      simp only [insAt, List.take_zero, List.drop_zero, List.nil_append]
      unfold Srt; rw [List.pairwise_cons]
      refine ⟨fun z hz => ?_, h⟩
      simp only [List.mem_cons] at hz
      rcases hz with rfl | hz
      · exact hne
      · exact lt_trans _ _ _ hne (hy.1 z hz)

theorem own_empty (w : World) : (w.alloc (.cells #[] 130)).ownsRow w.heap.size 130 3 (.slice (some ⟨w.heap.size, 0, none⟩) 0 0) 0 [] :=
  ⟨rfl, Or.inr ⟨w.heap.size, 0, #[], rfl, Nat.le_refl _, by show (w.heap.push _)[w.heap.size]? = _; simp, Nat.le_refl _, by unfold maxLen; omega, rfl, rfl⟩⟩

set_option maxRecDepth 100000 in
set_option maxHeartbeats 1000000 in
theorem sorted_some (gi c : Nat) (ls : List Lab) (base : Nat) (w : World) (hown : w.ownsRow base 130 3 (.slice (some ⟨gi, 0, none⟩) ls.length c) ls.length (labCells ls)) (hl : ls.length ≤ 3) :
    Calls Tryz.prog 73 #[.slice (some ⟨gi, 0, none⟩) ls.length c, .func (.func 74) #[] #[]] w fun e w' => ∃ (o : Option (List Lab)) (k : Nat) (a : Option Addr) (l c : Nat), sortP [] 0 ls = (o, k) ∧
      e = .returned (.tuple #[.slice a l c, .int .i64 (k : Int)]) ∧ (∀ r, o = some r → w'.ownsRow w.heap.size 130 3 (.slice a l c) r.length (labCells r)) ∧ w.grownBy w' none := by
  have hc0 : ls.length ≤ c := by
    obtain ⟨_, _, _, h, _⟩ := own_open hown
    exact h
  go_enter Tryz.func73, Tryz.ntmps73
  go_wp2_with fail
  go_loopw [6, 14] (fun v i wr => ∃ (acc : List Lab) (g : Nat), v = .slice (some ⟨g, 0, none⟩) acc.length acc.length ∧ i = .int .i64 (acc.length : Int) ∧ acc.length ≤ ls.length ∧ Hid (Srt acc) ∧
      wr.ownsRow w.heap.size 130 3 (.slice (some ⟨g, 0, none⟩) acc.length acc.length) acc.length (labCells acc) ∧ w.grownBy wr none ∧ Hid (sortP [] 0 ls = sortP acc acc.length (ls.drop acc.length)))
    (fun _ i _ => 3 - (intOf i).toNat)
  case atStart =>
    refine ⟨[], w.heap.size, rfl, rfl, by simp, List.Pairwise.nil, ?_, gb_alloc (gb_refl _ _) _, ?_⟩
    · exact own_empty w
    · show _ = _; simp
  case round =>
    obtain ⟨acc, g, rfl, rfl, h1, HS, own, hg, HP⟩ := hrel
    by_cases hlt : acc.length < ls.length
    · obtain ⟨d0, d1, d2⟩ := lab_cells hown acc.length hlt
      have e0 := gb_cell hg d0 (by simp)
      have e1 := gb_cell hg d1 (by simp)
      have e2 := gb_cell hg d2 (by simp)
      obtain ⟨x, hx⟩ : ∃ x, x = ls[acc.length] := ⟨_, rfl⟩
      rw [← hx] at e0 e1 e2
      have HD : Hid (ls.drop acc.length = x :: ls.drop (acc.length + 1)) := by
        show _ = _; rw [hx]; exact List.drop_eq_getElem_cons hlt
      clear d0 d1 d2 hx
      go_wp2_with fail
      refine (nameOf_any _ _ _ _).mono ?_
      rintro e w1 ⟨rfl, g1⟩
      have own1 := (own.alloc (.cells #[.string (B x.name), .string (B x.val), .int .i64 (x.at_ : Int)] 130)).kept g1 (Or.inr (by simp [Value.ownBlock]))
      go_wp2_with fail
      refine (find_any g acc.length acc x.name _ _ own1 (by omega) HS.out).mono ?_
      rintro e w2 ⟨rfl, g2⟩
      have own2 := own1.kept g2 (Or.inr (by simp [Value.ownBlock]))
      have ga := gb_alloc (gb_refl wr none) (.cells #[.string (B x.name), .string (B x.val), .int .i64 (x.at_ : Int)] 130)
      have G2 := gb_trans (gb_trans ga g1) g2
      have x0 := gb_cell G2 e0 (by simp)
      have x1 := gb_cell G2 e1 (by simp)
      have x2 := gb_cell G2 e2 (by simp)
      have hg2 : w.grownBy w2 none := gb_trans (gb_trans (gb_alloc hg _) g1) g2
      clear own own1 g1 g2 e0 e1 e2 hown ga G2
      cases hf : fnd x.name acc with
      | true =>
        have HF : Hid (fnd x.name acc = true) := hf
        clear hf
        go_wp2
        go_ret2
        refine ⟨none, acc.length, none, 0, 0, ?_, rfl, fun r h => by simp at h, hg2⟩
        rw [HP.out, HD.out]; simp [sortP, HF.out]
      | false =>
        have HF : Hid (fnd x.name acc = false) := hf
        clear hf
        have hpl := place_le x.name acc
        have hb1 : (acc.length : Int) + 1 ≤ (c : Int) := by omega
        have hb2 : ¬ (c = acc.length) := by omega
        have htn : ((acc.length : Int) + 1).toNat = acc.length + 1 := by omega
        have hsub : acc.length + 1 - acc.length = 1 := by omega
        go_wp2_with fail
        refine (together_any g acc.length gi (acc.length * 3) (c - acc.length) _ acc x _ (by exact own2) (by exact x0) (by exact x1) (by exact x2) (by omega) HS.out HF.out).mono ?_
        rintro e w3 ⟨g3, rfl, own3, gg3⟩
        have hgw := (own2.lt g rfl).1
        clear htn hsub
        go_wp2
        go_roundw
        case rel =>
          have hil := insAt_len acc (place x.name acc) x hpl
          refine ⟨insAt acc (place x.name acc) x, g3, by rw [hil], by rw [hil]; go_num, by omega, srt_ins acc x HS.out HF.out, by rw [hil]; exact own_mono own3 hg2.size, gb_trans hg2 gg3, ?_⟩
          · show _ = _; rw [HP.out, HD.out, hil]; simp [sortP, HF.out]
        case measure => simp [intOf]; omega
    · have HE : Hid (acc.length = ls.length) := by show _ = _; omega
      clear hown
      go_wp2
      go_ret2
      refine ⟨some acc, ls.length, some ⟨g, 0, none⟩, acc.length, acc.length, ?_, rfl, fun r h => by simp at h; subst h; exact own, hg⟩
      rw [HP.out, HE.out]; simp [sortP]

set_option maxHeartbeats 400000 in
theorem sorted_none (a : Option Addr) (c : Nat) (w : World) :
    Calls Tryz.prog 73 #[.slice a 0 c, .func (.func 74) #[] #[]] w fun e w' => ∃ (a : Option Addr) (c : Nat),
      e = .returned (.tuple #[.slice a 0 c, .int .i64 0]) ∧ w'.ownsRow w.heap.size 130 3 (.slice a 0 c) 0 [] ∧ w.grownBy w' none := by
  go_enter Tryz.func73, Tryz.ntmps73
  go_wp2_with fail
  refine wp_loop_rounds 1 ?_
  rw [rounds_succ]
  go_wp2
  go_ret2
  exact ⟨_, _, rfl, own_empty w, gb_alloc (gb_refl _ _) _⟩

end Go.Proofs.YtcfdemhokbddiaaGreatDoor
