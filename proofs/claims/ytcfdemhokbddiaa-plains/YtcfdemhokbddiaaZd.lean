/-
  The document's Parse answers what Plain answers.
-/
import Derived.Test.YtcfdemhokbddiaaZc
import Derived.Test.YtcfdemhokbddiaaY
namespace Go.Proofs.Ytcfdemhokbddiaa
open Go.RowKit

theorem least {n : Nat} {P : Nat → Prop} (h : ∃ q, q < n ∧ P q) : ∃ q, q < n ∧ P q ∧ ∀ q', q' < q → ¬ P q' := by
  obtain ⟨q, hq, hp⟩ := h
  induction q using Nat.strongRecOn with
  | ind q ih =>
    by_cases hx : ∃ q', q' < q ∧ P q'
    · obtain ⟨q', h1, h2⟩ := hx
      exact ih q' h1 (by omega) h2
    · exact ⟨q, hq, hp, fun q' h1 h2 => hx ⟨q', h1, h2⟩⟩

theorem fnd_iff (t : List UInt8) (acc : List Lab) (hs : Srt acc) : fnd t acc = true ↔ ∃ x ∈ acc, x.name = t := by
  constructor
  · intro h
    unfold fnd at h
    split at h
    · rename_i x hx
      exact ⟨x, List.mem_of_getElem? hx, by simpa using h⟩
    · cases h
  · rintro ⟨x, hx, rfl⟩
    obtain ⟨i, hi, rfl⟩ := List.getElem_of_mem hx
    have : place (acc[i]).name acc = i := place_of _ _ i (by omega) (fun k hk hki => hs.get k i hi hki) (fun k hk hki => by
      by_cases e : k = i
      · subst e; exact lt_irrefl _
      · exact lt_asymm _ _ (hs.get i k hk (by omega)))
    unfold fnd
    rw [this, List.getElem?_eq_getElem hi]
    simp

theorem distinct_snoc (pre : List Lab) (x : Lab) (h : Distinct pre) (hx : ∀ y ∈ pre, y.name ≠ x.name) : Distinct (pre ++ [x]) := by
  intro i hi k hk
  simp at hi
  by_cases hip : i < pre.length
  · rw [List.getElem_append_left hip, List.getElem_append_left (by omega)]
    exact h i hip k hk
  · have e : i = pre.length := by omega
    subst e
    rw [List.getElem_append_left (by omega)]
    simp
    exact hx _ (List.getElem_mem _)

theorem sort_spec (rest pre acc : List Lab) (hs : Srt acc) (hm : ∀ x, x ∈ acc ↔ x ∈ pre) (hl : acc.length = pre.length) (hd : Distinct pre) :
    (∀ r j, sortP acc pre.length rest = (some r, j) → Srt r ∧ (∀ x, x ∈ r ↔ x ∈ pre ++ rest) ∧ r.length = (pre ++ rest).length ∧ Distinct (pre ++ rest)) ∧
    (∀ j, sortP acc pre.length rest = (none, j) → ∃ q, Dup (pre ++ rest) j q) := by
  induction rest generalizing pre acc with
  | nil =>
    refine ⟨fun r j h => ?_, fun j h => by simp [sortP] at h⟩
    simp [sortP] at h
    obtain ⟨rfl, rfl⟩ := h
    simp only [List.append_nil]
    exact ⟨hs, hm, hl, hd⟩
  | cons x rest ih =>
    unfold sortP
    cases hf : fnd x.name acc with
    | true =>
      simp only [if_true]
      refine ⟨fun r j h => by simp at h, fun j h => ?_⟩
      simp at h; subst h
      obtain ⟨y, hy, hyx⟩ := (fnd_iff x.name acc hs).1 hf
      obtain ⟨q0, hq0, e0⟩ := List.getElem_of_mem ((hm y).1 hy)
      obtain ⟨q, hq, hP, hleast⟩ := least (n := pre.length) (P := fun q => ∃ h : q < pre.length, (pre[q]).name = x.name) ⟨q0, hq0, hq0, by rw [e0]; exact hyx⟩
      obtain ⟨_, hP⟩ := hP
      refine ⟨q, ⟨by simp, hq, ?_, ?_, ?_⟩⟩
      · rw [List.getElem_append_left hq, hP]; simp
      · intro i' hi k' hk
        rw [List.getElem_append_left (by omega), List.getElem_append_left (by omega)]
        exact hd i' hi k' hk
      · intro k' hk he
        rw [List.getElem_append_left (by omega)] at he
        exact hleast k' hk ⟨by omega, by rw [he]; simp⟩
    | false =>
      simp only [Bool.false_eq_true, if_false]
      have hne : ∀ y ∈ pre, y.name ≠ x.name := fun y hy e => by
        have := (fnd_iff x.name acc hs).2 ⟨y, (hm y).2 hy, e⟩
        rw [hf] at this; cases this
      have hlen : (pre ++ [x]).length = pre.length + 1 := by simp
      have := ih (pre ++ [x]) (insAt acc (place x.name acc) x) (srt_ins acc x hs hf) (fun y => by
        simp only [insAt, List.mem_append, List.mem_cons, List.not_mem_nil, or_false]
        rw [← hm y]
        constructor
        · rintro (h | rfl | h)
          · exact Or.inl (List.mem_of_mem_take h)
          · exact Or.inr rfl
          · exact Or.inl (List.mem_of_mem_drop h)
        · rintro (h | rfl)
          · have := List.take_append_drop (place x.name acc) acc
            rw [← this] at h
            rcases List.mem_append.1 h with h | h
            · exact Or.inl h
            · exact Or.inr (Or.inr h)
          · exact Or.inr (Or.inl rfl)) (by rw [insAt_len _ _ _ (place_le _ _), hl, hlen]) (distinct_snoc pre x hd hne)
      rw [hlen] at this
      simpa using this

theorem run_inv (l : List UInt8) (i k : Nat) (st st' : St) (h : Inv k st) (hr : runR st i l = .ok st') : Inv (k + l.length) st' := by
  induction l generalizing i k st with
  | nil => unfold runR at hr; cases hr; simpa using h
  | cons c l ih =>
    unfold runR at hr
    split at hr
    · cases hr
    · rename_i st1 hs
      have := ih (i + 1) (k + 1) st1 (step_inv k i st st1 c h hs) hr
      rw [List.length_cons, show k + (l.length + 1) = k + 1 + l.length from by omega]
      exact this

theorem parse_any (s : ByteArray) (w : World) :
    Calls Try.prog 9 #[.string s] w fun e w' => e = .returned (outV (readP s.data.toList).name (plainP s.data.toList) (readP s.data.toList).err (if (readP s.data.toList).err = 0 then 0 else (readP s.data.toList).at_)) ∧ Below w.heap.size w w' := by
  by_cases h100 : 100 < s.size
  · have hp := readP_long s h100
    unfold plainP
    rw [hp]
    exact (parse_long s w h100).mono fun e w' ⟨h1, h2⟩ => ⟨by rw [h1]; rfl, h2⟩
  · obtain ⟨S1, S2⟩ := series_rel s.data.toList
    rcases hq : seriesP s.data.toList.length s.data.toList with ⟨o, rest⟩
    cases o with
    | none =>
      obtain ⟨d1, d2⟩ := S2 _ hq
      have hp : readP s.data.toList = ⟨2, s.data.toList.length - rest.length, [], []⟩ := by
        unfold readP; rw [if_neg (by exact h100), hq]
      unfold plainP
      rw [hp]
      refine (parse_bad s (s.data.toList.length - rest.length) w h100 ?_).mono fun e w' ⟨h1, h2⟩ => ⟨by rw [h1]; rfl, h2⟩
      rcases d2 with h | ⟨st, h, h2, h3⟩
      · exact Or.inl h
      · exact Or.inr ⟨st, h, h2, h3⟩
    | some p =>
      obtain ⟨st, hr, hgood, hnm, hrel, hne⟩ := S1 _ _ hq
      have hInv := run_inv _ _ 0 _ _ inv0 hr
      have hN : s.data.toList.length ≤ 100 := by show s.size ≤ 100; omega
      have hlab : st.labs.length ≤ 100 := by have := hInv.len; omega
      have spec := sort_spec st.labs [] [] List.Pairwise.nil (by simp) rfl (fun i hi => by simp at hi)
      simp only [List.nil_append, List.length_nil] at spec
      obtain ⟨R1, R2⟩ := rel_sort 0 (show RelL [] [] from trivial) hrel
      rcases hsq : sortP [] 0 p.2 with ⟨o2, k⟩
      cases o2 with
      | none =>
        obtain ⟨q, hD⟩ := spec.2 k (R2 k hsq)
        have hk := (sortP_none p.2 [] 0 k hsq).2
        simp only [Nat.zero_add] at hk
        have hp : readP s.data.toList = ⟨3, (p.2[k]).at_, [], []⟩ := by
          unfold readP; rw [if_neg (by exact h100), hq]; simp only [hsq, List.getElem?_eq_getElem hk, Option.getD_some]
        have hat : (p.2[k]).at_ = (st.labs[k]'hD.lti).at_ := (hrel.get k hk).2.1
        unfold plainP
        rw [hp]
        refine (parse_dup s st k q w h100 hr hgood hD hlab).mono fun e w' ⟨h1, h2⟩ => ⟨by rw [h1, ← hat]; rfl, h2⟩
      | some r =>
        obtain ⟨r', e1, e2⟩ := R1 r k hsq
        obtain ⟨t1, t2, t3, t4⟩ := spec.1 r' k e1
        have hp : readP s.data.toList = ⟨0, 0, p.1, r⟩ := by
          unfold readP; rw [if_neg (by exact h100), hq]; simp only [hsq]
        unfold plainP
        rw [hp]
        refine (parse_ok s st r' w h100 hr hgood t4 hlab t1 (fun x => (t2 x).symm) t3 (fun x hx => hne x ((t2 x).1 hx)) (by have := hInv.name; omega) (fun x hx => by have := hInv.each x ((t2 x).1 hx); omega)).mono fun e w' ⟨h1, h2⟩ => ⟨?_, h2⟩
        rw [h1, hnm]
        simp only [if_true]
        rw [rel_plain e2]

end Go.Proofs.Ytcfdemhokbddiaa
