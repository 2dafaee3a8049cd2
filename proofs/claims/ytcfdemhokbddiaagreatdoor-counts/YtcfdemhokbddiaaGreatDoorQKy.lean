/-
  What Family, Change and Drop answer, told apart by what is the case (plain facts).
-/
import Derived.Test.YtcfdemhokbddiaaGreatDoorQKp

namespace Go.Proofs.YtcfdemhokbddiaaGreatDoor
open Go.RowKit

theorem key_split {α : Type} [Inhabited α] {key : α → List UInt8} {T : List α} {t : List UInt8} (h : kfnd lt t (T.map key) = true) :
    ∃ A f B', T = A ++ f :: B' ∧ key f = t ∧ kplace lt t (T.map key) = A.length ∧ T.getD (kplace lt t (T.map key)) default = f := by
  obtain ⟨hk, e⟩ := kfnd_get t (T.map key) h
  have hk' : kplace lt t (T.map key) < T.length := by simpa using hk
  generalize kplace lt t (T.map key) = i at *
  refine ⟨T.take i, T[i], T.drop (i + 1), ?_, by simpa using e, ?_, ?_⟩
  · rw [← List.drop_eq_getElem_cons hk', List.take_append_drop]
  · rw [List.length_take]; omega
  · rw [List.getD_eq_getElem?_getD, List.getElem?_eq_getElem hk']; rfl
theorem key_no {α : Type} {key : α → List UInt8} {T : List α} {t : List UInt8} (hs : KSrt lt (T.map key)) (h : kfnd lt t (T.map key) = false) : ∀ f ∈ T, key f ≠ t := fun f hf e => by
  have : kfnd lt t (T.map key) = true := (kfnd_iff ltB t _ hs).2 (by rw [← e]; exact List.mem_map_of_mem hf)
  rw [h] at this; cases this
theorem set_mid {α : Type} (A : List α) (f g : α) (B' : List α) : (A ++ f :: B').set A.length g = A ++ g :: B' := by
  simp
theorem cut_mid {α : Type} (A : List α) (f : α) (B' : List α) : cut1 (A ++ f :: B') A.length = A ++ B' := by
  unfold cut1
  rw [List.take_left, List.drop_append]
  simp

def FamOut (T : List Fam) (nm : List UInt8) (kind : Int) (xs : List Int) (code : Int) (T' : List Fam) : Prop :=
  (isNameB nm = false ∧ code = 2 ∧ T' = T) ∨
  (isNameB nm = true ∧ fitB kind xs = false ∧ code = 4 ∧ T' = T) ∨
  (isNameB nm = true ∧ fitB kind xs = true ∧ (∃ f ∈ T, f.nm = nm ∧ code = remP kind f.kind xs f.ls) ∧ T' = T) ∨
  (isNameB nm = true ∧ fitB kind xs = true ∧ (∀ f ∈ T, f.nm ≠ nm) ∧ 8 ≤ T.length ∧ code = 7 ∧ T' = T) ∨
  (isNameB nm = true ∧ fitB kind xs = true ∧ (∀ f ∈ T, f.nm ≠ nm) ∧ T.length < 8 ∧ code = 0 ∧ ∃ C D, T = C ++ D ∧ T' = C ++ ⟨nm, kind, xs, []⟩ :: D)
def ChgOut (T : List Fam) (l : List UInt8) (n : Int) (code : Int) (T' : List Fam) : Prop :=
  ((readP l).err ≠ 0 ∧ code = ((readP l).err : Int) ∧ T' = T) ∨
  ((readP l).err = 0 ∧ (∀ f ∈ T, f.nm ≠ (readP l).name) ∧ code = 6 ∧ T' = T) ∨
  ((readP l).err = 0 ∧ ∃ A f B', T = A ++ f :: B' ∧ f.nm = (readP l).name ∧
    ((takesB f.kind n = false ∧ code = 4 ∧ T' = T) ∨
     (takesB f.kind n = true ∧ ∃ C c D, f.ser = C ++ c :: D ∧ c.plain = plainP l ∧ code = 0 ∧ T' = A ++ { f with ser := C ++ countP f.kind f.ls n c :: D } :: B') ∨
     (takesB f.kind n = true ∧ (∀ c ∈ f.ser, c.plain ≠ plainP l) ∧ 24 ≤ sizeOfAll T ∧ code = 7 ∧ T' = T) ∨
     (takesB f.kind n = true ∧ (∀ c ∈ f.ser, c.plain ≠ plainP l) ∧ sizeOfAll T < 24 ∧ code = 0 ∧ ∃ C D, f.ser = C ++ D ∧ T' = A ++ { f with ser := C ++ countP f.kind f.ls n (zeroCnt (plainP l)) :: D } :: B')))
def DrpOut (T : List Fam) (l : List UInt8) (code : Int) (T' : List Fam) : Prop :=
  ((readP l).err ≠ 0 ∧ code = ((readP l).err : Int) ∧ T' = T) ∨
  ((readP l).err = 0 ∧ (∀ f ∈ T, f.nm ≠ (readP l).name) ∧ code = 6 ∧ T' = T) ∨
  ((readP l).err = 0 ∧ ∃ A f B', T = A ++ f :: B' ∧ f.nm = (readP l).name ∧
    (((∀ c ∈ f.ser, c.plain ≠ plainP l) ∧ code = 6 ∧ T' = T) ∨
     (∃ C c D, f.ser = C ++ c :: D ∧ c.plain = plainP l ∧ code = 0 ∧ T' = A ++ { f with ser := C ++ D } :: B')))

theorem famOut {T : List Fam} {nm : List UInt8} {kind : Int} {xs : List Int} {c : Int} {T' : List Fam} (hs : KSrt lt (T.map Fam.nm)) (h : (c, T') = famP T nm kind xs) : FamOut T nm kind xs c T' := by
  unfold famP at h
  unfold FamOut
  by_cases h1 : isNameB nm = false
  · rw [if_pos h1] at h; simp only [Prod.mk.injEq] at h; exact Or.inl ⟨h1, h.1, h.2⟩
  rw [if_neg h1] at h
  rw [Bool.not_eq_false] at h1
  by_cases h2 : fitB kind xs = false
  · rw [if_pos h2] at h; simp only [Prod.mk.injEq] at h; exact Or.inr (Or.inl ⟨h1, h2, h.1, h.2⟩)
  rw [if_neg h2] at h
  rw [Bool.not_eq_false] at h2
  by_cases h3 : kfnd lt nm (T.map Fam.nm) = true
  · rw [if_pos h3] at h
    obtain ⟨A, f, B', e, ek, _, eg⟩ := key_split h3
    rw [eg] at h
    simp only [Prod.mk.injEq] at h
    exact Or.inr (Or.inr (Or.inl ⟨h1, h2, ⟨f, by rw [e]; simp, ek, h.1⟩, h.2⟩))
  rw [if_neg h3] at h
  rw [Bool.not_eq_true] at h3
  have no := key_no hs h3
  by_cases h4 : 8 ≤ T.length
  · rw [if_pos h4] at h; simp only [Prod.mk.injEq] at h; exact Or.inr (Or.inr (Or.inr (Or.inl ⟨h1, h2, no, h4, h.1, h.2⟩)))
  · rw [if_neg h4] at h; simp only [Prod.mk.injEq] at h
    exact Or.inr (Or.inr (Or.inr (Or.inr ⟨h1, h2, no, by omega, h.1, _, _, (List.take_append_drop _ T).symm, h.2⟩)))
theorem chgOut {T : List Fam} {l : List UInt8} {n c : Int} {T' : List Fam} (hs : KSrt lt (T.map Fam.nm)) (hc : ∀ f ∈ T, KSrt lt (f.ser.map Cnt.plain)) (h : (c, T') = chgP T l n) : ChgOut T l n c T' := by
  unfold chgP at h
  unfold ChgOut
  by_cases h1 : (readP l).err ≠ 0
  · rw [if_pos h1] at h; simp only [Prod.mk.injEq] at h; exact Or.inl ⟨h1, h.1, h.2⟩
  rw [if_neg h1] at h
  have h1' : (readP l).err = 0 := Classical.byContradiction h1
  by_cases h2 : kfnd lt (readP l).name (T.map Fam.nm) = false
  · rw [if_pos h2] at h; simp only [Prod.mk.injEq] at h; exact Or.inr (Or.inl ⟨h1', key_no hs h2, h.1, h.2⟩)
  rw [if_neg h2] at h
  rw [Bool.not_eq_false] at h2
  obtain ⟨A, f, B', e, ek, ep, eg⟩ := key_split h2
  refine Or.inr (Or.inr ⟨h1', A, f, B', e, ek, ?_⟩)
  have hset : ∀ g, T.set (kplace lt (readP l).name (T.map Fam.nm)) g = A ++ g :: B' := fun g => by rw [ep, e, set_mid]
  have hfc := hc f (by rw [e]; simp)
  unfold chgAt at h
  rw [eg, hset, hset] at h
  by_cases h3 : takesB f.kind n = false
  · rw [if_pos h3] at h; simp only [Prod.mk.injEq] at h; exact Or.inl ⟨h3, h.1, h.2⟩
  rw [if_neg h3] at h
  rw [Bool.not_eq_false] at h3
  by_cases h4 : kfnd lt (plainP l) (f.ser.map Cnt.plain) = true
  · rw [if_pos h4] at h
    obtain ⟨C, d, D, es, ed, eq, eh⟩ := key_split h4
    rw [eh, eq] at h
    have hst : f.ser.set C.length (countP f.kind f.ls n d) = C ++ countP f.kind f.ls n d :: D := by rw [es, set_mid]
    rw [hst] at h
    simp only [Prod.mk.injEq] at h
    exact Or.inr (Or.inl ⟨h3, C, d, D, es, ed, h.1, h.2⟩)
  rw [if_neg h4] at h
  rw [Bool.not_eq_true] at h4
  have no := key_no hfc h4
  by_cases h5 : 24 ≤ sizeOfAll T
  · rw [if_pos h5] at h; simp only [Prod.mk.injEq] at h; exact Or.inr (Or.inr (Or.inl ⟨h3, no, h5, h.1, h.2⟩))
  · rw [if_neg h5] at h; simp only [Prod.mk.injEq] at h
    exact Or.inr (Or.inr (Or.inr ⟨h3, no, by omega, h.1, _, _, (List.take_append_drop _ _).symm, h.2⟩))
theorem drpOut {T : List Fam} {l : List UInt8} {c : Int} {T' : List Fam} (hs : KSrt lt (T.map Fam.nm)) (hc : ∀ f ∈ T, KSrt lt (f.ser.map Cnt.plain)) (h : (c, T') = drpP T l) : DrpOut T l c T' := by
  unfold drpP at h
  unfold DrpOut
  by_cases h1 : (readP l).err ≠ 0
  · rw [if_pos h1] at h; simp only [Prod.mk.injEq] at h; exact Or.inl ⟨h1, h.1, h.2⟩
  rw [if_neg h1] at h
  have h1' : (readP l).err = 0 := Classical.byContradiction h1
  by_cases h2 : kfnd lt (readP l).name (T.map Fam.nm) = false
  · rw [if_pos h2] at h; simp only [Prod.mk.injEq] at h; exact Or.inr (Or.inl ⟨h1', key_no hs h2, h.1, h.2⟩)
  rw [if_neg h2] at h
  rw [Bool.not_eq_false] at h2
  obtain ⟨A, f, B', e, ek, ep, eg⟩ := key_split h2
  refine Or.inr (Or.inr ⟨h1', A, f, B', e, ek, ?_⟩)
  have hset : ∀ g, T.set (kplace lt (readP l).name (T.map Fam.nm)) g = A ++ g :: B' := fun g => by rw [ep, e, set_mid]
  have hfc := hc f (by rw [e]; simp)
  unfold drpAt at h
  rw [eg, hset] at h
  by_cases h4 : kfnd lt (plainP l) (f.ser.map Cnt.plain) = false
  · rw [if_pos h4] at h; simp only [Prod.mk.injEq] at h; exact Or.inl ⟨key_no hfc h4, h.1, h.2⟩
  rw [if_neg h4] at h
  rw [Bool.not_eq_false] at h4
  obtain ⟨C, d, D, es, ed, eq, _⟩ := key_split h4
  have hct : cut1 f.ser (kplace lt (plainP l) (f.ser.map Cnt.plain)) = C ++ D := by rw [eq, es, cut_mid]
  rw [hct] at h
  simp only [Prod.mk.injEq] at h
  exact Or.inr ⟨C, d, D, es, ed, h.1, h.2⟩

end Go.Proofs.YtcfdemhokbddiaaGreatDoor
