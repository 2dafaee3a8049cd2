/-
  What the board keeps and what the document's board keeps tell the same: the errors are the same, call by call. (Plain facts, no program.)
-/
import Derived.Test.YtecmkooiaghgcaaGreatDoorKx

namespace Go.Proofs.YtecmkooiaghgcaaGreatDoor
open Go.RowKit

def NoBrace (l : List UInt8) : Prop := ∀ c ∈ l, c ≠ 123
/-- The text begins with the name, and the name ends there. -/
def HasName (nm p : List UInt8) : Prop := ∃ t, p = nm ++ t ∧ (t = [] ∨ ∃ u, t = 123 :: u)
theorem hasName_eq {a b p : List UInt8} (ha : HasName a p) (hb : HasName b p) (na : NoBrace a) (nb : NoBrace b) : a = b := by
  obtain ⟨t, e1, h1⟩ := ha
  obtain ⟨u, e2, h2⟩ := hb
  have : a ++ t = b ++ u := by rw [← e1, ← e2]
  clear e1 e2
  induction a generalizing b with
  | nil =>
    cases b with
    | nil => rfl
    | cons y b =>
      rcases h1 with rfl | ⟨v, rfl⟩
      · simp at this
      · simp at this
        exact absurd this.1.symm (nb y (by simp))
  | cons x a ih =>
    cases b with
    | nil =>
      rcases h2 with rfl | ⟨v, rfl⟩
      · simp at this
      · simp at this
        exact absurd this.1 (na x (by simp))
    | cons y b =>
      simp only [List.cons_append, List.cons.injEq] at this
      rw [this.1, ih (fun c hc => na c (by simp [hc])) (b := b) (fun c hc => nb c (by simp [hc])) this.2]
theorem goes_noBrace {k : Nat} {c : UInt8} (h : goesB k (c.toNat : Int) = true) : c ≠ 123 := by
  intro e
  subst e
  simp [goesB, nameB] at h
theorem isName_noBrace {l : List UInt8} (h : isNameB l = true) : NoBrace l := by
  intro c hc
  obtain ⟨j, hj, rfl⟩ := List.getElem_of_mem hc
  exact goes_noBrace (((isNameB_iff l).1 h).2 j hj)
theorem nameLen_noBrace (k : Nat) (l : List UInt8) : NoBrace (l.take (nameLen k l)) := by
  induction l generalizing k with
  | nil => intro c hc; simp at hc
  | cons x l ih =>
    unfold nameLen
    split
    · rename_i hx
      intro c hc
      rw [Nat.add_comm, List.take_succ_cons, List.mem_cons] at hc
      rcases hc with rfl | hc
      · exact goes_noBrace (k := k) (by simpa [goesB] using hx)
      · exact ih (k + 1) c hc
    · intro c hc; simp at hc
theorem seriesP_name {n : Nat} {l l' : List UInt8} {p : List UInt8 × List Lab} (h : seriesP n l = (some p, l')) : NoBrace p.1 := by
  unfold seriesP at h
  split at h
  · simp at h
  · split at h
    · simp at h; rw [← h.1]; exact nameLen_noBrace 0 l
    · split at h
      · simp at h
      · split at h
        · simp at h; rw [← h.1]; exact nameLen_noBrace 0 l
        · simp at h
theorem readP_noBrace (l : List UInt8) : NoBrace (readP l).name := by
  unfold readP
  split
  · intro c hc; simp at hc
  · split
    · intro c hc; simp at hc
    · rename_i hs
      split
      · intro c hc; simp at hc
      · exact seriesP_name hs
theorem plain_hasName {l : List UInt8} (h : (readP l).err = 0) : HasName (readP l).name (plainP l) := by
  rw [plainP_eq h]
  unfold plainB
  rw [List.append_assoc]
  refine ⟨_, rfl, ?_⟩
  cases (readP l).labs with
  | nil => exact Or.inl rfl
  | cons x ls => exact Or.inr ⟨_, rfl⟩

def famsOf (T : List Fam) : List (List UInt8 × Int × List Int) := T.map fun f => (f.nm, f.kind, f.ls)
def plainsOf (T : List Fam) : List (List UInt8) := T.flatMap fun f => f.ser.map Cnt.plain
def textsOf (R : RV) : List (List UInt8) := R.ser.map fun x => x.2.1
structure Rel (T : List Fam) (R : RV) : Prop where
  fams : (famsOf T).Perm R.fams
  texts : (plainsOf T).Perm (textsOf R)
  names : ∀ f ∈ T, NoBrace f.nm
  begins : ∀ f ∈ T, ∀ c ∈ f.ser, HasName f.nm c.plain
theorem Rel.start : Rel [] ⟨[], []⟩ := ⟨.refl _, .refl _, by simp, by simp⟩

theorem mem_nm {T : List Fam} (hd : (T.map Fam.nm).Nodup) {f g : Fam} (hf : f ∈ T) (hg : g ∈ T) (e : f.nm = g.nm) : f = g := by
  induction T with
  | nil => simp at hf
  | cons x T ih =>
    rw [List.map_cons, List.nodup_cons] at hd
    rw [List.mem_cons] at hf hg
    rcases hf with rfl | hf <;> rcases hg with rfl | hg
    · rfl
    · exact absurd (by rw [e]; exact List.mem_map_of_mem hg) hd.1
    · exact absurd (by rw [← e]; exact List.mem_map_of_mem hf) hd.1
    · exact ih hd.2 hf hg

theorem fam_step {T T' : List Fam} {R R' : RV} {nm : List UInt8} {kind : Int} {xs : List Int} {c c' : Int} (h : Rel T R) (hd : (T.map Fam.nm).Nodup) (h1 : FamOut T nm kind xs c T') (h2 : RFamOut R nm kind xs c' R') : c = c' ∧ Rel T' R' := by
  have hlen : T.length = R.fams.length := by have := h.fams.length_eq; simpa [famsOf] using this
  have hT : ∀ f ∈ T, (f.nm, f.kind, f.ls) ∈ R.fams := fun f hf => h.fams.mem_iff.1 (List.mem_map_of_mem (f := fun f : Fam => (f.nm, f.kind, f.ls)) hf)
  have hR : ∀ g ∈ R.fams, ∃ f ∈ T, (f.nm, f.kind, f.ls) = g := fun g hg => by
    have := h.fams.mem_iff.2 hg
    simpa [famsOf] using this
  rcases h1 with ⟨a, rfl, rfl⟩ | ⟨a, b, rfl, rfl⟩ | ⟨a, b, ⟨f, hf, e, rfl⟩, rfl⟩ | ⟨a, b, d, l, rfl, rfl⟩ | ⟨a, b, d, l, rfl, C, D, e, rfl⟩ <;>
    rcases h2 with ⟨a', rfl, rfl⟩ | ⟨a', b', rfl, rfl⟩ | ⟨a', b', ⟨g, hg, e', rfl⟩, rfl⟩ | ⟨a', b', d', l', rfl, rfl⟩ | ⟨a', b', d', l', rfl, rfl⟩
  all_goals first
    | exact ⟨rfl, h⟩
    | exact absurd (a.symm.trans a') (by decide)
    | exact absurd (b.symm.trans b') (by decide)
    | (exact absurd e (fun e => d' _ (hT f hf) e))
    | (exfalso; obtain ⟨f, hf, e⟩ := hR g hg; exact d f hf (by rw [← e'] ; rw [← e]))
    | (exfalso; omega)
    | skip
  · obtain ⟨f2, hf2, e2⟩ := hR g hg
    have : f2 = f := mem_nm hd hf2 hf (by rw [e, ← e', ← e2])
    subst this
    rw [← e2]
    exact ⟨rfl, h⟩
  · refine ⟨rfl, ⟨?_, ?_, ?_, ?_⟩⟩
    · have h3 := h.fams
      rw [e] at h3
      simp only [famsOf, List.map_append, List.map_cons] at h3 ⊢
      exact List.perm_middle.trans ((h3.cons _).trans (List.perm_append_singleton _ _).symm)
    · have h3 := h.texts
      rw [e] at h3
      simpa [plainsOf, textsOf] using h3
    · intro f hf
      simp only [List.mem_append, List.mem_cons] at hf
      rcases hf with hf | rfl | hf
      · exact h.names f (by rw [e]; simp [hf])
      · exact isName_noBrace a
      · exact h.names f (by rw [e]; simp [hf])
    · intro f hf
      simp only [List.mem_append, List.mem_cons] at hf
      rcases hf with hf | rfl | hf
      · exact h.begins f (by rw [e]; simp [hf])
      · simp
      · exact h.begins f (by rw [e]; simp [hf])

theorem size_plains (T : List Fam) : sizeOfAll T = (plainsOf T).length := by
  unfold sizeOfAll plainsOf
  rw [List.length_flatMap]
  simp

theorem in_fam {T : List Fam} {R : RV} (h : Rel T R) (hd : (T.map Fam.nm).Nodup) {f : Fam} (hf : f ∈ T) {p : List UInt8} (hp : HasName f.nm p) (hx : p ∈ textsOf R) : ∃ c ∈ f.ser, c.plain = p := by
  have := h.texts.mem_iff.2 hx
  simp only [plainsOf, List.mem_flatMap, List.mem_map] at this
  obtain ⟨g, hg, c, hc, rfl⟩ := this
  have e : g.nm = f.nm := hasName_eq (h.begins g hg c hc) hp (h.names g hg) (h.names f hf)
  have := mem_nm hd hg hf e
  subst this
  exact ⟨c, hc, rfl⟩

theorem chg_step {T T' : List Fam} {R R' : RV} {l : List UInt8} {n : Int} {c c' : Int} (h : Rel T R) (hd : (T.map Fam.nm).Nodup) (hm : R.ser.length ≤ 24) (h1 : ChgOut T l n c T') (h2 : RChgOut R l n c' R') : c = c' ∧ Rel T' R' := by
  have hT : ∀ f ∈ T, (f.nm, f.kind, f.ls) ∈ R.fams := fun f hf => h.fams.mem_iff.1 (List.mem_map_of_mem (f := fun f : Fam => (f.nm, f.kind, f.ls)) hf)
  have hR : ∀ g ∈ R.fams, ∃ f ∈ T, (f.nm, f.kind, f.ls) = g := fun g hg => by
    have := h.fams.mem_iff.2 hg
    simpa [famsOf] using this
  have hsz : sizeOfAll T = R.ser.length := by
    rw [size_plains, h.texts.length_eq]; simp [textsOf]
  rcases h1 with ⟨a, rfl, rfl⟩ | ⟨a, b, rfl, rfl⟩ | ⟨a, A, f, B', e, enm, h1⟩
  · rcases h2 with ⟨_, rfl, rfl⟩ | ⟨a', _⟩ | ⟨a', _⟩
    · exact ⟨rfl, h⟩
    · exact absurd a' a
    · exact absurd a' a
  · rcases h2 with ⟨a', _⟩ | ⟨_, _, rfl, rfl⟩ | ⟨_, g, hg, eg, _⟩
    · exact absurd a a'
    · exact ⟨rfl, h⟩
    · obtain ⟨f, hf, ef⟩ := hR g hg
      exact absurd (by rw [← ef] at eg; exact eg) (b f hf)
  · have hf : f ∈ T := by rw [e]; simp
    have hp : HasName f.nm (plainP l) := by rw [enm]; exact plain_hasName a
    rcases h2 with ⟨a', _⟩ | ⟨_, b', _⟩ | ⟨_, g, hg, eg, h2⟩
    · exact absurd a a'
    · exact absurd enm (b' _ (hT f hf))
    · obtain ⟨f2, hf2, ef2⟩ := hR g hg
      have : f2 = f := mem_nm hd hf2 hf (by rw [enm, ← eg, ← ef2])
      subst this
      subst ef2
      have hin : ∀ x ∈ R.ser, x.2.1 = plainP l → ∃ c ∈ f2.ser, c.plain = plainP l := fun x hx ex => in_fam h hd hf hp (by rw [← ex]; exact List.mem_map_of_mem (f := fun x : List UInt8 × List UInt8 × List Int => x.2.1) hx)
      have hout : ∀ c ∈ f2.ser, c.plain = plainP l → ∃ x ∈ R.ser, x.2.1 = plainP l := fun c hc ec => by
        have : plainP l ∈ textsOf R := h.texts.mem_iff.1 (by
          simp only [plainsOf, List.mem_flatMap, List.mem_map]
          exact ⟨f2, hf, c, hc, ec⟩)
        simp only [textsOf, List.mem_map] at this
        obtain ⟨x, hx, ex⟩ := this
        exact ⟨x, hx, ex⟩
      rcases h1 with ⟨tk, rfl, rfl⟩ | ⟨tk, C, d, D, es, ed, rfl, rfl⟩ | ⟨tk, no, full, rfl, rfl⟩ | ⟨tk, no, room, rfl, C, D, es, rfl⟩
      · rcases h2 with ⟨_, rfl, rfl⟩ | ⟨tk', _⟩ | ⟨tk', _⟩ | ⟨tk', _⟩
        · exact ⟨rfl, h⟩
        all_goals (simp only at tk'; rw [tk] at tk'; cases tk')
      · rcases h2 with ⟨tk', _⟩ | ⟨_, C', x, D', es', ex, rfl, rfl⟩ | ⟨_, no', _⟩ | ⟨_, no', _⟩
        · simp only at tk'; rw [tk] at tk'; cases tk'
        · refine ⟨rfl, ⟨?_, ?_, ?_, ?_⟩⟩
          · have h3 := h.fams
            rw [e] at h3
            simpa [famsOf] using h3
          · have h3 := h.texts
            rw [e] at h3
            simp only [plainsOf, textsOf, es, es', List.flatMap_append, List.flatMap_cons, List.map_append, List.map_cons, countP_plain] at h3 ⊢
            exact h3
          · intro k hk
            simp only [List.mem_append, List.mem_cons] at hk
            rcases hk with hk | rfl | hk
            · exact h.names k (by rw [e]; simp [hk])
            · exact h.names f2 hf
            · exact h.names k (by rw [e]; simp [hk])
          · intro k hk
            simp only [List.mem_append, List.mem_cons] at hk
            rcases hk with hk | rfl | hk
            · exact h.begins k (by rw [e]; simp [hk])
            · intro c hc
              simp only [List.mem_append, List.mem_cons] at hc
              rcases hc with hc | rfl | hc
              · exact h.begins f2 hf c (by rw [es]; simp [hc])
              · rw [countP_plain]; exact h.begins f2 hf d (by rw [es]; simp)
              · exact h.begins f2 hf c (by rw [es]; simp [hc])
            · exact h.begins k (by rw [e]; simp [hk])
        all_goals
          obtain ⟨x, hx, ex⟩ := hout d (by rw [es]; simp) ed
          exact absurd ex (no' x hx)
      · rcases h2 with ⟨tk', _⟩ | ⟨_, C', x, D', es', ex, rfl, rfl⟩ | ⟨_, no', l', rfl, rfl⟩ | ⟨_, no', l', _⟩
        · simp only at tk'; rw [tk] at tk'; cases tk'
        · obtain ⟨c, hc, ec⟩ := hin x (by rw [es']; simp) ex
          exact absurd ec (no c hc)
        · exact ⟨rfl, h⟩
        · omega
      · rcases h2 with ⟨tk', _⟩ | ⟨_, C', x, D', es', ex, rfl, rfl⟩ | ⟨_, no', l', _⟩ | ⟨_, no', l', rfl, rfl⟩
        · simp only at tk'; rw [tk] at tk'; cases tk'
        · obtain ⟨c, hc, ec⟩ := hin x (by rw [es']; simp) ex
          exact absurd ec (no c hc)
        · omega
        · refine ⟨rfl, ⟨?_, ?_, ?_, ?_⟩⟩
          · have h3 := h.fams
            rw [e] at h3
            simpa [famsOf] using h3
          · have h3 := h.texts
            rw [e] at h3
            simp only [plainsOf, textsOf, es, List.flatMap_append, List.flatMap_cons, List.map_append, List.map_cons, List.map_nil, countP_plain, zeroCnt] at h3 ⊢
            refine List.Perm.trans ?_ ((h3.cons (plainP l)).trans (List.perm_append_singleton _ _).symm)
            simp only [List.append_assoc, List.cons_append]
            rw [← List.append_assoc, ← List.append_assoc (A.flatMap _)]
            exact List.perm_middle
          · intro k hk
            simp only [List.mem_append, List.mem_cons] at hk
            rcases hk with hk | rfl | hk
            · exact h.names k (by rw [e]; simp [hk])
            · exact h.names f2 hf
            · exact h.names k (by rw [e]; simp [hk])
          · intro k hk
            simp only [List.mem_append, List.mem_cons] at hk
            rcases hk with hk | rfl | hk
            · exact h.begins k (by rw [e]; simp [hk])
            · intro c hc
              simp only [List.mem_append, List.mem_cons] at hc
              rcases hc with hc | rfl | hc
              · exact h.begins f2 hf c (by rw [es]; simp [hc])
              · rw [countP_plain]; exact hp
              · exact h.begins f2 hf c (by rw [es]; simp [hc])
            · exact h.begins k (by rw [e]; simp [hk])

theorem drp_step {T T' : List Fam} {R R' : RV} {l : List UInt8} {c c' : Int} (h : Rel T R) (hd : (T.map Fam.nm).Nodup) (h1 : DrpOut T l c T') (h2 : RDrpOut R l c' R') : c = c' ∧ Rel T' R' := by
  have hinT : ∀ f ∈ T, ∀ c ∈ f.ser, c.plain = plainP l → ∃ x ∈ R.ser, x.2.1 = plainP l := fun f hf c hc ec => by
    have : plainP l ∈ textsOf R := h.texts.mem_iff.1 (by
      simp only [plainsOf, List.mem_flatMap, List.mem_map]
      exact ⟨f, hf, c, hc, ec⟩)
    simp only [textsOf, List.mem_map] at this
    obtain ⟨x, hx, ex⟩ := this
    exact ⟨x, hx, ex⟩
  have hinR : ∀ x ∈ R.ser, x.2.1 = plainP l → (readP l).err = 0 → ∃ f ∈ T, f.nm = (readP l).name ∧ ∃ c ∈ f.ser, c.plain = plainP l := fun x hx ex he => by
    have : plainP l ∈ plainsOf T := h.texts.mem_iff.2 (by rw [← ex]; exact List.mem_map_of_mem (f := fun x : List UInt8 × List UInt8 × List Int => x.2.1) hx)
    simp only [plainsOf, List.mem_flatMap, List.mem_map] at this
    obtain ⟨f, hf, c, hc, ec⟩ := this
    have hb := h.begins f hf c hc
    rw [ec] at hb
    exact ⟨f, hf, hasName_eq hb (plain_hasName he) (h.names f hf) (readP_noBrace l), c, hc, ec⟩
  rcases h1 with ⟨a, rfl, rfl⟩ | ⟨a, b, rfl, rfl⟩ | ⟨a, A, f, B', e, enm, h1⟩
  · rcases h2 with ⟨_, rfl, rfl⟩ | ⟨a', _⟩ | ⟨a', _⟩
    · exact ⟨rfl, h⟩
    · exact absurd a' a
    · exact absurd a' a
  · rcases h2 with ⟨a', _⟩ | ⟨_, _, rfl, rfl⟩ | ⟨_, C', x, D', es', ex, _⟩
    · exact absurd a a'
    · exact ⟨rfl, h⟩
    · obtain ⟨f, hf, ef, _⟩ := hinR x (by rw [es']; simp) ex a
      exact absurd ef (b f hf)
  · have hf : f ∈ T := by rw [e]; simp
    rcases h1 with ⟨no, rfl, rfl⟩ | ⟨C, d, D, es, ed, rfl, rfl⟩
    · rcases h2 with ⟨a', _⟩ | ⟨_, _, rfl, rfl⟩ | ⟨_, C', x, D', es', ex, _⟩
      · exact absurd a a'
      · exact ⟨rfl, h⟩
      · obtain ⟨f2, hf2, ef2, c, hc, ec⟩ := hinR x (by rw [es']; simp) ex a
        have : f2 = f := mem_nm hd hf2 hf (by rw [ef2, enm])
        subst this
        exact absurd ec (no c hc)
    · rcases h2 with ⟨a', _⟩ | ⟨_, no', _⟩ | ⟨_, C', x, D', es', ex, rfl, rfl⟩
      · exact absurd a a'
      · obtain ⟨x, hx, ex⟩ := hinT f hf d (by rw [es]; simp) ed
        exact absurd ex (no' x hx)
      · refine ⟨rfl, ⟨?_, ?_, ?_, ?_⟩⟩
        · have h3 := h.fams
          rw [e] at h3
          simpa [famsOf] using h3
        · have h3 := h.texts
          rw [e] at h3
          simp only [plainsOf, textsOf, es, es', List.flatMap_append, List.flatMap_cons, List.map_append, List.map_cons, ed, ex, List.append_assoc, List.cons_append] at h3 ⊢
          rw [← List.append_assoc] at h3
          rw [← List.append_assoc (A.flatMap _)]
          exact List.Perm.cons_inv ((List.perm_middle.symm.trans h3).trans List.perm_middle)
        · intro k hk
          simp only [List.mem_append, List.mem_cons] at hk
          rcases hk with hk | rfl | hk
          · exact h.names k (by rw [e]; simp [hk])
          · exact h.names f hf
          · exact h.names k (by rw [e]; simp [hk])
        · intro k hk
          simp only [List.mem_append, List.mem_cons] at hk
          rcases hk with hk | rfl | hk
          · exact h.begins k (by rw [e]; simp [hk])
          · intro c hc
            simp only [List.mem_append] at hc
            rcases hc with hc | hc
            · exact h.begins f hf c (by rw [es]; simp [hc])
            · exact h.begins f hf c (by rw [es]; simp [hc])
          · exact h.begins k (by rw [e]; simp [hk])

end Go.Proofs.YtecmkooiaghgcaaGreatDoor
