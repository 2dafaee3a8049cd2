/-
  What the board keeps and what the document's board keeps tell the same: the errors are the same, call by call. (Plain facts, no program.)
-/
import Derived.Test.YtcfdemhokbddiaaGreatDoorQKr
import Derived.Test.YtcfdemhokbddiaaGreatDoorQUa

namespace Go.Proofs.YtcfdemhokbddiaaGreatDoor
open Go.RowKit

def NoBrace (l : List UInt8) : Prop := ∀ c ∈ l, c ≠ 123
/-- The text begins with the name, and the name ends there. -/
def HasName (nm p : List UInt8) : Prop := ∃ t, p = nm ++ t ∧ (t = [] ∨ ∃ u, t = 123 :: u)
theorem hasName_eq {a b p : List UInt8} (ha : HasName a p) (hb : HasName b p) (na : NoBrace a) (nb : NoBrace b) : a = b := by
  obtain ⟨t, e1, h1⟩ := ha
  obtain ⟨u, e2, h2⟩ := hb
  have : a ++ t = b ++ u := by rw [← e1, ← e2]
  clear e1 e2
  induction a generalizing b with
  | nil =>
    cases b with
    | nil => rfl
    | cons y b =>
      rcases h1 with rfl | ⟨v, rfl⟩
      · simp at this
      · simp at this
        exact absurd this.1.symm (nb y (by simp))
  | cons x a ih =>
    cases b with
    | nil =>
      rcases h2 with rfl | ⟨v, rfl⟩
      · simp at this
      · simp at this
        exact absurd this.1 (na x (by simp))
    | cons y b =>
      simp only [List.cons_append, List.cons.injEq] at this
      rw [this.1, ih (fun c hc => na c (by simp [hc])) (b := b) (fun c hc => nb c (by simp [hc])) this.2]
theorem goes_noBrace {k : Nat} {c : UInt8} (h : goesB k (c.toNat : Int) = true) : c ≠ 123 := by
  intro e
  subst e
  simp [goesB, nameB] at h
theorem isName_noBrace {l : List UInt8} (h : isNameB l = true) : NoBrace l := by
  intro c hc
  obtain ⟨j, hj, rfl⟩ := List.getElem_of_mem hc
  exact goes_noBrace (((isNameB_iff l).1 h).2 j hj)
theorem nameLen_noBrace (k : Nat) (l : List UInt8) : NoBrace (l.take (nameLen k l)) := by
  induction l generalizing k with
  | nil => intro c hc; simp at hc
  | cons x l ih =>
    unfold nameLen
    split
    · rename_i hx
      intro c hc
      rw [Nat.add_comm, List.take_succ_cons, List.mem_cons] at hc
      rcases hc with rfl | hc
      · exact goes_noBrace (k := k) (by simpa [goesB] using hx)
      · exact ih (k + 1) c hc
    · intro c hc; simp at hc
theorem seriesP_name {n : Nat} {l l' : List UInt8} {p : List UInt8 × List Lab} (h : seriesP n l = (some p, l')) : NoBrace p.1 := by
  unfold seriesP at h
  split at h
  · simp at h
  · split at h
    · simp at h; rw [← h.1]; exact nameLen_noBrace 0 l
    · split at h
      · simp at h
      · split at h
        · simp at h; rw [← h.1]; exact nameLen_noBrace 0 l
        · simp at h
theorem readP_noBrace (l : List UInt8) : NoBrace (readP l).name := by
  unfold readP
  split
  · intro c hc; simp at hc
  · split
    · intro c hc; simp at hc
    · rename_i hs
      split
      · intro c hc; simp at hc
      · exact seriesP_name hs
theorem plain_hasName {l : List UInt8} (h : (readP l).err = 0) : HasName (readP l).name (plainP l) := by
  rw [show plainP l = plainB (readP l).name (readP l).labs by unfold plainP; rw [if_pos h]]
  unfold plainB
  rw [List.append_assoc]
  refine ⟨_, rfl, ?_⟩
  cases (readP l).labs with
  | nil => exact Or.inl rfl
  | cons x ls => exact Or.inr ⟨_, rfl⟩

def famsOf (T : List Fam) : List (List UInt8 × Int × List Int) := T.map fun f => (f.nm, f.kind, f.ls)
def plainsOf (T : List Fam) : List (List UInt8) := T.flatMap fun f => f.ser.map Cnt.plain
def textsOf (R : RV) : List (List UInt8) := R.ser.map fun x => x.2.1
/-- A series that was changed by all these numbers, one behind the other. -/
def folds (kind : Int) (ls : List Int) (ns : List Int) (p : List UInt8) : Cnt := ns.foldl (fun c n => countP kind ls n c) (zeroCnt p)
theorem folds_snoc (kind : Int) (ls ns : List Int) (n : Int) (p : List UInt8) : folds kind ls (ns ++ [n]) p = countP kind ls n (folds kind ls ns p) := by
  unfold folds; rw [List.foldl_append]; rfl
theorem ser_uniq : ∀ {l : List (List UInt8 × List UInt8 × List Int)}, (l.map fun x => x.2.1).Nodup → ∀ {x y}, x ∈ l → y ∈ l → x.2.1 = y.2.1 → x = y
  | [], _, _, _, hx, _, _ => by simp at hx
  | z :: l, hd, x, y, hx, hy, e => by
    rw [List.map_cons, List.nodup_cons] at hd
    rw [List.mem_cons] at hx hy
    rcases hx with rfl | hx <;> rcases hy with rfl | hy
    · rfl
    · exact absurd (by rw [e]; exact List.mem_map_of_mem (f := fun x : List UInt8 × List UInt8 × List Int => x.2.1) hy) hd.1
    · exact absurd (by rw [← e]; exact List.mem_map_of_mem (f := fun x : List UInt8 × List UInt8 × List Int => x.2.1) hx) hd.1
    · exact ser_uniq hd.2 hx hy e
structure Rel (T : List Fam) (R : RV) : Prop where
  fams : (famsOf T).Perm R.fams
  texts : (plainsOf T).Perm (textsOf R)
  names : ∀ f ∈ T, NoBrace f.nm
  begins : ∀ f ∈ T, ∀ c ∈ f.ser, HasName f.nm c.plain
  named : ∀ f ∈ T, f.nm ≠ []
  nodup : (textsOf R).Nodup
  vals : ∀ f ∈ T, ∀ c ∈ f.ser, ∃ ns, (f.nm, c.plain, ns) ∈ R.ser ∧ ns ≠ [] ∧ (∀ n ∈ ns, inB n = true) ∧ c = folds f.kind f.ls ns c.plain
  fit : ∀ f ∈ T, fitB f.kind f.ls = true
theorem Rel.start : Rel [] ⟨[], []⟩ := ⟨.refl _, .refl _, by simp, by simp, by simp, by simp [textsOf], by simp, by simp⟩

theorem mem_nm {T : List Fam} (hd : (T.map Fam.nm).Nodup) {f g : Fam} (hf : f ∈ T) (hg : g ∈ T) (e : f.nm = g.nm) : f = g := by
  induction T with
  | nil => simp at hf
  | cons x T ih =>
    rw [List.map_cons, List.nodup_cons] at hd
    rw [List.mem_cons] at hf hg
    rcases hf with rfl | hf <;> rcases hg with rfl | hg
    · rfl
    · exact absurd (by rw [e]; exact List.mem_map_of_mem hg) hd.1
    · exact absurd (by rw [← e]; exact List.mem_map_of_mem hf) hd.1
    · exact ih hd.2 hf hg

theorem fam_step {T T' : List Fam} {R R' : RV} {nm : List UInt8} {kind : Int} {xs : List Int} {c c' : Int} (h : Rel T R) (hd : (T.map Fam.nm).Nodup) (h1 : FamOut T nm kind xs c T') (h2 : RFamOut R nm kind xs c' R') : c = c' ∧ Rel T' R' := by
  have hlen : T.length = R.fams.length := by have := h.fams.length_eq; simpa [famsOf] using this
  have hT : ∀ f ∈ T, (f.nm, f.kind, f.ls) ∈ R.fams := fun f hf => h.fams.mem_iff.1 (List.mem_map_of_mem (f := fun f : Fam => (f.nm, f.kind, f.ls)) hf)
  have hR : ∀ g ∈ R.fams, ∃ f ∈ T, (f.nm, f.kind, f.ls) = g := fun g hg => by
    have := h.fams.mem_iff.2 hg
    simpa [famsOf] using this
  rcases h1 with ⟨a, rfl, rfl⟩ | ⟨a, b, rfl, rfl⟩ | ⟨a, b, ⟨f, hf, e, rfl⟩, rfl⟩ | ⟨a, b, d, l, rfl, rfl⟩ | ⟨a, b, d, l, rfl, C, D, e, rfl⟩ <;>
    rcases h2 with ⟨a', rfl, rfl⟩ | ⟨a', b', rfl, rfl⟩ | ⟨a', b', ⟨g, hg, e', rfl⟩, rfl⟩ | ⟨a', b', d', l', rfl, rfl⟩ | ⟨a', b', d', l', rfl, rfl⟩
  all_goals first
    | exact ⟨rfl, h⟩
    | exact absurd (a.symm.trans a') (by decide)
    | exact absurd (b.symm.trans b') (by decide)
    | (exact absurd e (fun e => d' _ (hT f hf) e))
    | (exfalso; obtain ⟨f, hf, e⟩ := hR g hg; exact d f hf (by rw [← e'] ; rw [← e]))
    | (exfalso; omega)
    | skip
  · obtain ⟨f2, hf2, e2⟩ := hR g hg
    have : f2 = f := mem_nm hd hf2 hf (by rw [e, ← e', ← e2])
    subst this
    rw [← e2]
    exact ⟨rfl, h⟩
  · refine ⟨rfl, ⟨?_, ?_, ?_, ?_, ?_, ?_, ?_, ?_⟩⟩
    · have h3 := h.fams
      rw [e] at h3
      simp only [famsOf, List.map_append, List.map_cons] at h3 ⊢
      exact List.perm_middle.trans ((h3.cons _).trans (List.perm_append_singleton _ _).symm)
    · have h3 := h.texts
      rw [e] at h3
      simpa [plainsOf, textsOf] using h3
    · intro f hf
      simp only [List.mem_append, List.mem_cons] at hf
      rcases hf with hf | rfl | hf
      · exact h.names f (by rw [e]; simp [hf])
      · exact isName_noBrace a
      · exact h.names f (by rw [e]; simp [hf])
    · intro f hf
      simp only [List.mem_append, List.mem_cons] at hf
      rcases hf with hf | rfl | hf
      · exact h.begins f (by rw [e]; simp [hf])
      · simp
      · exact h.begins f (by rw [e]; simp [hf])
    · intro f hf
      simp only [List.mem_append, List.mem_cons] at hf
      rcases hf with hf | rfl | hf
      · exact h.named f (by rw [e]; simp [hf])
      · exact ((isNameB_iff _).1 a).1
      · exact h.named f (by rw [e]; simp [hf])
    · exact h.nodup
    · intro f hf
      simp only [List.mem_append, List.mem_cons] at hf
      rcases hf with hf | rfl | hf
      · exact h.vals f (by rw [e]; simp [hf])
      · simp
      · exact h.vals f (by rw [e]; simp [hf])
    · intro f hf
      simp only [List.mem_append, List.mem_cons] at hf
      rcases hf with hf | rfl | hf
      · exact h.fit f (by rw [e]; simp [hf])
      · exact b
      · exact h.fit f (by rw [e]; simp [hf])

theorem size_plains (T : List Fam) : sizeOfAll T = (plainsOf T).length := by
  unfold sizeOfAll plainsOf
  rw [List.length_flatMap]
  simp

theorem in_fam {T : List Fam} {R : RV} (h : Rel T R) (hd : (T.map Fam.nm).Nodup) {f : Fam} (hf : f ∈ T) {p : List UInt8} (hp : HasName f.nm p) (hx : p ∈ textsOf R) : ∃ c ∈ f.ser, c.plain = p := by
  have := h.texts.mem_iff.2 hx
  simp only [plainsOf, List.mem_flatMap, List.mem_map] at this
  obtain ⟨g, hg, c, hc, rfl⟩ := this
  have e : g.nm = f.nm := hasName_eq (h.begins g hg c hc) hp (h.names g hg) (h.names f hf)
  have := mem_nm hd hg hf e
  subst this
  exact ⟨c, hc, rfl⟩

/-- What stands beside a family and a series of it. -/
theorem Rel.beside {T : List Fam} {R : RV} (h : Rel T R) (hd : (T.map Fam.nm).Nodup) {A B' : List Fam} {f : Fam} (e : T = A ++ f :: B') {p : List UInt8} (hp : HasName f.nm p) : (∀ k ∈ A, ∀ c ∈ k.ser, c.plain ≠ p) ∧ (∀ k ∈ B', ∀ c ∈ k.ser, c.plain ≠ p) := by
  have hf : f ∈ T := by rw [e]; simp
  have hne : ∀ k ∈ T, k.nm ≠ f.nm → ∀ c ∈ k.ser, c.plain ≠ p := fun k hk hn c hc ec => hn (hasName_eq (h.begins k hk c hc) (by rw [ec]; exact hp) (h.names k hk) (h.names f hf))
  have hd2 := hd
  rw [e, List.map_append, List.map_cons, List.nodup_append] at hd2
  obtain ⟨_, h2, h3⟩ := hd2
  rw [List.nodup_cons] at h2
  refine ⟨fun k hk => hne k (by rw [e]; simp [hk]) fun en => ?_, fun k hk => hne k (by rw [e]; simp [hk]) fun en => ?_⟩
  · exact h3 k.nm (List.mem_map_of_mem hk) f.nm (by simp) en
  · exact h2.1 (by rw [← en]; exact List.mem_map_of_mem hk)
theorem Rel.within {T : List Fam} {R : RV} (h : Rel T R) {f : Fam} (hf : f ∈ T) : (f.ser.map Cnt.plain).Nodup := by
  have hn : (plainsOf T).Nodup := h.texts.nodup_iff.2 h.nodup
  obtain ⟨A, B', e⟩ := List.append_of_mem hf
  rw [e] at hn
  simp only [plainsOf, List.flatMap_append, List.flatMap_cons] at hn
  rw [List.nodup_append, List.nodup_append] at hn
  exact hn.2.1.1
theorem Rel.inside {T : List Fam} {R : RV} (h : Rel T R) {f : Fam} (hf : f ∈ T) {C D : List Cnt} {d : Cnt} (es : f.ser = C ++ d :: D) : (∀ c ∈ C, c.plain ≠ d.plain) ∧ (∀ c ∈ D, c.plain ≠ d.plain) := by
  have hn := h.within hf
  rw [es, List.map_append, List.map_cons, List.nodup_append] at hn
  obtain ⟨_, h2, h3⟩ := hn
  rw [List.nodup_cons] at h2
  exact ⟨fun c hc en => h3 c.plain (List.mem_map_of_mem hc) d.plain (by simp) en, fun c hc en => h2.1 (by rw [← en]; exact List.mem_map_of_mem hc)⟩

theorem chg_step {T T' : List Fam} {R R' : RV} {l : List UInt8} {n : Int} {c c' : Int} (h : Rel T R) (hd : (T.map Fam.nm).Nodup) (hm : R.ser.length ≤ 24) (h1 : ChgOut T l n c T') (h2 : RChgOut R l n c' R') : c = c' ∧ Rel T' R' := by
  have hT : ∀ f ∈ T, (f.nm, f.kind, f.ls) ∈ R.fams := fun f hf => h.fams.mem_iff.1 (List.mem_map_of_mem (f := fun f : Fam => (f.nm, f.kind, f.ls)) hf)
  have hR : ∀ g ∈ R.fams, ∃ f ∈ T, (f.nm, f.kind, f.ls) = g := fun g hg => by
    have := h.fams.mem_iff.2 hg
    simpa [famsOf] using this
  have hsz : sizeOfAll T = R.ser.length := by
    rw [size_plains, h.texts.length_eq]; simp [textsOf]
  rcases h1 with ⟨a, rfl, rfl⟩ | ⟨a, b, rfl, rfl⟩ | ⟨a, A, f, B', e, enm, h1⟩
  · rcases h2 with ⟨_, rfl, rfl⟩ | ⟨a', _⟩ | ⟨a', _⟩
    · exact ⟨rfl, h⟩
    · exact absurd a' a
    · exact absurd a' a
  · rcases h2 with ⟨a', _⟩ | ⟨_, _, rfl, rfl⟩ | ⟨_, g, hg, eg, _⟩
    · exact absurd a a'
    · exact ⟨rfl, h⟩
    · obtain ⟨f, hf, ef⟩ := hR g hg
      exact absurd (by rw [← ef] at eg; exact eg) (b f hf)
  · have hf : f ∈ T := by rw [e]; simp
    have hp : HasName f.nm (plainP l) := by rw [enm]; exact plain_hasName a
    rcases h2 with ⟨a', _⟩ | ⟨_, b', _⟩ | ⟨_, g, hg, eg, h2⟩
    · exact absurd a a'
    · exact absurd enm (b' _ (hT f hf))
    · obtain ⟨f2, hf2, ef2⟩ := hR g hg
      have : f2 = f := mem_nm hd hf2 hf (by rw [enm, ← eg, ← ef2])
      subst this
      subst ef2
      have hin : ∀ x ∈ R.ser, x.2.1 = plainP l → ∃ c ∈ f2.ser, c.plain = plainP l := fun x hx ex => in_fam h hd hf hp (by rw [← ex]; exact List.mem_map_of_mem (f := fun x : List UInt8 × List UInt8 × List Int => x.2.1) hx)
      have hout : ∀ c ∈ f2.ser, c.plain = plainP l → ∃ x ∈ R.ser, x.2.1 = plainP l := fun c hc ec => by
        have : plainP l ∈ textsOf R := h.texts.mem_iff.1 (by
          simp only [plainsOf, List.mem_flatMap, List.mem_map]
          exact ⟨f2, hf, c, hc, ec⟩)
        simp only [textsOf, List.mem_map] at this
        obtain ⟨x, hx, ex⟩ := this
        exact ⟨x, hx, ex⟩
      rcases h1 with ⟨tk, rfl, rfl⟩ | ⟨tk, C, d, D, es, ed, rfl, rfl⟩ | ⟨tk, no, full, rfl, rfl⟩ | ⟨tk, no, room, rfl, C, D, es, rfl⟩
      · rcases h2 with ⟨_, rfl, rfl⟩ | ⟨tk', _⟩ | ⟨tk', _⟩ | ⟨tk', _⟩
        · exact ⟨rfl, h⟩
        all_goals (simp only at tk'; rw [tk] at tk'; cases tk')
      · rcases h2 with ⟨tk', _⟩ | ⟨_, C', x, D', es', ex, rfl, rfl⟩ | ⟨_, no', _⟩ | ⟨_, no', _⟩
        · simp only at tk'; rw [tk] at tk'; cases tk'
        · refine ⟨rfl, ⟨?_, ?_, ?_, ?_, ?_, ?_, ?_, ?_⟩⟩
          · have h3 := h.fams
            rw [e] at h3
            simpa [famsOf] using h3
          · have h3 := h.texts
            rw [e] at h3
            simp only [plainsOf, textsOf, es, es', List.flatMap_append, List.flatMap_cons, List.map_append, List.map_cons, countP_plain] at h3 ⊢
            exact h3
          · intro k hk
            simp only [List.mem_append, List.mem_cons] at hk
            rcases hk with hk | rfl | hk
            · exact h.names k (by rw [e]; simp [hk])
            · exact h.names f2 hf
            · exact h.names k (by rw [e]; simp [hk])
          · intro k hk
            simp only [List.mem_append, List.mem_cons] at hk
            rcases hk with hk | rfl | hk
            · exact h.begins k (by rw [e]; simp [hk])
            · intro c hc
              simp only [List.mem_append, List.mem_cons] at hc
              rcases hc with hc | rfl | hc
              · exact h.begins f2 hf c (by rw [es]; simp [hc])
              · rw [countP_plain]; exact h.begins f2 hf d (by rw [es]; simp)
              · exact h.begins f2 hf c (by rw [es]; simp [hc])
            · exact h.begins k (by rw [e]; simp [hk])
          · intro k hk
            simp only [List.mem_append, List.mem_cons] at hk
            rcases hk with hk | rfl | hk
            · exact h.named k (by rw [e]; simp [hk])
            · exact h.named f2 hf
            · exact h.named k (by rw [e]; simp [hk])
          · have h3 := h.nodup
            simp only [textsOf, es', List.map_append, List.map_cons] at h3 ⊢
            exact h3
          · obtain ⟨b1, b2⟩ := h.beside hd e hp
            obtain ⟨i1, i2⟩ := h.inside hf es
            obtain ⟨ns, hm2, hne, hin9, hfo⟩ := h.vals f2 hf d (by rw [es]; simp)
            have hx : (f2.nm, d.plain, ns) = x := ser_uniq h.nodup hm2 (by rw [es']; simp) (by rw [ex, ed])
            have Q : ∀ k ∈ T, ∀ c ∈ k.ser, c.plain ≠ plainP l → ∃ ns, (k.nm, c.plain, ns) ∈ C' ++ (x.1, x.2.1, x.2.2 ++ [n]) :: D' ∧ ns ≠ [] ∧ (∀ n ∈ ns, inB n = true) ∧ c = folds k.kind k.ls ns c.plain := fun k hk c hc hn => by
              obtain ⟨ns, hm, h1, h2⟩ := h.vals k hk c hc
              refine ⟨ns, ?_, h1, h2⟩
              rw [es'] at hm
              simp only [List.mem_append, List.mem_cons] at hm ⊢
              rcases hm with hm | hm | hm
              · exact Or.inl hm
              · exact absurd (by rw [← hm] at ex; exact ex) hn
              · exact Or.inr (Or.inr hm)
            intro k hk
            simp only [List.mem_append, List.mem_cons] at hk
            rcases hk with hk | rfl | hk
            · exact fun c hc => Q k (by rw [e]; simp [hk]) c hc (b1 k hk c hc)
            · intro c hc
              simp only [List.mem_append, List.mem_cons] at hc
              rcases hc with hc | rfl | hc
              · exact Q f2 hf c (by rw [es]; simp [hc]) (by rw [← ed]; exact i1 c hc)
              · refine ⟨ns ++ [n], ?_, by simp, fun x hx => ?_, ?_⟩
                · rw [countP_plain, ← hx]; simp
                · simp only [List.mem_append, List.mem_singleton] at hx
                  rcases hx with hx | rfl
                  · exact hin9 x hx
                  · exact (Bool.and_eq_true _ _ ▸ tk : inB x = true ∧ _).1
                · show countP f2.kind f2.ls n d = _
                  rw [countP_plain, folds_snoc, ← hfo]
              · exact Q f2 hf c (by rw [es]; simp [hc]) (by rw [← ed]; exact i2 c hc)
            · exact fun c hc => Q k (by rw [e]; simp [hk]) c hc (b2 k hk c hc)
          · intro k hk
            simp only [List.mem_append, List.mem_cons] at hk
            rcases hk with hk | rfl | hk
            · exact h.fit k (by rw [e]; simp [hk])
            · exact h.fit f2 hf
            · exact h.fit k (by rw [e]; simp [hk])
        all_goals
          obtain ⟨x, hx, ex⟩ := hout d (by rw [es]; simp) ed
          exact absurd ex (no' x hx)
      · rcases h2 with ⟨tk', _⟩ | ⟨_, C', x, D', es', ex, rfl, rfl⟩ | ⟨_, no', l', rfl, rfl⟩ | ⟨_, no', l', _⟩
        · simp only at tk'; rw [tk] at tk'; cases tk'
        · obtain ⟨c, hc, ec⟩ := hin x (by rw [es']; simp) ex
          exact absurd ec (no c hc)
        · exact ⟨rfl, h⟩
        · omega
      · rcases h2 with ⟨tk', _⟩ | ⟨_, C', x, D', es', ex, rfl, rfl⟩ | ⟨_, no', l', _⟩ | ⟨_, no', l', rfl, rfl⟩
        · simp only at tk'; rw [tk] at tk'; cases tk'
        · obtain ⟨c, hc, ec⟩ := hin x (by rw [es']; simp) ex
          exact absurd ec (no c hc)
        · omega
        · refine ⟨rfl, ⟨?_, ?_, ?_, ?_, ?_, ?_, ?_, ?_⟩⟩
          · have h3 := h.fams
            rw [e] at h3
            simpa [famsOf] using h3
          · have h3 := h.texts
            rw [e] at h3
            simp only [plainsOf, textsOf, es, List.flatMap_append, List.flatMap_cons, List.map_append, List.map_cons, List.map_nil, countP_plain, zeroCnt] at h3 ⊢
            refine List.Perm.trans ?_ ((h3.cons (plainP l)).trans (List.perm_append_singleton _ _).symm)
            simp only [List.append_assoc, List.cons_append]
            rw [← List.append_assoc, ← List.append_assoc (A.flatMap _)]
            exact List.perm_middle
          · intro k hk
            simp only [List.mem_append, List.mem_cons] at hk
            rcases hk with hk | rfl | hk
            · exact h.names k (by rw [e]; simp [hk])
            · exact h.names f2 hf
            · exact h.names k (by rw [e]; simp [hk])
          · intro k hk
            simp only [List.mem_append, List.mem_cons] at hk
            rcases hk with hk | rfl | hk
            · exact h.begins k (by rw [e]; simp [hk])
            · intro c hc
              simp only [List.mem_append, List.mem_cons] at hc
              rcases hc with hc | rfl | hc
              · exact h.begins f2 hf c (by rw [es]; simp [hc])
              · rw [countP_plain]; exact hp
              · exact h.begins f2 hf c (by rw [es]; simp [hc])
            · exact h.begins k (by rw [e]; simp [hk])
          · intro k hk
            simp only [List.mem_append, List.mem_cons] at hk
            rcases hk with hk | rfl | hk
            · exact h.named k (by rw [e]; simp [hk])
            · exact h.named f2 hf
            · exact h.named k (by rw [e]; simp [hk])
          · have h3 := h.nodup
            simp only [textsOf, List.map_append, List.map_cons, List.map_nil] at h3 ⊢
            rw [List.nodup_append]
            refine ⟨h3, by simp, fun a ha b hb e => ?_⟩
            simp only [List.mem_singleton] at hb
            simp only [List.mem_map] at ha
            obtain ⟨x, hx, ex⟩ := ha
            exact no' x hx (by rw [ex, e, hb])
          · have Q : ∀ k ∈ T, ∀ c ∈ k.ser, ∃ ns, (k.nm, c.plain, ns) ∈ R.ser ++ [((readP l).name, plainP l, [n])] ∧ ns ≠ [] ∧ (∀ n ∈ ns, inB n = true) ∧ c = folds k.kind k.ls ns c.plain := fun k hk c hc => by
              obtain ⟨ns, hm, h1, h2⟩ := h.vals k hk c hc
              exact ⟨ns, by simp [hm], h1, h2⟩
            intro k hk
            simp only [List.mem_append, List.mem_cons] at hk
            rcases hk with hk | rfl | hk
            · exact Q k (by rw [e]; simp [hk])
            · intro c hc
              simp only [List.mem_append, List.mem_cons] at hc
              rcases hc with hc | rfl | hc
              · exact Q f2 hf c (by rw [es]; simp [hc])
              · refine ⟨[n], ?_, by simp, fun x hx => ?_, ?_⟩
                · rw [countP_plain, ← enm]; simp [zeroCnt]
                · simp only [List.mem_singleton] at hx
                  subst hx
                  exact (Bool.and_eq_true _ _ ▸ tk : inB x = true ∧ _).1
                · show countP f2.kind f2.ls n (zeroCnt (plainP l)) = _
                  rw [countP_plain]; rfl
              · exact Q f2 hf c (by rw [es]; simp [hc])
            · exact Q k (by rw [e]; simp [hk])
          · intro k hk
            simp only [List.mem_append, List.mem_cons] at hk
            rcases hk with hk | rfl | hk
            · exact h.fit k (by rw [e]; simp [hk])
            · exact h.fit f2 hf
            · exact h.fit k (by rw [e]; simp [hk])

theorem drp_step {T T' : List Fam} {R R' : RV} {l : List UInt8} {c c' : Int} (h : Rel T R) (hd : (T.map Fam.nm).Nodup) (h1 : DrpOut T l c T') (h2 : RDrpOut R l c' R') : c = c' ∧ Rel T' R' := by
  have hinT : ∀ f ∈ T, ∀ c ∈ f.ser, c.plain = plainP l → ∃ x ∈ R.ser, x.2.1 = plainP l := fun f hf c hc ec => by
    have : plainP l ∈ textsOf R := h.texts.mem_iff.1 (by
      simp only [plainsOf, List.mem_flatMap, List.mem_map]
      exact ⟨f, hf, c, hc, ec⟩)
    simp only [textsOf, List.mem_map] at this
    obtain ⟨x, hx, ex⟩ := this
    exact ⟨x, hx, ex⟩
  have hinR : ∀ x ∈ R.ser, x.2.1 = plainP l → (readP l).err = 0 → ∃ f ∈ T, f.nm = (readP l).name ∧ ∃ c ∈ f.ser, c.plain = plainP l := fun x hx ex he => by
    have : plainP l ∈ plainsOf T := h.texts.mem_iff.2 (by rw [← ex]; exact List.mem_map_of_mem (f := fun x : List UInt8 × List UInt8 × List Int => x.2.1) hx)
    simp only [plainsOf, List.mem_flatMap, List.mem_map] at this
    obtain ⟨f, hf, c, hc, ec⟩ := this
    have hb := h.begins f hf c hc
    rw [ec] at hb
    exact ⟨f, hf, hasName_eq hb (plain_hasName he) (h.names f hf) (readP_noBrace l), c, hc, ec⟩
  rcases h1 with ⟨a, rfl, rfl⟩ | ⟨a, b, rfl, rfl⟩ | ⟨a, A, f, B', e, enm, h1⟩
  · rcases h2 with ⟨_, rfl, rfl⟩ | ⟨a', _⟩ | ⟨a', _⟩
    · exact ⟨rfl, h⟩
    · exact absurd a' a
    · exact absurd a' a
  · rcases h2 with ⟨a', _⟩ | ⟨_, _, rfl, rfl⟩ | ⟨_, C', x, D', es', ex, _⟩
    · exact absurd a a'
    · exact ⟨rfl, h⟩
    · obtain ⟨f, hf, ef, _⟩ := hinR x (by rw [es']; simp) ex a
      exact absurd ef (b f hf)
  · have hf : f ∈ T := by rw [e]; simp
    rcases h1 with ⟨no, rfl, rfl⟩ | ⟨C, d, D, es, ed, rfl, rfl⟩
    · rcases h2 with ⟨a', _⟩ | ⟨_, _, rfl, rfl⟩ | ⟨_, C', x, D', es', ex, _⟩
      · exact absurd a a'
      · exact ⟨rfl, h⟩
      · obtain ⟨f2, hf2, ef2, c, hc, ec⟩ := hinR x (by rw [es']; simp) ex a
        have : f2 = f := mem_nm hd hf2 hf (by rw [ef2, enm])
        subst this
        exact absurd ec (no c hc)
    · rcases h2 with ⟨a', _⟩ | ⟨_, no', _⟩ | ⟨_, C', x, D', es', ex, rfl, rfl⟩
      · exact absurd a a'
      · obtain ⟨x, hx, ex⟩ := hinT f hf d (by rw [es]; simp) ed
        exact absurd ex (no' x hx)
      · refine ⟨rfl, ⟨?_, ?_, ?_, ?_, ?_, ?_, ?_, ?_⟩⟩
        · have h3 := h.fams
          rw [e] at h3
          simpa [famsOf] using h3
        · have h3 := h.texts
          rw [e] at h3
          simp only [plainsOf, textsOf, es, es', List.flatMap_append, List.flatMap_cons, List.map_append, List.map_cons, ed, ex, List.append_assoc, List.cons_append] at h3 ⊢
          rw [← List.append_assoc] at h3
          rw [← List.append_assoc (A.flatMap _)]
          exact List.Perm.cons_inv ((List.perm_middle.symm.trans h3).trans List.perm_middle)
        · intro k hk
          simp only [List.mem_append, List.mem_cons] at hk
          rcases hk with hk | rfl | hk
          · exact h.names k (by rw [e]; simp [hk])
          · exact h.names f hf
          · exact h.names k (by rw [e]; simp [hk])
        · intro k hk
          simp only [List.mem_append, List.mem_cons] at hk
          rcases hk with hk | rfl | hk
          · exact h.begins k (by rw [e]; simp [hk])
          · intro c hc
            simp only [List.mem_append] at hc
            rcases hc with hc | hc
            · exact h.begins f hf c (by rw [es]; simp [hc])
            · exact h.begins f hf c (by rw [es]; simp [hc])
          · exact h.begins k (by rw [e]; simp [hk])
        · intro k hk
          simp only [List.mem_append, List.mem_cons] at hk
          rcases hk with hk | rfl | hk
          · exact h.named k (by rw [e]; simp [hk])
          · exact h.named f hf
          · exact h.named k (by rw [e]; simp [hk])
        · have h3 := h.nodup
          simp only [textsOf, es', List.map_append, List.map_cons] at h3 ⊢
          exact h3.sublist (List.Sublist.append (List.Sublist.refl _) (List.sublist_cons_self _ _))
        · have hp : HasName f.nm (plainP l) := by rw [enm]; exact plain_hasName a
          obtain ⟨b1, b2⟩ := h.beside hd e hp
          obtain ⟨i1, i2⟩ := h.inside hf es
          have Q : ∀ k ∈ T, ∀ c ∈ k.ser, c.plain ≠ plainP l → ∃ ns, (k.nm, c.plain, ns) ∈ C' ++ D' ∧ ns ≠ [] ∧ (∀ n ∈ ns, inB n = true) ∧ c = folds k.kind k.ls ns c.plain := fun k hk c hc hn => by
            obtain ⟨ns, hm, h1, h2⟩ := h.vals k hk c hc
            refine ⟨ns, ?_, h1, h2⟩
            rw [es'] at hm
            simp only [List.mem_append, List.mem_cons] at hm ⊢
            rcases hm with hm | hm | hm
            · exact Or.inl hm
            · exact absurd (by rw [← hm] at ex; exact ex) hn
            · exact Or.inr hm
          intro k hk
          simp only [List.mem_append, List.mem_cons] at hk
          rcases hk with hk | rfl | hk
          · exact fun c hc => Q k (by rw [e]; simp [hk]) c hc (b1 k hk c hc)
          · intro c hc
            simp only [List.mem_append] at hc
            rcases hc with hc | hc
            · exact Q f hf c (by rw [es]; simp [hc]) (by rw [← ed]; exact i1 c hc)
            · exact Q f hf c (by rw [es]; simp [hc]) (by rw [← ed]; exact i2 c hc)
          · exact fun c hc => Q k (by rw [e]; simp [hk]) c hc (b2 k hk c hc)
        · intro k hk
          simp only [List.mem_append, List.mem_cons] at hk
          rcases hk with hk | rfl | hk
          · exact h.fit k (by rw [e]; simp [hk])
          · exact h.fit f hf
          · exact h.fit k (by rw [e]; simp [hk])

end Go.Proofs.YtcfdemhokbddiaaGreatDoor

/-
  The law's small functions: num, plains, pick, lent, part.
-/
namespace Go.Proofs.YtcfdemhokbddiaaGreatDoor
open Go.RowKit

set_option maxRecDepth 100000 in
set_option maxHeartbeats 400000 in
theorem num_any (n : Int) (w : World) : Calls Tryz.prog 49 #[.int .i64 n] w fun e w' => e = .returned (.int .i64 n) ∧ w' = w := by
  go_enter Tryz.func49, Tryz.ntmps49
  go_wp2
  go_ret
  exact ⟨rfl, rfl⟩

set_option maxRecDepth 100000 in
set_option maxHeartbeats 400000 in
theorem plains_any (s : ByteArray) (w : World) : Calls Tryz.prog 43 #[.string s] w fun e w' => e = .returned (.bool true) ∧ w.grownBy w' none := by
  have hp := plain_any s w
  have hq := parse_any s
  generalize plainP s.data.toList = t at hp hq
  generalize (readP s.data.toList).name = nm at hq
  generalize (readP s.data.toList).err = er at hp hq
  generalize (if er = 0 then 0 else (readP s.data.toList).at_) = at_ at hp hq
  have HP : Hid (Calls Tryz.prog 26 #[.string s] w _) := hp
  have HQ : Hid (∀ w, Calls Tryz.prog 80 #[.string s] w _) := hq
  clear hp hq
  go_enter Tryz.func43, Tryz.ntmps43
  go_wp2_with fail
  refine HP.out.mono ?_
  rintro e w1 ⟨rfl, b1⟩
  go_wp2_with fail
  refine (HQ.out w1).mono ?_
  rintro e w2 ⟨rfl, b2⟩
  unfold outV
  have hself : ((B t).toList == (B t).toList) = true := by simp
  have hself2 : ((er : Int) == (er : Int)) = true := by simp
  have hself3 : ((at_ : Int) == (at_ : Int)) = true := by simp
  go_wp2_with (go_at_call 49; refine (num_any _ _).mono ?_; rintro e w' ⟨rfl, rfl⟩)
  go_ret
  exact ⟨rfl, gb_trans (gb_of_below b1) (gb_of_below b2)⟩

/-- Which of n things the number speaks of. -/
def lpickP (c : Int) (n : Nat) : Nat := (if c < 0 then (-(c + 1)).toNat else c.toNat) % n
theorem lpickP_lt (c : Int) (n : Nat) (hn : 0 < n) : lpickP c n < n := Nat.mod_lt _ hn

set_option maxRecDepth 100000 in
set_option maxHeartbeats 400000 in
theorem pick_any (c : Int) (n : Nat) (w : World) (hn : 0 < n) (hm : n ≤ 9223372036854775807) (hc : -9223372036854775808 ≤ c ∧ c ≤ 9223372036854775807) :
    Calls Tryz.prog 44 #[.int .i64 c, .int .i64 (n : Int)] w fun e w' => e = .returned (.int .i64 (lpickP c n : Int)) ∧ w' = w := by
  obtain ⟨hc1, hc2⟩ := hc
  have hne : ((n : Int) == 0) = false := by simp; omega
  by_cases h : c < 0
  · obtain ⟨d, hd⟩ : ∃ d : Nat, c = -((d : Int) + 1) := ⟨(-(c + 1)).toNat, by omega⟩
    subst hd
    have HP : Hid (lpickP (-((d : Int) + 1)) n = d % n) := by
      show _ = _
      unfold lpickP
      rw [if_pos (by omega), show (-(-((d : Int) + 1) + 1)).toNat = d from by omega]
    have hd1 : (d : Int) ≤ 9223372036854775807 := by omega
    have e1 : IntKind.i64.wrap (-((d : Int) + 1) + 1) = -(d : Int) := by rw [IntKind.wrap_i64]; omega
    have e2 : -((d : Int) + 1) + 1 = -(d : Int) := by omega
    go_enter Tryz.func44, Tryz.ntmps44
    go_wp2
    go_ret
    exact ⟨by rw [HP.out, Int.natCast_emod]; rfl, rfl⟩
  · obtain ⟨d, hd⟩ : ∃ d : Nat, c = (d : Int) := ⟨c.toNat, by omega⟩
    subst hd
    have HP : Hid (lpickP (d : Int) n = d % n) := by
      show _ = _
      unfold lpickP
      rw [if_neg (by omega), Int.toNat_natCast]
    go_enter Tryz.func44, Tryz.ntmps44
    go_wp2
    go_ret
    exact ⟨by rw [HP.out, Int.natCast_emod]; rfl, rfl⟩

/-- copy into a row that is known whole. -/
theorem run_copy_whole {P : Program} (w : World) (dT sT ty elem : TypeId) (g dLen dCap : Nat) (a : Addr) (sLen sCap : Nat) (cur : Array Value) (t : TypeId) (cs : List Value)
    (hu : P.underlying dT = some (.slice elem)) (hs : (P.info? elem).map (·.size) = some 1)
    (hg : w.heap[g]? = some (.cells cur t (0, 0))) (hn : sLen ≤ dLen) (hcl : cs.length = sLen)
    (hsrc : ∀ j v, cs[j]? = some v → w.cell? (a.add j) = some v) (hfit : cs.length ≤ cur.size) (h1 : ∀ v ∈ cs, v.oneCell' = true) :
    (Builtin.copy_ #[dT, sT] ty #[.slice (some ⟨g, 0, none⟩) dLen dCap, .slice (some a) sLen sCap]).run P w =
      .ok (goInt sLen) (w.setRow g (cs ++ cur.toList.drop cs.length).toArray) := by
  have hl := run_loadCells_list (P := P) w a cs hsrc
  have hst := run_storeCells_at P g 0 t cs 0 cur w hg (by simpa using hfit) h1
  have hmin : sLen = Nat.min sLen dLen := by simp only [Nat.min_def]; split <;> omega
  cases hq : P.info? elem with
  | none => simp [hq] at hs
  | some i =>
    have hi : i.size = 1 := by simpa [hq] using hs
    rw [hcl] at hl
    simp [Builtin.copy_, run_underlying hu, Builtin.lenOf, Builtin.firstCells, sizeOf, typeInfo, hq, hi, ← hmin, hl, hst]

/-- Numbers to hand in, two others behind them. -/
def lentObj (xs : List Int) : Obj := .cells (ints xs ++ [Value.int .i64 77, Value.int .i64 78]).toArray 3

theorem two_of {l : List Value} (h : l.length = 2) : ∃ a b, l = [a, b] := by
  match l, h with
  | [a, b], _ => exact ⟨a, b, rfl⟩

set_option maxRecDepth 100000 in
set_option maxRecDepth 100000 in
set_option maxHeartbeats 1000000 in
theorem lent_any (v : Value) (xs : List Int) (w : World) (hv : IntSl w v xs) (hb : xs.length ≤ 17592186044416) :
    Calls Tryz.prog 45 #[v] w fun e w' => e = .returned (.slice (some ⟨w.heap.size, 0, none⟩) (xs.length + 2) (xs.length + 2)) ∧ w'.heap[w.heap.size]? = some (lentObj xs) ∧ w.grownBy w' none := by
  obtain ⟨i0, hi, hz0, hz1, hz2⟩ := info_parts Tryz.info3
  have hinfo : (Tryz.prog.info? 3).map (·.size) = some 1 := by rw [hi]; simp [hz1]
  have HI : Hid (Tryz.prog.info? 3 = some i0 ∧ i0.zero = some (.int .i64 0) ∧ i0.size = 1 ∧ i0.bytes = 8) := ⟨hi, hz0, hz1, hz2⟩
  obtain ⟨sa, ca, rfl, hca, hxs⟩ := hv
  clear hi hz0 hz1 hz2
  go_enter Tryz.func45, Tryz.ntmps45
  go_wp2_with (at_make; refine wpList_make_full _ rfl _ _ 26 rfl w.heap.size 3 i0 (.int .i64 0) 1 Tryz.underlying26 HI.out.1 HI.out.2.1 HI.out.2.2.1 .i64 .i64 _ _ (xs.length + 2) rfl rfl (by go_num) (by go_num) (by rw [HI.out.2.2.2]; omega) (by unfold maxLen; omega) (Nat.le_refl _) ?_; intro w0 own0 g0)
  obtain ⟨cur, hg, hcs⟩ : ∃ cur, w0.heap[w.heap.size]? = some (.cells cur 3) ∧ cur.size = xs.length + 2 := by
    rcases own0.2 with ⟨h1, _⟩ | ⟨g', cap', cur, h1, h2, h3, h4, h5, h6, h7⟩
    · simp at h1
    · simp at h1; obtain ⟨rfl, rfl⟩ := h1; exact ⟨cur, h3, by simpa using h6⟩
  have hz : w.heap.size < w0.heap.size := lt_of hg
  obtain ⟨a, b, hab⟩ := two_of (l := cur.toList.drop xs.length) (by simp [hcs])
  have hcopy : ∃ W, (∀ ty, ∃ r, (Builtin.copy_ #[26, 26] ty #[.slice (some ⟨w.heap.size, 0, none⟩) (xs.length + 2) (xs.length + 2), .slice sa xs.length ca]).run Tryz.prog w0 = .ok r W) ∧ W.heap[w.heap.size]? = some (.cells (ints xs ++ [a, b]).toArray 3) ∧ w.grownBy W none := by
    cases sa with
    | none =>
      have hx0 : xs = [] := by
        rcases hxs with h | ⟨b1, o1, h, _⟩
        · exact h
        · cases h
      subst hx0
      refine ⟨w0, fun ty => ⟨goInt 0, ?_⟩, ?_, g0⟩
      · simp [Builtin.copy_, run_underlying Tryz.underlying26, Builtin.lenOf, Builtin.firstCells, sizeOf, typeInfo, HI.out.1, storeCells]
      · rw [hg]
        simp only [List.length_nil, List.drop_zero] at hab
        simp [ints, ← hab]
    | some ad =>
      have hsrc : ∀ j u, (ints xs)[j]? = some u → w0.cell? (ad.add j) = some u := by
        intro j u hj
        rcases hxs with h | ⟨b1, o1, h, hI⟩
        · subst h; simp [ints] at hj
        · cases h
          have hjl : j < xs.length := by
            have := (List.getElem?_eq_some_iff.1 hj).1
            simpa [ints] using this
          rw [Addr.add_lit, gb_cell g0 (hI j hjl) (by simp)]
          simp [ints, hjl] at hj
          rw [hj]
      refine ⟨w0.setRow w.heap.size (ints xs ++ [a, b]).toArray, fun ty => ⟨goInt xs.length, ?_⟩, setRow_heap w0 _ cur _ 3 (0, 0) hg, ?_⟩
      · rw [run_copy_whole w0 26 26 ty 3 w.heap.size (xs.length + 2) (xs.length + 2) ad xs.length ca cur 3 (ints xs) Tryz.underlying26 hinfo hg (by omega) (by simp [ints]) hsrc (by simp [ints]; omega) (ints_one _), ints_len, hab]
      · exact ⟨g0.os, g0.tape, g0.output, by simpa using g0.size, fun k hk hn => by rw [setRow_other _ _ _ _ (by omega)]; exact g0.block k hk hn⟩
  obtain ⟨W, hrun, hWg, gW⟩ := hcopy
  clear own0 hg hcs hab g0
  obtain ⟨r, hr⟩ := hrun 3
  have hlen : (ints xs ++ [a, b]).length = xs.length + 2 := by simp [ints]
  have c0 : W.cell? ⟨w.heap.size, xs.length, none⟩ = some a := by
    unfold World.cell?; simp only [hWg]; simp [ints]
  have c1 : W.cell? ⟨w.heap.size, xs.length + 1, none⟩ = some b := by
    unfold World.cell?; simp only [hWg]
    rw [List.getElem?_toArray, List.getElem?_append_right (by simp [ints])]; simp [ints]
  have z0 : W.frozen? ⟨w.heap.size, xs.length, none⟩ = false := by unfold World.frozen?; simp only [hWg]; simp
  have z1 : W.frozen? ⟨w.heap.size, xs.length + 1, none⟩ = false := by unfold World.frozen?; simp only [hWg]; simp
  have HW : Hid (((W.setCell ⟨w.heap.size, xs.length, none⟩ (.int .i64 77)).setCell ⟨w.heap.size, xs.length + 1, none⟩ (.int .i64 78)).heap[w.heap.size]? = some (lentObj xs)) := by
    show _ = _
    rw [text_set (text_set hWg _)]
    unfold lentObj
    congr 2
    apply Array.ext'
    have e1 : (ints xs ++ [a, b]).set xs.length (.int .i64 77) = ints xs ++ [.int .i64 77, b] := by
      rw [List.set_append, if_neg (by rw [ints_len]; omega), ints_len, Nat.sub_self]; rfl
    have e2 : (ints xs ++ [Value.int .i64 77, b]).set (xs.length + 1) (.int .i64 78) = ints xs ++ [.int .i64 77, .int .i64 78] := by
      rw [List.set_append, if_neg (by rw [ints_len]; omega), ints_len, show xs.length + 1 - xs.length = 1 from by omega]; rfl
    simp only [Array.toList_setIfInBounds]
    rw [e1, e2]
  have hb1 : (xs.length : Int) + 1 < (xs.length : Int) + 2 := by omega
  have htn : ((xs.length : Int) + 1).toNat = xs.length + 1 := by omega
  clear hrun hWg hlen hxs
  go_wp2_with (simp only [hr])
  go_ret
  exact ⟨rfl, HW.out, gb_on (gb_on gW (Nat.le_refl _)) (Nat.le_refl _)⟩

theorem lent_ints {w : World} {h : Nat} {xs : List Int} (hh : w.heap[h]? = some (lentObj xs)) : IntsAt w h 0 xs := by
  intro k hk
  unfold World.cell?
  simp only [hh, lentObj]
  rw [List.getElem?_toArray, Nat.zero_add, List.getElem?_append_left (by rw [ints_len]; exact hk)]
  simp [ints, hk]

set_option maxRecDepth 100000 in
set_option maxHeartbeats 400000 in
theorem part_any (v : Value) (xs : List Int) (h : Nat) (w : World) (hv : IntSl w v xs) (hh : w.heap[h]? = some (lentObj xs)) :
    Calls Tryz.prog 46 #[.slice (some ⟨h, 0, none⟩) (xs.length + 2) (xs.length + 2), v] w fun e w' => ∃ u, e = .returned u ∧ IntSl w u xs ∧ w' = w := by
  have HI : Hid (IntsAt w h 0 xs) := lent_ints hh
  obtain ⟨sa, ca, rfl, hca, hxs⟩ := hv
  have hq := fun (w : World) (a : Option Addr) (n c n' c' : Nat) => Lib.run_eql_slice_nil (P := Tryz.prog) w 26 3 a n c n' c' Tryz.underlying26
  clear hh
  cases sa with
  | none =>
    have HX : Hid (xs = []) := by
      rcases hxs with h | ⟨b1, o1, h, _⟩
      · exact h
      · cases h
    clear hxs
    go_enter Tryz.func46, Tryz.ntmps46
    go_wp2
    go_ret
    exact ⟨_, rfl, by rw [HX.out]; exact ⟨none, 0, rfl, Nat.le_refl _, Or.inl rfl⟩, rfl⟩
  | some ad =>
    have hb1 : (xs.length : Int) ≤ (xs.length : Int) + 2 := by omega
    clear hxs
    go_enter Tryz.func46, Tryz.ntmps46
    go_wp2
    go_ret
    exact ⟨_, rfl, ⟨_, _, rfl, by omega, Or.inr ⟨h, 0, rfl, HI.out⟩⟩, rfl⟩

end Go.Proofs.YtcfdemhokbddiaaGreatDoor

/-
  still: the numbers that were lent stand as they did; then the caller writes over them.
-/
namespace Go.Proofs.YtcfdemhokbddiaaGreatDoor
open Go.RowKit

/-- The numbers of a list that lies in another block than h. -/
def IntFar (w : World) (h : Nat) (v : Value) (xs : List Int) : Prop := ∃ sa cap, v = .slice sa xs.length cap ∧ (xs = [] ∨ ∃ b off, sa = some ⟨b, off, none⟩ ∧ b ≠ h ∧ IntsAt w b off xs)

set_option maxRecDepth 100000 in
set_option maxRecDepth 100000 in
set_option maxHeartbeats 1000000 in
theorem still_any (v : Value) (xs : List Int) (h : Nat) (w : World) (hv : IntFar w h v xs) (hh : w.heap[h]? = some (lentObj xs)) (hb : xs.length ≤ 17592186044416) :
    Calls Tryz.prog 48 #[.slice (some ⟨h, 0, none⟩) (xs.length + 2) (xs.length + 2), v] w fun e w' => e = .returned (.bool true) ∧ w.grownBy w' (some h) := by
  have HI : Hid (IntsAt w h 0 xs) := lent_ints hh
  obtain ⟨sa, ca, rfl, hxs⟩ := hv
  have c0 : w.cell? ⟨h, xs.length, none⟩ = some (.int .i64 77) := by
    unfold World.cell?; simp only [hh, lentObj]
    rw [List.getElem?_toArray, List.getElem?_append_right (by rw [ints_len]; omega)]; simp [ints]
  have c1 : w.cell? ⟨h, xs.length + 1, none⟩ = some (.int .i64 78) := by
    unfold World.cell?; simp only [hh, lentObj]
    rw [List.getElem?_toArray, List.getElem?_append_right (by rw [ints_len]; omega)]; simp [ints]
  have hb1 : (xs.length : Int) + 1 < (xs.length : Int) + 2 := by omega
  have htn : ((xs.length : Int) + 1).toNat = xs.length + 1 := by omega
  have HH : Hid (w.heap[h]? = some (lentObj xs)) := hh
  clear hh
  go_enter Tryz.func48, Tryz.ntmps48
  go_wp2_with fail
  clear htn c0 c1
  go_loopw [5, 6] (fun ok i wr => ∃ k : Nat, i = .int .i64 (k : Int) ∧ k ≤ xs.length ∧ ok = .bool true ∧ ∃ q, wr = w.drewN q) (fun _ i _ => xs.length - (intOf i).toNat)
  case atStart => exact ⟨0, rfl, Nat.zero_le _, rfl, 0, rfl⟩
  case round =>
    obtain ⟨k, rfl, hk, rfl, q, rfl⟩ := hrel
    by_cases hlt : k < xs.length
    · rcases hxs with e | ⟨b1, o1, rfl, hne, hI⟩
      · rw [e] at hlt; simp at hlt
      have d1 := HI.out k hlt
      rw [Nat.zero_add] at d1
      have d2 := hI k hlt
      obtain ⟨x, hx⟩ : ∃ x, xs[k] = x := ⟨_, rfl⟩
      rw [hx] at d1 d2
      have hki : (k : Int) < (xs.length : Int) := by omega
      have hki2 : (k : Int) < (xs.length : Int) + 2 := by omega
      have hxx : (x == x) = true := by simp
      clear hx hI
      go_wp2_with fail
      go_quiet (fail)
      go_wp2
      go_roundw
      case rel => exact ⟨k + 1, by go_num, by omega, by simp, by first | exact ⟨_, rfl⟩ | exact drew2 _ _ _⟩
      case measure => simp [intOf]; omega
    · have hki : ¬ (k : Int) < (xs.length : Int) := by omega
      go_wp2_with fail
      go_loopw [7] (fun i wr => ∃ (j : Nat) (cs : Array Value), i = .int .i64 (j : Int) ∧ j ≤ xs.length + 2 ∧ wr.heap[h]? = some (.cells cs 3) ∧ cs.size = xs.length + 2 ∧ w.grownBy wr (some h)) (fun i _ => xs.length + 2 - (intOf i).toNat)
      case atStart => exact ⟨0, _, rfl, Nat.zero_le _, HH.out, by simp [ints], gb_drewN _ _ _⟩
      case round =>
        obtain ⟨j, cs, rfl, hj, hcs, hsz, hg⟩ := hrel
        by_cases hlt2 : j < xs.length + 2
        · have e0 : wr.cell? ⟨h, j, none⟩ = some (cs[j]'(by omega)) := by
            unfold World.cell?; simp only [hcs]; simp [show j < cs.size by omega]
          have f0 : wr.frozen? ⟨h, j, none⟩ = false := by unfold World.frozen?; simp only [hcs]; simp
          have hji : (j : Int) < (xs.length : Int) + 2 := by omega
          have HS : Hid ((wr.setCell ⟨h, j, none⟩ (.int .i64 5)).heap[h]? = some (.cells (cs.setIfInBounds j (.int .i64 5)) 3)) := text_set hcs _
          have HZ : Hid ((cs.setIfInBounds j (.int .i64 5)).size = xs.length + 2) := by
            show _ = _
            simpa using hsz
          clear hcs
          go_wp2
          go_roundw
          case rel => exact ⟨j + 1, _, by go_num, by omega, HS.out, HZ.out, gb_s hg⟩
          case measure => simp [intOf]; omega
        · have hji : ¬ (j : Int) < (xs.length : Int) + 2 := by omega
          clear hcs
          go_wp2
          go_ret
          exact ⟨rfl, hg⟩

end Go.Proofs.YtcfdemhokbddiaaGreatDoor

/-
  The law's world: its boards, each with the document's own; a board more; no lists have come out.
-/
namespace Go.Proofs.YtcfdemhokbddiaaGreatDoor
open Go.RowKit

/-- A list of texts that lies wherever it lies. -/
def StrSl (w : World) (v : Value) (ls : List (List UInt8)) : Prop := ∃ sa cap, v = .slice sa ls.length cap ∧ ls.length ≤ cap ∧ (sa = none → cap = 0) ∧ (ls = [] ∨ ∃ b off, sa = some ⟨b, off, none⟩ ∧ b < w.heap.size ∧ ∀ k (h : k < ls.length), w.cell? ⟨b, off + k, none⟩ = some (.string (B ls[k])))
theorem StrSl.lt {w : World} {v : Value} {ls : List (List UInt8)} (h : StrSl w v ls) : ∀ b ∈ slBlk v, b < w.heap.size := by
  obtain ⟨sa, cap, rfl, _, _, hp⟩ := h
  intro b hb
  rcases hp with rfl | ⟨g, off, rfl, hg, _⟩
  · cases sa <;> simp [slBlk] at hb
  · simp only [slBlk] at hb
    split at hb
    · simp at hb
    · simp at hb; rw [hb]; exact hg
theorem StrSl.frame {w w' : World} {v : Value} {ls : List (List UInt8)} (h : StrSl w v ls) (hs : w.heap.size ≤ w'.heap.size) (hk : ∀ b ∈ slBlk v, w'.heap[b]? = w.heap[b]?) : StrSl w' v ls := by
  obtain ⟨sa, cap, rfl, hc, hz, hp⟩ := h
  refine ⟨sa, cap, rfl, hc, hz, ?_⟩
  rcases hp with rfl | ⟨g, off, rfl, hg, hcell⟩
  · exact Or.inl rfl
  · refine Or.inr ⟨g, off, rfl, by omega, fun k hk' => ?_⟩
    have hb : w'.heap[g]? = w.heap[g]? := hk g (by simp only [slBlk]; rw [if_neg (by omega)]; simp)
    rw [World.cell?_of_block (a := ⟨g, off + k, none⟩) hb]
    exact hcell k hk'

/-- One of the document's readings: its lines' row, when it was asked last, whether there is one. -/
structure RD where
  lv : Value
  last : Int
  there : Bool
def rdCells (d : RD) : List Value := [d.lv, .int .i64 d.last, .bool d.there]
/-- It is as the program's. -/
structure RdIs (w : World) (time : Nat) (x : Option (List (List UInt8) × Nat)) (d : RD) : Prop where
  there : d.there = x.isSome
  row : ∃ L, StrSl w d.lv L ∧ ∀ L' k, x = some (L', k) → L' = L ∧ (time : Int) - d.last = k
  last : 0 ≤ d.last ∧ d.last ≤ time
/-- The document's readings and its time, as they stand in its board. -/
structure RdsIs (m : Nat) (w : World) (R : RdV) (rest : List Value) : Prop where
  ex : ∃ d0 d1 d2 time, rest = rdCells d0 ++ (rdCells d1 ++ (rdCells d2 ++ [.int .i64 ((time : Nat) : Int)])) ∧ time ≤ m ∧ ∃ x0 x1 x2, R = [x0, x1, x2] ∧ RdIs w time x0 d0 ∧ RdIs w time x1 d1 ∧ RdIs w time x2 d2
def rdBlks (rest : List Value) : List Nat := rest.flatMap slBlk
theorem rdBlks_eq (d0 d1 d2 : RD) (t : Int) : rdBlks (rdCells d0 ++ (rdCells d1 ++ (rdCells d2 ++ [.int .i64 t]))) = slBlk d0.lv ++ (slBlk d1.lv ++ slBlk d2.lv) := by
  simp [rdBlks, rdCells, slBlk]
theorem RdIs.frame {w w' : World} {time : Nat} {x : Option (List (List UInt8) × Nat)} {d : RD} (h : RdIs w time x d) (hs : w.heap.size ≤ w'.heap.size) (hk : ∀ b ∈ slBlk d.lv, w'.heap[b]? = w.heap[b]?) : RdIs w' time x d := by
  obtain ⟨L, h1, h2⟩ := h.row
  exact ⟨h.there, ⟨L, h1.frame hs hk, h2⟩, h.last⟩
theorem RdIs.lt {w : World} {time : Nat} {x : Option (List (List UInt8) × Nat)} {d : RD} (h : RdIs w time x d) : ∀ b ∈ slBlk d.lv, b < w.heap.size := by
  obtain ⟨L, h1, _⟩ := h.row
  exact h1.lt
theorem RdsIs.frame {m : Nat} {w w' : World} {R : RdV} {rest : List Value} (h : RdsIs m w R rest) (hs : w.heap.size ≤ w'.heap.size) (hk : ∀ b ∈ rdBlks rest, w'.heap[b]? = w.heap[b]?) : RdsIs m w' R rest := by
  obtain ⟨d0, d1, d2, time, e, ht, x0, x1, x2, eR, h0, h1, h2⟩ := h.ex
  rw [e, rdBlks_eq] at hk
  exact ⟨d0, d1, d2, time, e, ht, x0, x1, x2, eR, h0.frame hs fun b hb => hk b (by simp [hb]), h1.frame hs fun b hb => hk b (by simp [hb]), h2.frame hs fun b hb => hk b (by simp [hb])⟩
theorem RdsIs.lt {m : Nat} {w : World} {R : RdV} {rest : List Value} (h : RdsIs m w R rest) : ∀ b ∈ rdBlks rest, b < w.heap.size := by
  obtain ⟨d0, d1, d2, time, e, ht, x0, x1, x2, eR, h0, h1, h2⟩ := h.ex
  intro b hb
  rw [e, rdBlks_eq] at hb
  simp only [List.mem_append] at hb
  rcases hb with hb | hb | hb
  · exact h0.lt b hb
  · exact h1.lt b hb
  · exact h2.lt b hb
theorem RdsIs.mono {m k : Nat} {w : World} {R : RdV} {rest : List Value} (h : RdsIs m w R rest) (hk : m ≤ k) : RdsIs k w R rest := by
  obtain ⟨d0, d1, d2, time, e, ht, hx⟩ := h.ex
  exact ⟨d0, d1, d2, time, e, Nat.le_trans ht hk, hx⟩

def pairCells (q : GT × RB) : List Value := [.pointer (some ⟨q.1.b, 0, none⟩), .pointer (some ⟨q.2.b, 0, none⟩)]
def pairOwn (q : GT × RB) : List Nat := q.1.own ++ (q.2.own ++ rdBlks q.2.rest)
def pwOwn (wb : Nat) (lv : Value) (ps : List (GT × RB)) : List Nat := wb :: (lv.ownBlock.toList ++ ps.flatMap pairOwn)
structure PairAt (m : Nat) (w : World) (q : GT × RB) : Prop where
  px : GT.At w q.1
  ox : GT.Ok m q.1
  rx : RdOk q.1
  py : RB.At w q.2
  oy : RB.Ok m q.2
  rel : Rel q.1.view q.2.view
  rds : RdsIs m w q.1.rview q.2.rest
  nodup : (pairOwn q).Nodup
/-- The law's world: its boards; sk: the lists that came out, their marks. -/
structure PW (base m : Nat) (w : World) (wb : Nat) (sk : Value × Value) (lv : Value) (ps : List (GT × RB)) : Prop where
  blk : w.heap[wb]? = some (.cells #[lv, sk.1, sk.2] 62)
  row : w.ownsRow 0 88 2 lv ps.length (ps.flatMap pairCells)
  each : ∀ q ∈ ps, PairAt m w q
  nodup : (pwOwn wb lv ps).Nodup
  above : ∀ b ∈ pwOwn wb lv ps, base ≤ b
  len : ps.length ≤ m
  low : base ≤ w.heap.size
  tab : Tab w
  pos : 0 < base
/-- What a step leaves as it was. -/
structure Kpt (wb : Nat) (lv : Value) (ps : List (GT × RB)) (w : World) (lv' : Value) (ps' : List (GT × RB)) (w' : World) : Prop where
  kept : Kept (pwOwn wb lv ps) w w'
  sub : ∀ b ∈ pwOwn wb lv' ps', b ∈ pwOwn wb lv ps ∨ w.heap.size ≤ b
theorem Kpt.from {wb : Nat} {lv lv' : Value} {ps ps' : List (GT × RB)} {w w1 w' : World} (hg : w.grownBy w1 none) (h : Kpt wb lv ps w1 lv' ps' w') : Kpt wb lv ps w lv' ps' w' :=
  ⟨(Kept.of_none hg _).trans h.kept, fun b hb => by
    rcases h.sub b hb with h1 | h1
    · exact Or.inl h1
    · exact Or.inr (Nat.le_trans hg.size h1)⟩
theorem Kpt.to {wb : Nat} {lv lv' : Value} {ps ps' : List (GT × RB)} {w w1 w' : World} (h : Kpt wb lv ps w lv' ps' w1) (hg : w1.grownBy w' none) : Kpt wb lv ps w lv' ps' w' :=
  ⟨h.kept.trans (Kept.of_none hg _), h.sub⟩
theorem Kpt.same {wb : Nat} {lv : Value} {ps : List (GT × RB)} {w w' : World} (hg : w.grownBy w' none) : Kpt wb lv ps w lv ps w' := ⟨Kept.of_none hg _, fun _ hb => Or.inl hb⟩
theorem Kpt.trans {wb : Nat} {lv lv1 lv2 : Value} {ps ps1 ps2 : List (GT × RB)} {w w1 w2 : World} (h : Kpt wb lv ps w lv1 ps1 w1) (k : Kpt wb lv1 ps1 w1 lv2 ps2 w2) : Kpt wb lv ps w lv2 ps2 w2 :=
  ⟨h.kept.then k.kept h.sub, fun b hb => by
    rcases k.sub b hb with h1 | h1
    · exact h.sub b h1
    · exact Or.inr (Nat.le_trans h.kept.size h1)⟩

theorem PairAt.lt {m : Nat} {w : World} {q : GT × RB} (h : PairAt m w q) : ∀ b ∈ pairOwn q, b < w.heap.size := by
  intro b hb
  simp only [pairOwn, List.mem_append] at hb
  rcases hb with hb | hb | hb
  · exact h.px.lt b hb
  · exact h.py.lt b hb
  · exact h.rds.lt b hb
theorem PairAt.frame {m : Nat} {w w' : World} {q : GT × RB} (h : PairAt m w q) (hs : w.heap.size ≤ w'.heap.size) (hk : ∀ b ∈ pairOwn q, w'.heap[b]? = w.heap[b]?) : PairAt m w' q :=
  ⟨h.px.frame hs fun b hb => hk b (by simp [pairOwn, hb]), h.ox, h.rx, h.py.frame fun b hb => hk b (by simp [pairOwn, hb]), h.oy, h.rel, h.rds.frame hs fun b hb => hk b (by simp [pairOwn, hb]), h.nodup⟩
theorem RB.Ok.mono {m k : Nat} {r : RB} (h : RB.Ok m r) (hk : m ≤ k) : RB.Ok k r := ⟨h.flen, h.slen, fun x hx => Nat.le_trans (h.each x hx) hk, h.flim⟩
theorem PairAt.mono {m k : Nat} {w : World} {q : GT × RB} (h : PairAt m w q) (hk : m ≤ k) : PairAt k w q := ⟨h.px, h.ox.mono hk, h.rx, h.py, h.oy.mono hk, h.rel, h.rds.mono hk, h.nodup⟩
section
variable {base m : Nat} {w : World} {wb : Nat} {sk : Value × Value} {lv : Value} {ps : List (GT × RB)}
theorem PW.lt (h : PW base m w wb sk lv ps) : ∀ b ∈ pwOwn wb lv ps, b < w.heap.size := by
  intro b hb
  simp only [pwOwn, List.mem_cons, List.mem_append, List.mem_flatMap] at hb
  rcases hb with rfl | hb | ⟨q, hq, hb⟩
  · exact lt_of h.blk
  · exact own_lt h.row b hb
  · exact (h.each q hq).lt b hb
theorem PW.ne0 (h : PW base m w wb sk lv ps) : ∀ b ∈ pwOwn wb lv ps, b ≠ 0 := fun b hb e => by have := h.above b hb; have := h.pos; omega
theorem PW.frame {w' : World} (h : PW base m w wb sk lv ps) (hs : w.heap.size ≤ w'.heap.size) (h0 : w'.heap[0]? = w.heap[0]?) (hk : ∀ b ∈ pwOwn wb lv ps, w'.heap[b]? = w.heap[b]?) : PW base m w' wb sk lv ps := by
  refine ⟨(hk _ (by simp [pwOwn])).trans h.blk, own_frame h.row fun b hb => hk b ?_, fun q hq => (h.each q hq).frame hs fun b hb => hk b ?_, h.nodup, h.above, h.len, Nat.le_trans h.low hs, h.tab.same h0, h.pos⟩
  · simp only [pwOwn, List.mem_cons, List.mem_append]; exact Or.inr (Or.inl hb)
  · simp only [pwOwn, List.mem_cons, List.mem_append, List.mem_flatMap]; exact Or.inr (Or.inr ⟨q, hq, hb⟩)
theorem PW.gb {w' : World} (h : PW base m w wb sk lv ps) (hg : w.grownBy w' none) : PW base m w' wb sk lv ps :=
  h.frame hg.size (hg.block 0 h.tab.lt (by simp)) fun b hb => hg.block b (h.lt b hb) (by simp)
theorem PW.mono {k : Nat} (h : PW base m w wb sk lv ps) (hk : m ≤ k) : PW base k w wb sk lv ps :=
  ⟨h.blk, h.row, fun q hq => (h.each q hq).mono hk, h.nodup, h.above, Nat.le_trans h.len hk, h.low, h.tab, h.pos⟩
theorem below_kept {L : List Nat} {w' : World} (h : Kept L w w') (hb : ∀ b ∈ L, base ≤ b) (hl : base ≤ w.heap.size) : Below base w w' :=
  ⟨h.os, h.tape, h.output, h.size, fun k hk => h.block k (by omega) (fun hm => by have := hb k hm; omega)⟩
theorem Kpt.below {lv' : Value} {ps' : List (GT × RB)} {w' : World} (k : Kpt wb lv ps w lv' ps' w') (h : PW base m w wb sk lv ps) : Below base w w' := below_kept k.kept h.above h.low
end

theorem pair_out {m : Nat} {t t' : GT} {r r' : RB} {w w1 w2 : World} (hnd : (pairOwn (t, r)).Nodup) (hr : RB.At w r) (hrd : RdsIs m w t.rview r.rest) (h1 : Out m t t' w w1) (hro : RdOk t') (hrv : t'.rview = t.rview) (h2 : ROut m r r' w1 w2) (hrel : Rel t'.view r'.view) :
    PairAt m w2 (t', r') ∧ Kept (pairOwn (t, r)) w w2 ∧ (∀ b ∈ pairOwn (t', r'), b ∈ pairOwn (t, r) ∨ w.heap.size ≤ b) := by
  simp only [pairOwn, List.nodup_append] at hnd
  obtain ⟨_, ⟨_, n3, n4⟩, n5⟩ := hnd
  have hd1 : ∀ b ∈ t'.own, b ∉ r.own := fun b hb hm => by
    rcases h1.sub b hb with h | h
    · exact n5 b h b (by simp [hm]) rfl
    · have := hr.lt b hm; omega
  have hd2 : ∀ b ∈ t'.own, b ∉ rdBlks r.rest := fun b hb hm => by
    rcases h1.sub b hb with h | h
    · exact n5 b h b (by simp [hm]) rfl
    · have := hrd.lt b hm; omega
  have hd3 : ∀ b ∈ r'.own, b ∉ rdBlks r.rest := fun b hb hm => by
    rcases h2.sub b hb with h | h
    · exact n4 b h b hm rfl
    · have := hrd.lt b hm; have := h1.kept.size; omega
  have hkr : ∀ b ∈ rdBlks r.rest, w2.heap[b]? = w.heap[b]? := fun b hb => by
    have hl := hrd.lt b hb
    exact (h2.kept.block b (by have := h1.kept.size; omega) (fun hm => n4 b hm b hb rfl)).trans (h1.kept.block b hl (fun hm => n5 b hm b (by simp [hb]) rfl))
  refine ⟨⟨h1.at_.kept h2.kept hd1, h1.ok, hro, h2.at_, h2.ok, hrel, ?_, ?_⟩, ?_, ?_⟩
  · show RdsIs m w2 t'.rview r'.rest
    rw [hrv, h2.rest]
    exact hrd.frame (Nat.le_trans h1.kept.size h2.kept.size) hkr
  · show (t'.own ++ (r'.own ++ rdBlks r'.rest)).Nodup
    rw [h2.rest, List.nodup_append, List.nodup_append]
    refine ⟨h1.at_.nodup, ⟨h2.at_.nodup, n3, fun a ha b hb e => hd3 a ha (by rw [e]; exact hb)⟩, fun a ha b hb e => ?_⟩
    subst e
    simp only [List.mem_append] at hb
    rcases hb with hb | hb
    · rcases h2.sub a hb with h | h
      · exact hd1 a ha h
      · have := h1.at_.lt a ha; omega
    · exact hd2 a ha hb
  · exact (h1.kept.mono fun b hb => Or.inl (by simp [pairOwn, hb])).then (h2.kept.mono (M := pairOwn (t, r)) fun b hb => Or.inl (by simp [pairOwn, hb])) (fun b hb => Or.inl hb)
  · intro b hb
    simp only [pairOwn, List.mem_append, h2.rest] at hb ⊢
    rcases hb with hb | hb | hb
    · rcases h1.sub b hb with h | h
      · exact Or.inl (Or.inl h)
      · exact Or.inr h
    · rcases h2.sub b hb with h | h
      · exact Or.inl (Or.inr (Or.inl h))
      · exact Or.inr (Nat.le_trans h1.kept.size h)
    · exact Or.inl (Or.inr (Or.inr hb))

theorem PW.upd {base m m' : Nat} {w w' : World} {wb : Nat} {sk : Value × Value} {lv : Value} {ps A B' : List (GT × RB)} {q q' : GT × RB} (h : PW base m w wb sk lv ps) (hm : m ≤ m') (e : ps = A ++ q :: B') (hb1 : q'.1.b = q.1.b) (hb2 : q'.2.b = q.2.b)
    (hat : PairAt m' w' q') (hk : Kept (pairOwn q) w w') (hsub : ∀ b ∈ pairOwn q', b ∈ pairOwn q ∨ w.heap.size ≤ b) : PW base m' w' wb sk lv (A ++ q' :: B') ∧ Kpt wb lv ps w lv (A ++ q' :: B') w' := by
  have eo : pwOwn wb lv ps = (wb :: (lv.ownBlock.toList ++ A.flatMap pairOwn)) ++ (pairOwn q ++ B'.flatMap pairOwn) := by simp [pwOwn, e]
  have eo' : pwOwn wb lv (A ++ q' :: B') = (wb :: (lv.ownBlock.toList ++ A.flatMap pairOwn)) ++ (pairOwn q' ++ B'.flatMap pairOwn) := by simp [pwOwn]
  have hnd0 := h.nodup
  rw [eo] at hnd0
  have hlt : ∀ b ∈ (wb :: (lv.ownBlock.toList ++ A.flatMap pairOwn)) ++ B'.flatMap pairOwn, b < w.heap.size := by
    intro b hb
    refine h.lt b ?_
    rw [eo]
    simp only [List.mem_append] at hb ⊢
    rcases hb with hb | hb
    · exact Or.inl hb
    · exact Or.inr (Or.inr hb)
  have hdis : ∀ b ∈ (wb :: (lv.ownBlock.toList ++ A.flatMap pairOwn)) ++ B'.flatMap pairOwn, b ∉ pairOwn q := by
    intro b hb hg
    simp only [List.nodup_append, List.mem_append] at hnd0 hb
    rcases hb with hb | hb
    · exact hnd0.2.2 b (by simpa using hb) b (Or.inl hg) rfl
    · exact hnd0.2.1.2.2 b hg b hb rfl
  have hsame : ∀ b ∈ (wb :: (lv.ownBlock.toList ++ A.flatMap pairOwn)) ++ B'.flatMap pairOwn, w'.heap[b]? = w.heap[b]? := fun b hb => hk.block b (hlt b hb) (hdis b hb)
  have hqb : ∀ b ∈ pairOwn q, base ≤ b := fun b hb => h.above b (by rw [eo]; simp only [List.mem_append]; exact Or.inr (Or.inl hb))
  have h0 : w'.heap[0]? = w.heap[0]? := hk.block 0 h.tab.lt fun hm => by have := hqb 0 hm; have := h.pos; omega
  refine ⟨⟨?_, ?_, ?_, ?_, ?_, ?_, ?_, h.tab.same h0, h.pos⟩, hk.mono fun b hb => Or.inl (by rw [eo]; simp only [List.mem_append]; exact Or.inr (Or.inl hb)), fun b hb => ?_⟩
  · exact (hsame wb (by simp)).trans h.blk
  · have hr := own_frame h.row (w' := w') (fun b hb => hsame b (by simp only [List.mem_append, List.mem_cons]; exact Or.inl (Or.inr (Or.inl hb))))
    rw [e] at hr
    have e2 : pairCells q' = pairCells q := by simp [pairCells, hb1, hb2]
    simpa [e2] using hr
  · intro k hk2
    simp only [List.mem_append, List.mem_cons] at hk2
    rcases hk2 with hk2 | rfl | hk2
    · exact ((h.each k (by rw [e]; simp [hk2])).mono hm).frame hk.size fun b hb => hsame b (by simp only [List.mem_append, List.mem_cons, List.mem_flatMap]; exact Or.inl (Or.inr (Or.inr ⟨k, hk2, hb⟩)))
    · exact hat
    · exact ((h.each k (by rw [e]; simp [hk2])).mono hm).frame hk.size fun b hb => hsame b (by simp only [List.mem_append, List.mem_flatMap]; exact Or.inr ⟨k, hk2, hb⟩)
  · rw [eo']; exact nodup_swap hnd0 hat.nodup hsub hlt
  · intro b hb
    rw [eo'] at hb
    simp only [List.mem_append] at hb
    rcases hb with hb | hb | hb
    · exact h.above b (by rw [eo]; simp only [List.mem_append]; exact Or.inl hb)
    · rcases hsub b hb with h1 | h1
      · exact hqb b h1
      · have := h.low; omega
    · exact h.above b (by rw [eo]; simp only [List.mem_append]; exact Or.inr (Or.inr hb))
  · have := h.len
    rw [e] at this
    simp only [List.length_append, List.length_cons] at this ⊢
    omega
  · exact Nat.le_trans h.low hk.size
  · rw [eo'] at hb
    rw [eo]
    simp only [List.mem_append] at hb ⊢
    rcases hb with hb | hb | hb
    · exact Or.inl (Or.inl hb)
    · rcases hsub b hb with h1 | h1
      · exact Or.inl (Or.inr (Or.inl h1))
      · exact Or.inr h1
    · exact Or.inl (Or.inr (Or.inr hb))

theorem names_nodup {m : Nat} {t : GT} (h : GT.Ok m t) : (t.view.map Fam.nm).Nodup := by
  have e : t.view.map Fam.nm = t.fams.map GF.nm := by simp [GT.view, GF.view]
  rw [e]
  have hs := h.srt
  unfold KSrt at hs
  refine List.Pairwise.imp ?_ hs
  intro a b hab e
  rw [e, lt_irrefl] at hab
  cases hab

theorem own_shape2 {w : World} {base : Nat} {e : TypeId} {v : Value} {n : Nat} {xs : List Value} (h : w.ownsRow base e 2 v n xs) :
    ∃ sa sc, v = .slice sa n sc ∧ n ≤ sc ∧ ((sa = none ∧ n = 0 ∧ sc = 0) ∨ ∃ g, sa = some ⟨g, 0, none⟩ ∧ g < w.heap.size) := by
  rcases h.2 with ⟨rfl, rfl⟩ | ⟨g, cap, cur, rfl, _, hg, hn, _⟩
  · exact ⟨none, 0, rfl, Nat.le_refl _, Or.inl ⟨rfl, rfl, rfl⟩⟩
  · exact ⟨_, _, rfl, hn, Or.inr ⟨g, rfl, lt_of hg⟩⟩

set_option maxRecDepth 100000 in
set_option maxHeartbeats 400000 in
theorem looks_any (base m wb : Nat) (lv : Value) (ps : List (GT × RB)) (w : World) (h : PW base m w wb (.slice none 0 0, .slice none 0 0) lv ps) :
    Calls Tryz.prog 31 #[.pointer (some ⟨wb, 0, none⟩)] w fun e w' => e = .returned (.bool true) ∧ w' = w := by
  have c1 : w.cell? ⟨wb, 1, none⟩ = some (.slice none 0 0) := by unfold World.cell?; simp only [h.blk]; rfl
  clear h
  go_enter Tryz.func31, Tryz.ntmps31
  go_wp2_with fail
  refine wp_loop_rounds 1 ?_
  rw [rounds_succ]
  go_wp2
  go_ret
  exact ⟨rfl, rfl⟩

end Go.Proofs.YtcfdemhokbddiaaGreatDoor

/-
  A board more.
-/
namespace Go.Proofs.YtcfdemhokbddiaaGreatDoor
open Go.RowKit

def zeroRest : List Value := [.slice none 0 0, .int .i64 0, .bool false, .slice none 0 0, .int .i64 0, .bool false, .slice none 0 0, .int .i64 0, .bool false, .int .i64 0]
def refZero : Obj := .cells #[.slice none 0 0, .slice none 0 0, .slice none 0 0, .int .i64 0, .bool false, .slice none 0 0, .int .i64 0, .bool false, .slice none 0 0, .int .i64 0, .bool false, .int .i64 0] 149
def newR (y : Nat) : RB := ⟨y, .slice none 0 0, [], .slice none 0 0, [], zeroRest⟩
theorem newR_own (y : Nat) : (newR y).own ++ rdBlks (newR y).rest = [y] := by
  simp [newR, RB.own, Value.ownBlock, rdBlks, zeroRest, slBlk]

theorem newPair_at {w : World} {t : GT} {y m : Nat} (ht : GT.At w t) (ho : GT.Ok 0 t) (hr : RdOk t) (hv : t.view = []) (hrv : t.rview = [none, none, none]) (hy : w.heap[y]? = some refZero) (hne : y ∉ t.own) : PairAt m w (t, newR y) := by
  have z : RdIs w 0 none ⟨.slice none 0 0, 0, false⟩ := ⟨rfl, ⟨[], ⟨none, 0, rfl, Nat.le_refl _, fun _ => rfl, Or.inl rfl⟩, fun _ _ h => by cases h⟩, by simp⟩
  refine ⟨ht, ho.mono (Nat.zero_le _), hr, ⟨hy, World.ownsRow_nil _ _ _ _, World.ownsRow_nil _ _ _ _, by simp [newR], by simp [newR], by simp [newR, RB.own, Value.ownBlock]⟩, ⟨by simp [newR], by simp [newR], by simp [newR], by simp [newR]⟩, ?_, ?_, ?_⟩
  · show Rel t.view (newR y).view
    rw [hv]; exact Rel.start
  · show RdsIs m w t.rview (newR y).rest
    rw [hrv]
    exact ⟨⟨.slice none 0 0, 0, false⟩, ⟨.slice none 0 0, 0, false⟩, ⟨.slice none 0 0, 0, false⟩, 0, rfl, Nat.zero_le _, none, none, none, rfl, z, z, z⟩
  · show (t.own ++ ((newR y).own ++ rdBlks (newR y).rest)).Nodup
    rw [newR_own, List.nodup_append]
    exact ⟨ht.nodup, by simp, fun a ha b hb e => hne (by simp at hb; rw [← hb, ← e]; exact ha)⟩

theorem pw_more {base m : Nat} {w w1 w3 : World} {wb : Nat} {sk : Value × Value} {lv lv' : Value} {ps : List (GT × RB)} (h : PW base m w wb sk lv ps) (q0 : GT × RB) (hq0 : PairAt (m + 1) w1 q0) (hnew : ∀ b ∈ pairOwn q0, w.heap.size ≤ b) (g1 : w.grownBy w1 none)
    (g3 : w1.grownBy w3 lv.ownBlock) (hrow : w3.ownsRow 0 88 2 lv' (ps.length + 1) (ps.flatMap pairCells ++ pairCells q0)) (hft : lv'.ownBlock = lv.ownBlock ∨ lv'.ownBlock = some w1.heap.size) :
    PW base (m + 1) (w3.setCell ⟨wb, 0, none⟩ lv') wb sk lv' (ps ++ [q0]) ∧ Kpt wb lv ps w lv' (ps ++ [q0]) (w3.setCell ⟨wb, 0, none⟩ lv') := by
  have hnd := h.nodup
  unfold pwOwn at hnd
  simp only [List.nodup_cons, List.nodup_append, List.mem_append] at hnd
  obtain ⟨n1, n2, n3, n4⟩ := hnd
  have hlt := h.lt
  have hwb := lt_of h.blk
  have hlow := h.low
  have hql := hq0.lt
  have hsz1 := g1.size
  have hsz3 := g3.size
  have hnot : ∀ b, b < w1.heap.size → b ∉ lv.ownBlock.toList → w3.heap[b]? = w1.heap[b]? := fun b hb hn => g3.block b hb (fun e => hn (by rw [← e]; simp))
  have hlvlt : ∀ b ∈ lv.ownBlock.toList, b < w.heap.size := own_lt h.row
  have hsame : ∀ b, b < w.heap.size → b ≠ wb → b ∉ lv.ownBlock.toList → (w3.setCell ⟨wb, 0, none⟩ lv').heap[b]? = w.heap[b]? := fun b hb hne hn => by
    rw [Below.heap_setCell _ _ _ _ (by show b ≠ wb; exact hne), hnot b (by omega) hn]; exact g1.block b hb (by simp)
  have hlv'ne : ∀ b ∈ lv'.ownBlock.toList, b ≠ wb := fun b hb e => by
    rcases hft with e2 | e2
    · rw [e2] at hb; exact n1 (Or.inl (by rw [← e]; exact hb))
    · rw [e2] at hb
      have : b = w1.heap.size := by simpa using hb
      omega
  have hnewb : ∀ b, w.heap.size ≤ b → b < w1.heap.size → (w3.setCell ⟨wb, 0, none⟩ lv').heap[b]? = w1.heap[b]? := fun b hb hb1 => by
    rw [Below.heap_setCell _ _ _ _ (by show b ≠ wb; omega)]
    exact hnot b hb1 (fun hm => by have := hlvlt b hm; omega)
  have hb0 : (w3.setCell ⟨wb, 0, none⟩ lv').heap[wb]? = some (.cells #[lv', sk.1, sk.2] 62) := by
    rw [text_set (((hnot wb (by omega) (fun hm => n1 (Or.inl hm))).trans (g1.block wb hwb (by simp))).trans h.blk)]; rfl
  have h0 : (w3.setCell ⟨wb, 0, none⟩ lv').heap[0]? = w.heap[0]? := hsame 0 h.tab.lt (fun e => h.ne0 wb (by simp [pwOwn]) e.symm) (fun hm => h.ne0 0 (by simp only [pwOwn, List.mem_cons, List.mem_append]; exact Or.inr (Or.inl hm)) rfl)
  refine ⟨⟨hb0, ?_, ?_, ?_, ?_, ?_, ?_, h.tab.same h0, h.pos⟩, ⟨⟨g3.os.trans g1.os, g3.tape.trans g1.tape, g3.output.trans g1.output, by simp; omega, fun k hk hn => hsame k hk (fun e => hn (by simp [pwOwn, e])) (fun hm => hn (by simp only [pwOwn, List.mem_cons, List.mem_append]; exact Or.inr (Or.inl hm)))⟩, ?_⟩⟩
  · have := own_frame hrow (w' := w3.setCell ⟨wb, 0, none⟩ lv') (fun b hb => by rw [Below.heap_setCell _ _ _ _ (by show b ≠ wb; exact hlv'ne b hb)])
    simpa using this
  · intro q hq
    simp only [List.mem_append, List.mem_cons, List.not_mem_nil, or_false] at hq
    rcases hq with hq | rfl
    · exact ((h.each q hq).mono (Nat.le_succ m)).frame (by simp; omega) fun b hb => hsame b ((h.each q hq).lt b hb) (fun e => n1 (Or.inr (by rw [List.mem_flatMap]; exact ⟨q, hq, by rw [← e]; exact hb⟩))) (fun hm => n4 b hm b (by rw [List.mem_flatMap]; exact ⟨q, hq, hb⟩) rfl)
    · exact hq0.frame (by simp; omega) fun b hb => hnewb b (hnew b hb) (hql b hb)
  · have hn := h.nodup
    have e1 : pwOwn wb lv ps = (wb :: (lv.ownBlock.toList ++ ps.flatMap pairOwn)) ++ ([] ++ []) := by simp [pwOwn]
    rw [e1] at hn
    have hs1 := nodup_swap (G' := pairOwn q0) (n := w.heap.size) hn hq0.nodup (fun b hb => Or.inr (hnew b hb)) (fun b hb => hlt b (by rw [e1]; simpa using hb))
    have e2 : (wb :: (lv.ownBlock.toList ++ ps.flatMap pairOwn)) ++ (pairOwn q0 ++ []) = [wb] ++ (lv.ownBlock.toList ++ (ps.flatMap pairOwn ++ pairOwn q0)) := by simp
    rw [e2] at hs1
    have e3 : pwOwn wb lv' (ps ++ [q0]) = [wb] ++ (lv'.ownBlock.toList ++ (ps.flatMap pairOwn ++ pairOwn q0)) := by simp [pwOwn]
    rw [e3]
    refine nodup_swap (n := w1.heap.size) hs1 (opt_nodup _) (fun b hb => ?_) (fun b hb => ?_)
    · rcases hft with e | e
      · rw [e] at hb; exact Or.inl hb
      · rw [e] at hb
        have : b = w1.heap.size := by simpa using hb
        exact Or.inr (by omega)
    · simp only [List.mem_append, List.mem_cons, List.not_mem_nil, or_false] at hb
      rcases hb with rfl | hb | hb
      · omega
      · have := hlt b (by simp only [pwOwn, List.mem_cons, List.mem_append]; exact Or.inr (Or.inr hb)); omega
      · exact hql b hb
  · intro b hb
    simp only [pwOwn, List.mem_cons, List.mem_append, List.flatMap_append, List.flatMap_cons, List.flatMap_nil, List.append_nil] at hb
    have hold : ∀ b ∈ pwOwn wb lv ps, base ≤ b := h.above
    rcases hb with hb | hb | hb | hb
    · exact hold b (by simp [pwOwn, hb])
    · rcases hft with e | e
      · rw [e] at hb; exact hold b (by simp only [pwOwn, List.mem_cons, List.mem_append]; exact Or.inr (Or.inl hb))
      · rw [e] at hb
        have : b = w1.heap.size := by simpa using hb
        omega
    · exact hold b (by simp only [pwOwn, List.mem_cons, List.mem_append]; exact Or.inr (Or.inr hb))
    · have := hnew b hb; omega
  · have := h.len; simp; omega
  · simp; omega
  · intro b hb
    simp only [pwOwn, List.mem_cons, List.mem_append, List.flatMap_append, List.flatMap_cons, List.flatMap_nil, List.append_nil] at hb ⊢
    rcases hb with hb | hb | hb | hb
    · exact Or.inl (Or.inl hb)
    · rcases hft with e | e
      · rw [e] at hb; exact Or.inl (Or.inr (Or.inl hb))
      · rw [e] at hb
        have : b = w1.heap.size := by simpa using hb
        exact Or.inr (by omega)
    · exact Or.inl (Or.inr (Or.inr hb))
    · exact Or.inr (hnew b hb)

theorem Tryz.info39 : (Tryz.prog.info? 88).map (fun i => (i.zero, i.size, i.bytes)) = some (some (.agg #[.pointer none, .pointer none]), 2, 16) := by kernel_rfl

set_option maxRecDepth 100000 in
set_option maxHeartbeats 1000000 in
theorem more_any (base m wb : Nat) {sk : Value × Value} (lv : Value) (ps : List (GT × RB)) (w : World) (h : PW base m w wb sk lv ps) (hm : m ≤ 4398046511104) :
    Calls Tryz.prog 42 #[.pointer (some ⟨wb, 0, none⟩)] w fun e w' => e = .returned (.bool true) ∧ ∃ lv' ps', PW base (m + 1) w' wb sk lv' ps' ∧ ps' ≠ [] ∧ Kpt wb lv ps w lv' ps' w' := by
  have hlen := h.len
  have c0 : w.cell? ⟨wb, 0, none⟩ = some lv := by unfold World.cell?; simp only [h.blk]; rfl
  have z0 : w.frozen? ⟨wb, 0, none⟩ = false := by unfold World.frozen?; simp only [h.blk]; simp
  have hwl := lt_of h.blk
  obtain ⟨sa, sc, hlv, _, _⟩ := own_shape2 h.row
  have hrow := h.row
  have hnb : some wb ≠ lv.ownBlock := fun e => by
    have hn := h.nodup
    unfold pwOwn at hn
    rw [List.nodup_cons] at hn
    exact hn.1 (by rw [← e]; simp)
  have HH : Hid (PW base m w wb sk lv ps) := h
  have HLV : Hid (lv = .slice sa ps.length sc) := hlv
  rw [hlv] at c0 hrow hnb
  obtain ⟨i9, hi9, hz90, hz91, hz92⟩ := info_parts Tryz.info39
  have HI : Hid (Tryz.prog.info? 88 = some i9 ∧ i9.zero = some (.agg #[.pointer none, .pointer none]) ∧ i9.size = 2 ∧ i9.bytes = 16) := ⟨hi9, hz90, hz91, hz92⟩
  have HNW : Hid (Calls Tryz.prog 32 #[] w _) := bNew_any w
  have HRW : Hid (w.ownsRow 0 88 2 (.slice sa ps.length sc) ps.length (ps.flatMap pairCells)) := hrow
  clear hi9 hz90 hz91 hz92 h hlv hrow
  go_enter Tryz.func42, Tryz.ntmps42
  go_wp2_with fail
  refine HNW.out.mono ?_
  rintro e w1 ⟨t, rfl, hz1, g1, at1, ok1, rd1, v1, rv1, own1⟩
  obtain ⟨tb, htb⟩ : ∃ tb, t.b = tb := ⟨_, rfl⟩
  have htw : tb = w.heap.size := by
    have := at1.dom t.b (by rw [at1.labB]; simp)
    rw [own1] at this
    rw [← htb]; simpa using this
  have HT : Hid (t.b = tb) := htb
  rw [htb]
  have ga2 := gb_alloc g1 refZero
  have ga3 := gb_alloc ga2 (.cells #[.pointer (some ⟨tb, 0, none⟩), .pointer (some ⟨w1.heap.size, 0, none⟩)] 88)
  have c01 := gb_cell g1 c0 (by simp)
  have c02 := gb_cell ga2 c0 (by simp)
  have c03 := gb_cell ga3 c0 (by simp)
  have z03 := gb_froz ga3 hwl z0 (by simp)
  have bn : ((w1.alloc refZero).alloc (.cells #[.pointer (some ⟨tb, 0, none⟩), .pointer (some ⟨w1.heap.size, 0, none⟩)] 88)).heap[w1.heap.size + 1]? = some (.cells #[.pointer (some ⟨tb, 0, none⟩), .pointer (some ⟨w1.heap.size, 0, none⟩)] 88) := alloc_new _ _ _ (by simp)
  have hY : ((w1.alloc refZero).alloc (.cells #[.pointer (some ⟨tb, 0, none⟩), .pointer (some ⟨w1.heap.size, 0, none⟩)] 88)).heap[w1.heap.size]? = some refZero := by
    rw [Below.heap_alloc _ _ _ (by simp)]; exact alloc_new _ _ _ rfl
  have gT : w1.grownBy ((w1.alloc refZero).alloc (.cells #[.pointer (some ⟨tb, 0, none⟩), .pointer (some ⟨w1.heap.size, 0, none⟩)] 88)) none := gb_alloc (gb_alloc (gb_refl _ _) _) _
  have HQ : Hid (PairAt (m + 1) ((w1.alloc refZero).alloc (.cells #[.pointer (some ⟨tb, 0, none⟩), .pointer (some ⟨w1.heap.size, 0, none⟩)] 88)) (t, newR w1.heap.size) ∧ ∀ b ∈ pairOwn (t, newR w1.heap.size), w.heap.size ≤ b) := by
    refine ⟨newPair_at (at1.gb gT) ok1 rd1 v1 rv1 hY (by rw [own1]; simp; omega), fun b hb => ?_⟩
    have hb' : b ∈ t.own ++ ((newR w1.heap.size).own ++ rdBlks (newR w1.heap.size).rest) := hb
    rw [newR_own, own1] at hb'
    simp at hb'
    omega
  have hrow3 : ((w1.alloc refZero).alloc (.cells #[.pointer (some ⟨tb, 0, none⟩), .pointer (some ⟨w1.heap.size, 0, none⟩)] 88)).ownsRow 0 88 2 (.slice sa ps.length sc) ps.length (ps.flatMap pairCells) := own_frame HRW.out fun b hb => ga3.block b (own_lt HRW.out b hb) (by simp)
  have HGA : Hid (w.grownBy ((w1.alloc refZero).alloc (.cells #[.pointer (some ⟨tb, 0, none⟩), .pointer (some ⟨w1.heap.size, 0, none⟩)] 88)) none) := ga3
  have hwl1 : wb < w1.heap.size := by omega
  clear at1 ok1 rd1 v1 rv1 own1 g1 ga2 ga3 hY gT htb htw z0 hz1
  go_wp2_with (at_builtin; refine wpList_append_foot _ rfl _ _ 59 rfl 88 i9 (.agg #[.pointer none, .pointer none]) 2 16 Tryz.underlying59 HI.out.1 HI.out.2.1 HI.out.2.2.1 HI.out.2.2.2 rfl (by decide) (.slice sa ps.length sc) ps.length (ps.flatMap pairCells) rfl (by exact hrow3) ⟨w1.heap.size + 1, 0, none⟩ 1 1 (by omega) [.pointer (some ⟨tb, 0, none⟩), .pointer (some ⟨w1.heap.size, 0, none⟩)] rfl rfl (cells_blk _ bn) (fun v hv => by simp at hv; rcases hv with rfl | rfl <;> rfl) (by unfold maxLen; omega) (by omega) ?_; intro lv' w3 own3 g3 hft; obtain ⟨xa, xc, rfl, _, _⟩ := own_shape2 own3; have z3 := gb_froz g3 (by simp; omega) (by exact z03) hnb; have c3 := gb_cell g3 (by exact c03) hnb)
  go_ret
  rw [← HLV.out] at g3 hft
  have own3' : w3.ownsRow 0 88 2 (.slice xa (ps.length + 1) xc) (ps.length + 1) (ps.flatMap pairCells ++ pairCells (t, newR w1.heap.size)) := by
    unfold pairCells
    rw [show (t, newR w1.heap.size).1.b = tb from HT.out]
    exact own3
  obtain ⟨k1, k2⟩ := pw_more HH.out (t, newR w1.heap.size) HQ.out.1 HQ.out.2 HGA.out g3 own3' hft
  exact ⟨rfl, _, _, k1, by simp, k2⟩

end Go.Proofs.YtcfdemhokbddiaaGreatDoor
