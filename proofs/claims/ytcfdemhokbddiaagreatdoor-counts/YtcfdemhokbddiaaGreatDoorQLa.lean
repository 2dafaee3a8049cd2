/-
  What the board keeps and what the document's board keeps tell the same: the errors are the same, call by call. (Plain facts, no program.)
-/
import Derived.Test.YtcfdemhokbddiaaGreatDoorQKu
import Derived.Test.YtcfdemhokbddiaaGreatDoorQKy
import Derived.Test.YtcfdemhokbddiaaGreatDoorQUa

namespace Go.Proofs.YtcfdemhokbddiaaGreatDoor
open Go.RowKit

def NoBrace (l : List UInt8) : Prop := ∀ c ∈ l, c ≠ 123
/-- The text begins with the name, and the name ends there. -/
def HasName (nm p : List UInt8) : Prop := ∃ t, p = nm ++ t ∧ (t = [] ∨ ∃ u, t = 123 :: u)
theorem hasName_eq {a b p : List UInt8} (ha : HasName a p) (hb : HasName b p) (na : NoBrace a) (nb : NoBrace b) : a = b := by
  obtain ⟨t, e1, h1⟩ := ha
  obtain ⟨u, e2, h2⟩ := hb
  have : a ++ t = b ++ u := by rw [← e1, ← e2]
  clear e1 e2
  induction a generalizing b with
  | nil =>
    cases b with
    | nil => rfl
    | cons y b =>
      rcases h1 with rfl | ⟨v, rfl⟩
      · simp at this
      · simp at this
        exact absurd this.1.symm (nb y (by simp))
  | cons x a ih =>
    cases b with
    | nil =>
      rcases h2 with rfl | ⟨v, rfl⟩
      · simp at this
      · simp at this
        exact absurd this.1 (na x (by simp))
    | cons y b =>
      simp only [List.cons_append, List.cons.injEq] at this
      rw [this.1, ih (fun c hc => na c (by simp [hc])) (b := b) (fun c hc => nb c (by simp [hc])) this.2]
theorem goes_noBrace {k : Nat} {c : UInt8} (h : goesB k (c.toNat : Int) = true) : c ≠ 123 := by
  intro e
  subst e
  simp [goesB, nameB] at h
theorem isName_noBrace {l : List UInt8} (h : isNameB l = true) : NoBrace l := by
  intro c hc
  obtain ⟨j, hj, rfl⟩ := List.getElem_of_mem hc
  exact goes_noBrace (((isNameB_iff l).1 h).2 j hj)
theorem nameLen_noBrace (k : Nat) (l : List UInt8) : NoBrace (l.take (nameLen k l)) := by
  induction l generalizing k with
  | nil => intro c hc; simp at hc
  | cons x l ih =>
    unfold nameLen
    split
    · rename_i hx
      intro c hc
      rw [Nat.add_comm, List.take_succ_cons, List.mem_cons] at hc
      rcases hc with rfl | hc
      · exact goes_noBrace (k := k) (by simpa [goesB] using hx)
      · exact ih (k + 1) c hc
    · intro c hc; simp at hc
theorem seriesP_name {n : Nat} {l l' : List UInt8} {p : List UInt8 × List Lab} (h : seriesP n l = (some p, l')) : NoBrace p.1 := by
  unfold seriesP at h
  split at h
  · simp at h
  · split at h
    · simp at h; rw [← h.1]; exact nameLen_noBrace 0 l
    · split at h
      · simp at h
      · split at h
        · simp at h; rw [← h.1]; exact nameLen_noBrace 0 l
        · simp at h
theorem readP_noBrace (l : List UInt8) : NoBrace (readP l).name := by
  unfold readP
  split
  · intro c hc; simp at hc
  · split
    · intro c hc; simp at hc
    · rename_i hs
      split
      · intro c hc; simp at hc
      · exact seriesP_name hs
theorem plain_hasName {l : List UInt8} (h : (readP l).err = 0) : HasName (readP l).name (plainP l) := by
  rw [show plainP l = plainB (readP l).name (readP l).labs by unfold plainP; rw [if_pos h]]
  unfold plainB
  rw [List.append_assoc]
  refine ⟨_, rfl, ?_⟩
  cases (readP l).labs with
  | nil => exact Or.inl rfl
  | cons x ls => exact Or.inr ⟨_, rfl⟩

def famsOf (T : List Fam) : List (List UInt8 × Int × List Int) := T.map fun f => (f.nm, f.kind, f.ls)
def plainsOf (T : List Fam) : List (List UInt8) := T.flatMap fun f => f.ser.map Cnt.plain
def textsOf (R : RV) : List (List UInt8) := R.ser.map fun x => x.2.1
/-- A series that was changed by all these numbers, one behind the other. -/
def folds (kind : Int) (ls : List Int) (ns : List Int) (p : List UInt8) : Cnt := ns.foldl (fun c n => countP kind ls n c) (zeroCnt p)
theorem folds_snoc (kind : Int) (ls ns : List Int) (n : Int) (p : List UInt8) : folds kind ls (ns ++ [n]) p = countP kind ls n (folds kind ls ns p) := by
  unfold folds; rw [List.foldl_append]; rfl
theorem ser_uniq : ∀ {l : List (List UInt8 × List UInt8 × List Int)}, (l.map fun x => x.2.1).Nodup → ∀ {x y}, x ∈ l → y ∈ l → x.2.1 = y.2.1 → x = y
  | [], _, _, _, hx, _, _ => by simp at hx
  | z :: l, hd, x, y, hx, hy, e => by
    rw [List.map_cons, List.nodup_cons] at hd
    rw [List.mem_cons] at hx hy
    rcases hx with rfl | hx <;> rcases hy with rfl | hy
    · rfl
    · exact absurd (by rw [e]; exact List.mem_map_of_mem (f := fun x : List UInt8 × List UInt8 × List Int => x.2.1) hy) hd.1
    · exact absurd (by rw [← e]; exact List.mem_map_of_mem (f := fun x : List UInt8 × List UInt8 × List Int => x.2.1) hx) hd.1
    · exact ser_uniq hd.2 hx hy e
structure Rel (T : List Fam) (R : RV) : Prop where
  fams : (famsOf T).Perm R.fams
  texts : (plainsOf T).Perm (textsOf R)
  names : ∀ f ∈ T, NoBrace f.nm
  begins : ∀ f ∈ T, ∀ c ∈ f.ser, HasName f.nm c.plain
  named : ∀ f ∈ T, f.nm ≠ []
  nodup : (textsOf R).Nodup
  vals : ∀ f ∈ T, ∀ c ∈ f.ser, ∃ ns, (f.nm, c.plain, ns) ∈ R.ser ∧ ns ≠ [] ∧ c = folds f.kind f.ls ns c.plain
theorem Rel.start : Rel [] ⟨[], []⟩ := ⟨.refl _, .refl _, by simp, by simp, by simp, by simp [textsOf], by simp⟩

theorem mem_nm {T : List Fam} (hd : (T.map Fam.nm).Nodup) {f g : Fam} (hf : f ∈ T) (hg : g ∈ T) (e : f.nm = g.nm) : f = g := by
  induction T with
  | nil => simp at hf
  | cons x T ih =>
    rw [List.map_cons, List.nodup_cons] at hd
    rw [List.mem_cons] at hf hg
    rcases hf with rfl | hf <;> rcases hg with rfl | hg
    · rfl
    · exact absurd (by rw [e]; exact List.mem_map_of_mem hg) hd.1
    · exact absurd (by rw [← e]; exact List.mem_map_of_mem hf) hd.1
    · exact ih hd.2 hf hg

theorem fam_step {T T' : List Fam} {R R' : RV} {nm : List UInt8} {kind : Int} {xs : List Int} {c c' : Int} (h : Rel T R) (hd : (T.map Fam.nm).Nodup) (h1 : FamOut T nm kind xs c T') (h2 : RFamOut R nm kind xs c' R') : c = c' ∧ Rel T' R' := by
  have hlen : T.length = R.fams.length := by have := h.fams.length_eq; simpa [famsOf] using this
  have hT : ∀ f ∈ T, (f.nm, f.kind, f.ls) ∈ R.fams := fun f hf => h.fams.mem_iff.1 (List.mem_map_of_mem (f := fun f : Fam => (f.nm, f.kind, f.ls)) hf)
  have hR : ∀ g ∈ R.fams, ∃ f ∈ T, (f.nm, f.kind, f.ls) = g := fun g hg => by
    have := h.fams.mem_iff.2 hg
    simpa [famsOf] using this
  rcases h1 with ⟨a, rfl, rfl⟩ | ⟨a, b, rfl, rfl⟩ | ⟨a, b, ⟨f, hf, e, rfl⟩, rfl⟩ | ⟨a, b, d, l, rfl, rfl⟩ | ⟨a, b, d, l, rfl, C, D, e, rfl⟩ <;>
    rcases h2 with ⟨a', rfl, rfl⟩ | ⟨a', b', rfl, rfl⟩ | ⟨a', b', ⟨g, hg, e', rfl⟩, rfl⟩ | ⟨a', b', d', l', rfl, rfl⟩ | ⟨a', b', d', l', rfl, rfl⟩
  all_goals first
    | exact ⟨rfl, h⟩
    | exact absurd (a.symm.trans a') (by decide)
    | exact absurd (b.symm.trans b') (by decide)
    | (exact absurd e (fun e => d' _ (hT f hf) e))
    | (exfalso; obtain ⟨f, hf, e⟩ := hR g hg; exact d f hf (by rw [← e'] ; rw [← e]))
    | (exfalso; omega)
    | skip
  · obtain ⟨f2, hf2, e2⟩ := hR g hg
    have : f2 = f := mem_nm hd hf2 hf (by rw [e, ← e', ← e2])
    subst this
    rw [← e2]
    exact ⟨rfl, h⟩
  · refine ⟨rfl, ⟨?_, ?_, ?_, ?_, ?_, ?_, ?_⟩⟩
    · have h3 := h.fams
      rw [e] at h3
      simp only [famsOf, List.map_append, List.map_cons] at h3 ⊢
      exact List.perm_middle.trans ((h3.cons _).trans (List.perm_append_singleton _ _).symm)
    · have h3 := h.texts
      rw [e] at h3
      simpa [plainsOf, textsOf] using h3
    · intro f hf
      simp only [List.mem_append, List.mem_cons] at hf
      rcases hf with hf | rfl | hf
      · exact h.names f (by rw [e]; simp [hf])
      · exact isName_noBrace a
      · exact h.names f (by rw [e]; simp [hf])
    · intro f hf
      simp only [List.mem_append, List.mem_cons] at hf
      rcases hf with hf | rfl | hf
      · exact h.begins f (by rw [e]; simp [hf])
      · simp
      · exact h.begins f (by rw [e]; simp [hf])
    · intro f hf
      simp only [List.mem_append, List.mem_cons] at hf
      rcases hf with hf | rfl | hf
      · exact h.named f (by rw [e]; simp [hf])
      · exact ((isNameB_iff _).1 a).1
      · exact h.named f (by rw [e]; simp [hf])
    · exact h.nodup
    · intro f hf
      simp only [List.mem_append, List.mem_cons] at hf
      rcases hf with hf | rfl | hf
      · exact h.vals f (by rw [e]; simp [hf])
      · simp
      · exact h.vals f (by rw [e]; simp [hf])

theorem size_plains (T : List Fam) : sizeOfAll T = (plainsOf T).length := by
  unfold sizeOfAll plainsOf
  rw [List.length_flatMap]
  simp

theorem in_fam {T : List Fam} {R : RV} (h : Rel T R) (hd : (T.map Fam.nm).Nodup) {f : Fam} (hf : f ∈ T) {p : List UInt8} (hp : HasName f.nm p) (hx : p ∈ textsOf R) : ∃ c ∈ f.ser, c.plain = p := by
  have := h.texts.mem_iff.2 hx
  simp only [plainsOf, List.mem_flatMap, List.mem_map] at this
  obtain ⟨g, hg, c, hc, rfl⟩ := this
  have e : g.nm = f.nm := hasName_eq (h.begins g hg c hc) hp (h.names g hg) (h.names f hf)
  have := mem_nm hd hg hf e
  subst this
  exact ⟨c, hc, rfl⟩

/-- What stands beside a family and a series of it. -/
theorem Rel.beside {T : List Fam} {R : RV} (h : Rel T R) (hd : (T.map Fam.nm).Nodup) {A B' : List Fam} {f : Fam} (e : T = A ++ f :: B') {p : List UInt8} (hp : HasName f.nm p) : (∀ k ∈ A, ∀ c ∈ k.ser, c.plain ≠ p) ∧ (∀ k ∈ B', ∀ c ∈ k.ser, c.plain ≠ p) := by
  have hf : f ∈ T := by rw [e]; simp
  have hne : ∀ k ∈ T, k.nm ≠ f.nm → ∀ c ∈ k.ser, c.plain ≠ p := fun k hk hn c hc ec => hn (hasName_eq (h.begins k hk c hc) (by rw [ec]; exact hp) (h.names k hk) (h.names f hf))
  have hd2 := hd
  rw [e, List.map_append, List.map_cons, List.nodup_append] at hd2
  obtain ⟨_, h2, h3⟩ := hd2
  rw [List.nodup_cons] at h2
  refine ⟨fun k hk => hne k (by rw [e]; simp [hk]) fun en => ?_, fun k hk => hne k (by rw [e]; simp [hk]) fun en => ?_⟩
  · exact h3 k.nm (List.mem_map_of_mem hk) f.nm (by simp) en
  · exact h2.1 (by rw [← en]; exact List.mem_map_of_mem hk)
theorem Rel.within {T : List Fam} {R : RV} (h : Rel T R) {f : Fam} (hf : f ∈ T) : (f.ser.map Cnt.plain).Nodup := by
  have hn : (plainsOf T).Nodup := h.texts.nodup_iff.2 h.nodup
  obtain ⟨A, B', e⟩ := List.append_of_mem hf
  rw [e] at hn
  simp only [plainsOf, List.flatMap_append, List.flatMap_cons] at hn
  rw [List.nodup_append, List.nodup_append] at hn
  exact hn.2.1.1
theorem Rel.inside {T : List Fam} {R : RV} (h : Rel T R) {f : Fam} (hf : f ∈ T) {C D : List Cnt} {d : Cnt} (es : f.ser = C ++ d :: D) : (∀ c ∈ C, c.plain ≠ d.plain) ∧ (∀ c ∈ D, c.plain ≠ d.plain) := by
  have hn := h.within hf
  rw [es, List.map_append, List.map_cons, List.nodup_append] at hn
  obtain ⟨_, h2, h3⟩ := hn
  rw [List.nodup_cons] at h2
  exact ⟨fun c hc en => h3 c.plain (List.mem_map_of_mem hc) d.plain (by simp) en, fun c hc en => h2.1 (by rw [← en]; exact List.mem_map_of_mem hc)⟩

theorem chg_step {T T' : List Fam} {R R' : RV} {l : List UInt8} {n : Int} {c c' : Int} (h : Rel T R) (hd : (T.map Fam.nm).Nodup) (hm : R.ser.length ≤ 24) (h1 : ChgOut T l n c T') (h2 : RChgOut R l n c' R') : c = c' ∧ Rel T' R' := by
  have hT : ∀ f ∈ T, (f.nm, f.kind, f.ls) ∈ R.fams := fun f hf => h.fams.mem_iff.1 (List.mem_map_of_mem (f := fun f : Fam => (f.nm, f.kind, f.ls)) hf)
  have hR : ∀ g ∈ R.fams, ∃ f ∈ T, (f.nm, f.kind, f.ls) = g := fun g hg => by
    have := h.fams.mem_iff.2 hg
    simpa [famsOf] using this
  have hsz : sizeOfAll T = R.ser.length := by
    rw [size_plains, h.texts.length_eq]; simp [textsOf]
  rcases h1 with ⟨a, rfl, rfl⟩ | ⟨a, b, rfl, rfl⟩ | ⟨a, A, f, B', e, enm, h1⟩
  · rcases h2 with ⟨_, rfl, rfl⟩ | ⟨a', _⟩ | ⟨a', _⟩
    · exact ⟨rfl, h⟩
    · exact absurd a' a
    · exact absurd a' a
  · rcases h2 with ⟨a', _⟩ | ⟨_, _, rfl, rfl⟩ | ⟨_, g, hg, eg, _⟩
    · exact absurd a a'
    · exact ⟨rfl, h⟩
    · obtain ⟨f, hf, ef⟩ := hR g hg
      exact absurd (by rw [← ef] at eg; exact eg) (b f hf)
  · have hf : f ∈ T := by rw [e]; simp
    have hp : HasName f.nm (plainP l) := by rw [enm]; exact plain_hasName a
    rcases h2 with ⟨a', _⟩ | ⟨_, b', _⟩ | ⟨_, g, hg, eg, h2⟩
    · exact absurd a a'
    · exact absurd enm (b' _ (hT f hf))
    · obtain ⟨f2, hf2, ef2⟩ := hR g hg
      have : f2 = f := mem_nm hd hf2 hf (by rw [enm, ← eg, ← ef2])
      subst this
      subst ef2
      have hin : ∀ x ∈ R.ser, x.2.1 = plainP l → ∃ c ∈ f2.ser, c.plain = plainP l := fun x hx ex => in_fam h hd hf hp (by rw [← ex]; exact List.mem_map_of_mem (f := fun x : List UInt8 × List UInt8 × List Int => x.2.1) hx)
      have hout : ∀ c ∈ f2.ser, c.plain = plainP l → ∃ x ∈ R.ser, x.2.1 = plainP l := fun c hc ec => by
        have : plainP l ∈ textsOf R := h.texts.mem_iff.1 (by
          simp only [plainsOf, List.mem_flatMap, List.mem_map]
          exact ⟨f2, hf, c, hc, ec⟩)
        simp only [textsOf, List.mem_map] at this
        obtain ⟨x, hx, ex⟩ := this
        exact ⟨x, hx, ex⟩
      rcases h1 with ⟨tk, rfl, rfl⟩ | ⟨tk, C, d, D, es, ed, rfl, rfl⟩ | ⟨tk, no, full, rfl, rfl⟩ | ⟨tk, no, room, rfl, C, D, es, rfl⟩
      · rcases h2 with ⟨_, rfl, rfl⟩ | ⟨tk', _⟩ | ⟨tk', _⟩ | ⟨tk', _⟩
        · exact ⟨rfl, h⟩
        all_goals (simp only at tk'; rw [tk] at tk'; cases tk')
      · rcases h2 with ⟨tk', _⟩ | ⟨_, C', x, D', es', ex, rfl, rfl⟩ | ⟨_, no', _⟩ | ⟨_, no', _⟩
        · simp only at tk'; rw [tk] at tk'; cases tk'
        · refine ⟨rfl, ⟨?_, ?_, ?_, ?_, ?_, ?_, ?_⟩⟩
          · have h3 := h.fams
            rw [e] at h3
            simpa [famsOf] using h3
          · have h3 := h.texts
            rw [e] at h3
            simp only [plainsOf, textsOf, es, es', List.flatMap_append, List.flatMap_cons, List.map_append, List.map_cons, countP_plain] at h3 ⊢
            exact h3
          · intro k hk
            simp only [List.mem_append, List.mem_cons] at hk
            rcases hk with hk | rfl | hk
            · exact h.names k (by rw [e]; simp [hk])
            · exact h.names f2 hf
            · exact h.names k (by rw [e]; simp [hk])
          · intro k hk
            simp only [List.mem_append, List.mem_cons] at hk
            rcases hk with hk | rfl | hk
            · exact h.begins k (by rw [e]; simp [hk])
            · intro c hc
              simp only [List.mem_append, List.mem_cons] at hc
              rcases hc with hc | rfl | hc
              · exact h.begins f2 hf c (by rw [es]; simp [hc])
              · rw [countP_plain]; exact h.begins f2 hf d (by rw [es]; simp)
              · exact h.begins f2 hf c (by rw [es]; simp [hc])
            · exact h.begins k (by rw [e]; simp [hk])
          · intro k hk
            simp only [List.mem_append, List.mem_cons] at hk
            rcases hk with hk | rfl | hk
            · exact h.named k (by rw [e]; simp [hk])
            · exact h.named f2 hf
            · exact h.named k (by rw [e]; simp [hk])
          · have h3 := h.nodup
            simp only [textsOf, es', List.map_append, List.map_cons] at h3 ⊢
            exact h3
          · obtain ⟨b1, b2⟩ := h.beside hd e hp
            obtain ⟨i1, i2⟩ := h.inside hf es
            obtain ⟨ns, hm2, hne, hfo⟩ := h.vals f2 hf d (by rw [es]; simp)
            have hx : (f2.nm, d.plain, ns) = x := ser_uniq h.nodup hm2 (by rw [es']; simp) (by rw [ex, ed])
            have Q : ∀ k ∈ T, ∀ c ∈ k.ser, c.plain ≠ plainP l → ∃ ns, (k.nm, c.plain, ns) ∈ C' ++ (x.1, x.2.1, x.2.2 ++ [n]) :: D' ∧ ns ≠ [] ∧ c = folds k.kind k.ls ns c.plain := fun k hk c hc hn => by
              obtain ⟨ns, hm, h1, h2⟩ := h.vals k hk c hc
              refine ⟨ns, ?_, h1, h2⟩
              rw [es'] at hm
              simp only [List.mem_append, List.mem_cons] at hm ⊢
              rcases hm with hm | hm | hm
              · exact Or.inl hm
              · exact absurd (by rw [← hm] at ex; exact ex) hn
              · exact Or.inr (Or.inr hm)
            intro k hk
            simp only [List.mem_append, List.mem_cons] at hk
            rcases hk with hk | rfl | hk
            · exact fun c hc => Q k (by rw [e]; simp [hk]) c hc (b1 k hk c hc)
            · intro c hc
              simp only [List.mem_append, List.mem_cons] at hc
              rcases hc with hc | rfl | hc
              · exact Q f2 hf c (by rw [es]; simp [hc]) (by rw [← ed]; exact i1 c hc)
              · refine ⟨ns ++ [n], ?_, by simp, ?_⟩
                · rw [countP_plain, ← hx]; simp
                · show countP f2.kind f2.ls n d = _
                  rw [countP_plain, folds_snoc, ← hfo]
              · exact Q f2 hf c (by rw [es]; simp [hc]) (by rw [← ed]; exact i2 c hc)
            · exact fun c hc => Q k (by rw [e]; simp [hk]) c hc (b2 k hk c hc)
        all_goals
          obtain ⟨x, hx, ex⟩ := hout d (by rw [es]; simp) ed
          exact absurd ex (no' x hx)
      · rcases h2 with ⟨tk', _⟩ | ⟨_, C', x, D', es', ex, rfl, rfl⟩ | ⟨_, no', l', rfl, rfl⟩ | ⟨_, no', l', _⟩
        · simp only at tk'; rw [tk] at tk'; cases tk'
        · obtain ⟨c, hc, ec⟩ := hin x (by rw [es']; simp) ex
          exact absurd ec (no c hc)
        · exact ⟨rfl, h⟩
        · omega
      · rcases h2 with ⟨tk', _⟩ | ⟨_, C', x, D', es', ex, rfl, rfl⟩ | ⟨_, no', l', _⟩ | ⟨_, no', l', rfl, rfl⟩
        · simp only at tk'; rw [tk] at tk'; cases tk'
        · obtain ⟨c, hc, ec⟩ := hin x (by rw [es']; simp) ex
          exact absurd ec (no c hc)
        · omega
        · refine ⟨rfl, ⟨?_, ?_, ?_, ?_, ?_, ?_, ?_⟩⟩
          · have h3 := h.fams
            rw [e] at h3
            simpa [famsOf] using h3
          · have h3 := h.texts
            rw [e] at h3
            simp only [plainsOf, textsOf, es, List.flatMap_append, List.flatMap_cons, List.map_append, List.map_cons, List.map_nil, countP_plain, zeroCnt] at h3 ⊢
            refine List.Perm.trans ?_ ((h3.cons (plainP l)).trans (List.perm_append_singleton _ _).symm)
            simp only [List.append_assoc, List.cons_append]
            rw [← List.append_assoc, ← List.append_assoc (A.flatMap _)]
            exact List.perm_middle
          · intro k hk
            simp only [List.mem_append, List.mem_cons] at hk
            rcases hk with hk | rfl | hk
            · exact h.names k (by rw [e]; simp [hk])
            · exact h.names f2 hf
            · exact h.names k (by rw [e]; simp [hk])
          · intro k hk
            simp only [List.mem_append, List.mem_cons] at hk
            rcases hk with hk | rfl | hk
            · exact h.begins k (by rw [e]; simp [hk])
            · intro c hc
              simp only [List.mem_append, List.mem_cons] at hc
              rcases hc with hc | rfl | hc
              · exact h.begins f2 hf c (by rw [es]; simp [hc])
              · rw [countP_plain]; exact hp
              · exact h.begins f2 hf c (by rw [es]; simp [hc])
            · exact h.begins k (by rw [e]; simp [hk])
          · intro k hk
            simp only [List.mem_append, List.mem_cons] at hk
            rcases hk with hk | rfl | hk
            · exact h.named k (by rw [e]; simp [hk])
            · exact h.named f2 hf
            · exact h.named k (by rw [e]; simp [hk])
          · have h3 := h.nodup
            simp only [textsOf, List.map_append, List.map_cons, List.map_nil] at h3 ⊢
            rw [List.nodup_append]
            refine ⟨h3, by simp, fun a ha b hb e => ?_⟩
            simp only [List.mem_singleton] at hb
            simp only [List.mem_map] at ha
            obtain ⟨x, hx, ex⟩ := ha
            exact no' x hx (by rw [ex, e, hb])
          · have Q : ∀ k ∈ T, ∀ c ∈ k.ser, ∃ ns, (k.nm, c.plain, ns) ∈ R.ser ++ [((readP l).name, plainP l, [n])] ∧ ns ≠ [] ∧ c = folds k.kind k.ls ns c.plain := fun k hk c hc => by
              obtain ⟨ns, hm, h1, h2⟩ := h.vals k hk c hc
              exact ⟨ns, by simp [hm], h1, h2⟩
            intro k hk
            simp only [List.mem_append, List.mem_cons] at hk
            rcases hk with hk | rfl | hk
            · exact Q k (by rw [e]; simp [hk])
            · intro c hc
              simp only [List.mem_append, List.mem_cons] at hc
              rcases hc with hc | rfl | hc
              · exact Q f2 hf c (by rw [es]; simp [hc])
              · refine ⟨[n], ?_, by simp, ?_⟩
                · rw [countP_plain, ← enm]; simp [zeroCnt]
                · show countP f2.kind f2.ls n (zeroCnt (plainP l)) = _
                  rw [countP_plain]; rfl
              · exact Q f2 hf c (by rw [es]; simp [hc])
            · exact Q k (by rw [e]; simp [hk])

theorem drp_step {T T' : List Fam} {R R' : RV} {l : List UInt8} {c c' : Int} (h : Rel T R) (hd : (T.map Fam.nm).Nodup) (h1 : DrpOut T l c T') (h2 : RDrpOut R l c' R') : c = c' ∧ Rel T' R' := by
  have hinT : ∀ f ∈ T, ∀ c ∈ f.ser, c.plain = plainP l → ∃ x ∈ R.ser, x.2.1 = plainP l := fun f hf c hc ec => by
    have : plainP l ∈ textsOf R := h.texts.mem_iff.1 (by
      simp only [plainsOf, List.mem_flatMap, List.mem_map]
      exact ⟨f, hf, c, hc, ec⟩)
    simp only [textsOf, List.mem_map] at this
    obtain ⟨x, hx, ex⟩ := this
    exact ⟨x, hx, ex⟩
  have hinR : ∀ x ∈ R.ser, x.2.1 = plainP l → (readP l).err = 0 → ∃ f ∈ T, f.nm = (readP l).name ∧ ∃ c ∈ f.ser, c.plain = plainP l := fun x hx ex he => by
    have : plainP l ∈ plainsOf T := h.texts.mem_iff.2 (by rw [← ex]; exact List.mem_map_of_mem (f := fun x : List UInt8 × List UInt8 × List Int => x.2.1) hx)
    simp only [plainsOf, List.mem_flatMap, List.mem_map] at this
    obtain ⟨f, hf, c, hc, ec⟩ := this
    have hb := h.begins f hf c hc
    rw [ec] at hb
    exact ⟨f, hf, hasName_eq hb (plain_hasName he) (h.names f hf) (readP_noBrace l), c, hc, ec⟩
  rcases h1 with ⟨a, rfl, rfl⟩ | ⟨a, b, rfl, rfl⟩ | ⟨a, A, f, B', e, enm, h1⟩
  · rcases h2 with ⟨_, rfl, rfl⟩ | ⟨a', _⟩ | ⟨a', _⟩
    · exact ⟨rfl, h⟩
    · exact absurd a' a
    · exact absurd a' a
  · rcases h2 with ⟨a', _⟩ | ⟨_, _, rfl, rfl⟩ | ⟨_, C', x, D', es', ex, _⟩
    · exact absurd a a'
    · exact ⟨rfl, h⟩
    · obtain ⟨f, hf, ef, _⟩ := hinR x (by rw [es']; simp) ex a
      exact absurd ef (b f hf)
  · have hf : f ∈ T := by rw [e]; simp
    rcases h1 with ⟨no, rfl, rfl⟩ | ⟨C, d, D, es, ed, rfl, rfl⟩
    · rcases h2 with ⟨a', _⟩ | ⟨_, _, rfl, rfl⟩ | ⟨_, C', x, D', es', ex, _⟩
      · exact absurd a a'
      · exact ⟨rfl, h⟩
      · obtain ⟨f2, hf2, ef2, c, hc, ec⟩ := hinR x (by rw [es']; simp) ex a
        have : f2 = f := mem_nm hd hf2 hf (by rw [ef2, enm])
        subst this
        exact absurd ec (no c hc)
    · rcases h2 with ⟨a', _⟩ | ⟨_, no', _⟩ | ⟨_, C', x, D', es', ex, rfl, rfl⟩
      · exact absurd a a'
      · obtain ⟨x, hx, ex⟩ := hinT f hf d (by rw [es]; simp) ed
        exact absurd ex (no' x hx)
      · refine ⟨rfl, ⟨?_, ?_, ?_, ?_, ?_, ?_, ?_⟩⟩
        · have h3 := h.fams
          rw [e] at h3
          simpa [famsOf] using h3
        · have h3 := h.texts
          rw [e] at h3
          simp only [plainsOf, textsOf, es, es', List.flatMap_append, List.flatMap_cons, List.map_append, List.map_cons, ed, ex, List.append_assoc, List.cons_append] at h3 ⊢
          rw [← List.append_assoc] at h3
          rw [← List.append_assoc (A.flatMap _)]
          exact List.Perm.cons_inv ((List.perm_middle.symm.trans h3).trans List.perm_middle)
        · intro k hk
          simp only [List.mem_append, List.mem_cons] at hk
          rcases hk with hk | rfl | hk
          · exact h.names k (by rw [e]; simp [hk])
          · exact h.names f hf
          · exact h.names k (by rw [e]; simp [hk])
        · intro k hk
          simp only [List.mem_append, List.mem_cons] at hk
          rcases hk with hk | rfl | hk
          · exact h.begins k (by rw [e]; simp [hk])
          · intro c hc
            simp only [List.mem_append] at hc
            rcases hc with hc | hc
            · exact h.begins f hf c (by rw [es]; simp [hc])
            · exact h.begins f hf c (by rw [es]; simp [hc])
          · exact h.begins k (by rw [e]; simp [hk])
        · intro k hk
          simp only [List.mem_append, List.mem_cons] at hk
          rcases hk with hk | rfl | hk
          · exact h.named k (by rw [e]; simp [hk])
          · exact h.named f hf
          · exact h.named k (by rw [e]; simp [hk])
        · have h3 := h.nodup
          simp only [textsOf, es', List.map_append, List.map_cons] at h3 ⊢
          exact h3.sublist (List.Sublist.append (List.Sublist.refl _) (List.sublist_cons_self _ _))
        · have hp : HasName f.nm (plainP l) := by rw [enm]; exact plain_hasName a
          obtain ⟨b1, b2⟩ := h.beside hd e hp
          obtain ⟨i1, i2⟩ := h.inside hf es
          have Q : ∀ k ∈ T, ∀ c ∈ k.ser, c.plain ≠ plainP l → ∃ ns, (k.nm, c.plain, ns) ∈ C' ++ D' ∧ ns ≠ [] ∧ c = folds k.kind k.ls ns c.plain := fun k hk c hc hn => by
            obtain ⟨ns, hm, h1, h2⟩ := h.vals k hk c hc
            refine ⟨ns, ?_, h1, h2⟩
            rw [es'] at hm
            simp only [List.mem_append, List.mem_cons] at hm ⊢
            rcases hm with hm | hm | hm
            · exact Or.inl hm
            · exact absurd (by rw [← hm] at ex; exact ex) hn
            · exact Or.inr hm
          intro k hk
          simp only [List.mem_append, List.mem_cons] at hk
          rcases hk with hk | rfl | hk
          · exact fun c hc => Q k (by rw [e]; simp [hk]) c hc (b1 k hk c hc)
          · intro c hc
            simp only [List.mem_append] at hc
            rcases hc with hc | hc
            · exact Q f hf c (by rw [es]; simp [hc]) (by rw [← ed]; exact i1 c hc)
            · exact Q f hf c (by rw [es]; simp [hc]) (by rw [← ed]; exact i2 c hc)
          · exact fun c hc => Q k (by rw [e]; simp [hk]) c hc (b2 k hk c hc)

end Go.Proofs.YtcfdemhokbddiaaGreatDoor

/-
  The law's small functions: num, plains, pick, lent, part.
-/
namespace Go.Proofs.YtcfdemhokbddiaaGreatDoor
open Go.RowKit

set_option maxRecDepth 100000 in
set_option maxHeartbeats 400000 in
theorem num_any (n : Int) (w : World) : Calls Tryz.prog 49 #[.int .i64 n] w fun e w' => e = .returned (.int .i64 n) ∧ w' = w := by
  go_enter Tryz.func49, Tryz.ntmps49
  go_wp2
  go_ret
  exact ⟨rfl, rfl⟩

set_option maxRecDepth 100000 in
set_option maxHeartbeats 400000 in
theorem plains_any (s : ByteArray) (w : World) : Calls Tryz.prog 43 #[.string s] w fun e w' => e = .returned (.bool true) ∧ w.grownBy w' none := by
  have hp := plain_any s w
  have hq := parse_any s
  generalize plainP s.data.toList = t at hp hq
  generalize (readP s.data.toList).name = nm at hq
  generalize (readP s.data.toList).err = er at hp hq
  generalize (if er = 0 then 0 else (readP s.data.toList).at_) = at_ at hp hq
  have HP : Hid (Calls Tryz.prog 26 #[.string s] w _) := hp
  have HQ : Hid (∀ w, Calls Tryz.prog 80 #[.string s] w _) := hq
  clear hp hq
  go_enter Tryz.func43, Tryz.ntmps43
  go_wp2_with fail
  refine HP.out.mono ?_
  rintro e w1 ⟨rfl, b1⟩
  go_wp2_with fail
  refine (HQ.out w1).mono ?_
  rintro e w2 ⟨rfl, b2⟩
  unfold outV
  have hself : ((B t).toList == (B t).toList) = true := by simp
  have hself2 : ((er : Int) == (er : Int)) = true := by simp
  have hself3 : ((at_ : Int) == (at_ : Int)) = true := by simp
  go_wp2_with (go_at_call 49; refine (num_any _ _).mono ?_; rintro e w' ⟨rfl, rfl⟩)
  go_ret
  exact ⟨rfl, gb_trans (gb_of_below b1) (gb_of_below b2)⟩

/-- Which of n things the number speaks of. -/
def lpickP (c : Int) (n : Nat) : Nat := (if c < 0 then (-(c + 1)).toNat else c.toNat) % n
theorem lpickP_lt (c : Int) (n : Nat) (hn : 0 < n) : lpickP c n < n := Nat.mod_lt _ hn

set_option maxRecDepth 100000 in
set_option maxHeartbeats 400000 in
theorem pick_any (c : Int) (n : Nat) (w : World) (hn : 0 < n) (hm : n ≤ 9223372036854775807) (hc : -9223372036854775808 ≤ c ∧ c ≤ 9223372036854775807) :
    Calls Tryz.prog 44 #[.int .i64 c, .int .i64 (n : Int)] w fun e w' => e = .returned (.int .i64 (lpickP c n : Int)) ∧ w' = w := by
  obtain ⟨hc1, hc2⟩ := hc
  have hne : ((n : Int) == 0) = false := by simp; omega
  by_cases h : c < 0
  · obtain ⟨d, hd⟩ : ∃ d : Nat, c = -((d : Int) + 1) := ⟨(-(c + 1)).toNat, by omega⟩
    subst hd
    have HP : Hid (lpickP (-((d : Int) + 1)) n = d % n) := by
      show _ = _
      unfold lpickP
      rw [if_pos (by omega), show (-(-((d : Int) + 1) + 1)).toNat = d from by omega]
    have hd1 : (d : Int) ≤ 9223372036854775807 := by omega
    have e1 : IntKind.i64.wrap (-((d : Int) + 1) + 1) = -(d : Int) := by rw [IntKind.wrap_i64]; omega
    have e2 : -((d : Int) + 1) + 1 = -(d : Int) := by omega
    go_enter Tryz.func44, Tryz.ntmps44
    go_wp2
    go_ret
    exact ⟨by rw [HP.out, Int.natCast_emod]; rfl, rfl⟩
  · obtain ⟨d, hd⟩ : ∃ d : Nat, c = (d : Int) := ⟨c.toNat, by omega⟩
    subst hd
    have HP : Hid (lpickP (d : Int) n = d % n) := by
      show _ = _
      unfold lpickP
      rw [if_neg (by omega), Int.toNat_natCast]
    go_enter Tryz.func44, Tryz.ntmps44
    go_wp2
    go_ret
    exact ⟨by rw [HP.out, Int.natCast_emod]; rfl, rfl⟩

/-- copy into a row that is known whole. -/
theorem run_copy_whole {P : Program} (w : World) (dT sT ty elem : TypeId) (g dLen dCap : Nat) (a : Addr) (sLen sCap : Nat) (cur : Array Value) (t : TypeId) (cs : List Value)
    (hu : P.underlying dT = some (.slice elem)) (hs : (P.info? elem).map (·.size) = some 1)
    (hg : w.heap[g]? = some (.cells cur t (0, 0))) (hn : sLen ≤ dLen) (hcl : cs.length = sLen)
    (hsrc : ∀ j v, cs[j]? = some v → w.cell? (a.add j) = some v) (hfit : cs.length ≤ cur.size) (h1 : ∀ v ∈ cs, v.oneCell' = true) :
    (Builtin.copy_ #[dT, sT] ty #[.slice (some ⟨g, 0, none⟩) dLen dCap, .slice (some a) sLen sCap]).run P w =
      .ok (goInt sLen) (w.setRow g (cs ++ cur.toList.drop cs.length).toArray) := by
  have hl := run_loadCells_list (P := P) w a cs hsrc
  have hst := run_storeCells_at P g 0 t cs 0 cur w hg (by simpa using hfit) h1
  have hmin : sLen = Nat.min sLen dLen := by simp only [Nat.min_def]; split <;> omega
  cases hq : P.info? elem with
  | none => simp [hq] at hs
  | some i =>
    have hi : i.size = 1 := by simpa [hq] using hs
    rw [hcl] at hl
    simp [Builtin.copy_, run_underlying hu, Builtin.lenOf, Builtin.firstCells, sizeOf, typeInfo, hq, hi, ← hmin, hl, hst]

/-- Numbers to hand in, two others behind them. -/
def lentObj (xs : List Int) : Obj := .cells (ints xs ++ [Value.int .i64 77, Value.int .i64 78]).toArray 3

theorem two_of {l : List Value} (h : l.length = 2) : ∃ a b, l = [a, b] := by
  match l, h with
  | [a, b], _ => exact ⟨a, b, rfl⟩

set_option maxRecDepth 100000 in
set_option maxRecDepth 100000 in
set_option maxHeartbeats 1000000 in
theorem lent_any (v : Value) (xs : List Int) (w : World) (hv : IntSl w v xs) (hb : xs.length ≤ 17592186044416) :
    Calls Tryz.prog 45 #[v] w fun e w' => e = .returned (.slice (some ⟨w.heap.size, 0, none⟩) (xs.length + 2) (xs.length + 2)) ∧ w'.heap[w.heap.size]? = some (lentObj xs) ∧ w.grownBy w' none := by
  obtain ⟨i0, hi, hz0, hz1, hz2⟩ := info_parts Tryz.info3
  have hinfo : (Tryz.prog.info? 3).map (·.size) = some 1 := by rw [hi]; simp [hz1]
  have HI : Hid (Tryz.prog.info? 3 = some i0 ∧ i0.zero = some (.int .i64 0) ∧ i0.size = 1 ∧ i0.bytes = 8) := ⟨hi, hz0, hz1, hz2⟩
  obtain ⟨sa, ca, rfl, hca, hxs⟩ := hv
  clear hi hz0 hz1 hz2
  go_enter Tryz.func45, Tryz.ntmps45
  go_wp2_with (at_make; refine wpList_make_full _ rfl _ _ 26 rfl w.heap.size 3 i0 (.int .i64 0) 1 Tryz.underlying26 HI.out.1 HI.out.2.1 HI.out.2.2.1 .i64 .i64 _ _ (xs.length + 2) rfl rfl (by go_num) (by go_num) (by rw [HI.out.2.2.2]; omega) (by unfold maxLen; omega) (Nat.le_refl _) ?_; intro w0 own0 g0)
  obtain ⟨cur, hg, hcs⟩ : ∃ cur, w0.heap[w.heap.size]? = some (.cells cur 3) ∧ cur.size = xs.length + 2 := by
    rcases own0.2 with ⟨h1, _⟩ | ⟨g', cap', cur, h1, h2, h3, h4, h5, h6, h7⟩
    · simp at h1
    · simp at h1; obtain ⟨rfl, rfl⟩ := h1; exact ⟨cur, h3, by simpa using h6⟩
  have hz : w.heap.size < w0.heap.size := lt_of hg
  obtain ⟨a, b, hab⟩ := two_of (l := cur.toList.drop xs.length) (by simp [hcs])
  have hcopy : ∃ W, (∀ ty, ∃ r, (Builtin.copy_ #[26, 26] ty #[.slice (some ⟨w.heap.size, 0, none⟩) (xs.length + 2) (xs.length + 2), .slice sa xs.length ca]).run Tryz.prog w0 = .ok r W) ∧ W.heap[w.heap.size]? = some (.cells (ints xs ++ [a, b]).toArray 3) ∧ w.grownBy W none := by
    cases sa with
    | none =>
      have hx0 : xs = [] := by
        rcases hxs with h | ⟨b1, o1, h, _⟩
        · exact h
        · cases h
      subst hx0
      refine ⟨w0, fun ty => ⟨goInt 0, ?_⟩, ?_, g0⟩
      · simp [Builtin.copy_, run_underlying Tryz.underlying26, Builtin.lenOf, Builtin.firstCells, sizeOf, typeInfo, HI.out.1, storeCells]
      · rw [hg]
        simp only [List.length_nil, List.drop_zero] at hab
        simp [ints, ← hab]
    | some ad =>
      have hsrc : ∀ j u, (ints xs)[j]? = some u → w0.cell? (ad.add j) = some u := by
        intro j u hj
        rcases hxs with h | ⟨b1, o1, h, hI⟩
        · subst h; simp [ints] at hj
        · cases h
          have hjl : j < xs.length := by
            have := (List.getElem?_eq_some_iff.1 hj).1
            simpa [ints] using this
          rw [Addr.add_lit, gb_cell g0 (hI j hjl) (by simp)]
          simp [ints, hjl] at hj
          rw [hj]
      refine ⟨w0.setRow w.heap.size (ints xs ++ [a, b]).toArray, fun ty => ⟨goInt xs.length, ?_⟩, setRow_heap w0 _ cur _ 3 (0, 0) hg, ?_⟩
      · rw [run_copy_whole w0 26 26 ty 3 w.heap.size (xs.length + 2) (xs.length + 2) ad xs.length ca cur 3 (ints xs) Tryz.underlying26 hinfo hg (by omega) (by simp [ints]) hsrc (by simp [ints]; omega) (ints_one _), ints_len, hab]
      · exact ⟨g0.os, g0.tape, g0.output, by simpa using g0.size, fun k hk hn => by rw [setRow_other _ _ _ _ (by omega)]; exact g0.block k hk hn⟩
  obtain ⟨W, hrun, hWg, gW⟩ := hcopy
  clear own0 hg hcs hab g0
  obtain ⟨r, hr⟩ := hrun 3
  have hlen : (ints xs ++ [a, b]).length = xs.length + 2 := by simp [ints]
  have c0 : W.cell? ⟨w.heap.size, xs.length, none⟩ = some a := by
    unfold World.cell?; simp only [hWg]; simp [ints]
  have c1 : W.cell? ⟨w.heap.size, xs.length + 1, none⟩ = some b := by
    unfold World.cell?; simp only [hWg]
    rw [List.getElem?_toArray, List.getElem?_append_right (by simp [ints])]; simp [ints]
  have z0 : W.frozen? ⟨w.heap.size, xs.length, none⟩ = false := by unfold World.frozen?; simp only [hWg]; simp
  have z1 : W.frozen? ⟨w.heap.size, xs.length + 1, none⟩ = false := by unfold World.frozen?; simp only [hWg]; simp
  have HW : Hid (((W.setCell ⟨w.heap.size, xs.length, none⟩ (.int .i64 77)).setCell ⟨w.heap.size, xs.length + 1, none⟩ (.int .i64 78)).heap[w.heap.size]? = some (lentObj xs)) := by
    show _ = _
    rw [text_set (text_set hWg _)]
    unfold lentObj
    congr 2
    apply Array.ext'
    have e1 : (ints xs ++ [a, b]).set xs.length (.int .i64 77) = ints xs ++ [.int .i64 77, b] := by
      rw [List.set_append, if_neg (by rw [ints_len]; omega), ints_len, Nat.sub_self]; rfl
    have e2 : (ints xs ++ [Value.int .i64 77, b]).set (xs.length + 1) (.int .i64 78) = ints xs ++ [.int .i64 77, .int .i64 78] := by
      rw [List.set_append, if_neg (by rw [ints_len]; omega), ints_len, show xs.length + 1 - xs.length = 1 from by omega]; rfl
    simp only [Array.toList_setIfInBounds]
    rw [e1, e2]
  have hb1 : (xs.length : Int) + 1 < (xs.length : Int) + 2 := by omega
  have htn : ((xs.length : Int) + 1).toNat = xs.length + 1 := by omega
  clear hrun hWg hlen hxs
  go_wp2_with (simp only [hr])
  go_ret
  exact ⟨rfl, HW.out, gb_on (gb_on gW (Nat.le_refl _)) (Nat.le_refl _)⟩

theorem lent_ints {w : World} {h : Nat} {xs : List Int} (hh : w.heap[h]? = some (lentObj xs)) : IntsAt w h 0 xs := by
  intro k hk
  unfold World.cell?
  simp only [hh, lentObj]
  rw [List.getElem?_toArray, Nat.zero_add, List.getElem?_append_left (by rw [ints_len]; exact hk)]
  simp [ints, hk]

set_option maxRecDepth 100000 in
set_option maxHeartbeats 400000 in
theorem part_any (v : Value) (xs : List Int) (h : Nat) (w : World) (hv : IntSl w v xs) (hh : w.heap[h]? = some (lentObj xs)) :
    Calls Tryz.prog 46 #[.slice (some ⟨h, 0, none⟩) (xs.length + 2) (xs.length + 2), v] w fun e w' => ∃ u, e = .returned u ∧ IntSl w u xs ∧ w' = w := by
  have HI : Hid (IntsAt w h 0 xs) := lent_ints hh
  obtain ⟨sa, ca, rfl, hca, hxs⟩ := hv
  have hq := fun (w : World) (a : Option Addr) (n c n' c' : Nat) => Lib.run_eql_slice_nil (P := Tryz.prog) w 26 3 a n c n' c' Tryz.underlying26
  clear hh
  cases sa with
  | none =>
    have HX : Hid (xs = []) := by
      rcases hxs with h | ⟨b1, o1, h, _⟩
      · exact h
      · cases h
    clear hxs
    go_enter Tryz.func46, Tryz.ntmps46
    go_wp2
    go_ret
    exact ⟨_, rfl, by rw [HX.out]; exact ⟨none, 0, rfl, Nat.le_refl _, Or.inl rfl⟩, rfl⟩
  | some ad =>
    have hb1 : (xs.length : Int) ≤ (xs.length : Int) + 2 := by omega
    clear hxs
    go_enter Tryz.func46, Tryz.ntmps46
    go_wp2
    go_ret
    exact ⟨_, rfl, ⟨_, _, rfl, by omega, Or.inr ⟨h, 0, rfl, HI.out⟩⟩, rfl⟩

end Go.Proofs.YtcfdemhokbddiaaGreatDoor

/-
  still: the numbers that were lent stand as they did; then the caller writes over them.
-/
namespace Go.Proofs.YtcfdemhokbddiaaGreatDoor
open Go.RowKit

/-- The numbers of a list that lies in another block than h. -/
def IntFar (w : World) (h : Nat) (v : Value) (xs : List Int) : Prop := ∃ sa cap, v = .slice sa xs.length cap ∧ (xs = [] ∨ ∃ b off, sa = some ⟨b, off, none⟩ ∧ b ≠ h ∧ IntsAt w b off xs)

set_option maxRecDepth 100000 in
set_option maxRecDepth 100000 in
set_option maxHeartbeats 1000000 in
theorem still_any (v : Value) (xs : List Int) (h : Nat) (w : World) (hv : IntFar w h v xs) (hh : w.heap[h]? = some (lentObj xs)) (hb : xs.length ≤ 17592186044416) :
    Calls Tryz.prog 48 #[.slice (some ⟨h, 0, none⟩) (xs.length + 2) (xs.length + 2), v] w fun e w' => e = .returned (.bool true) ∧ w.grownBy w' (some h) := by
  have HI : Hid (IntsAt w h 0 xs) := lent_ints hh
  obtain ⟨sa, ca, rfl, hxs⟩ := hv
  have c0 : w.cell? ⟨h, xs.length, none⟩ = some (.int .i64 77) := by
    unfold World.cell?; simp only [hh, lentObj]
    rw [List.getElem?_toArray, List.getElem?_append_right (by rw [ints_len]; omega)]; simp [ints]
  have c1 : w.cell? ⟨h, xs.length + 1, none⟩ = some (.int .i64 78) := by
    unfold World.cell?; simp only [hh, lentObj]
    rw [List.getElem?_toArray, List.getElem?_append_right (by rw [ints_len]; omega)]; simp [ints]
  have hb1 : (xs.length : Int) + 1 < (xs.length : Int) + 2 := by omega
  have htn : ((xs.length : Int) + 1).toNat = xs.length + 1 := by omega
  have HH : Hid (w.heap[h]? = some (lentObj xs)) := hh
  clear hh
  go_enter Tryz.func48, Tryz.ntmps48
  go_wp2_with fail
  clear htn c0 c1
  go_loopw [5, 6] (fun ok i wr => ∃ k : Nat, i = .int .i64 (k : Int) ∧ k ≤ xs.length ∧ ok = .bool true ∧ ∃ q, wr = w.drewN q) (fun _ i _ => xs.length - (intOf i).toNat)
  case atStart => exact ⟨0, rfl, Nat.zero_le _, rfl, 0, rfl⟩
  case round =>
    obtain ⟨k, rfl, hk, rfl, q, rfl⟩ := hrel
    by_cases hlt : k < xs.length
    · rcases hxs with e | ⟨b1, o1, rfl, hne, hI⟩
      · rw [e] at hlt; simp at hlt
      have d1 := HI.out k hlt
      rw [Nat.zero_add] at d1
      have d2 := hI k hlt
      obtain ⟨x, hx⟩ : ∃ x, xs[k] = x := ⟨_, rfl⟩
      rw [hx] at d1 d2
      have hki : (k : Int) < (xs.length : Int) := by omega
      have hki2 : (k : Int) < (xs.length : Int) + 2 := by omega
      have hxx : (x == x) = true := by simp
      clear hx hI
      go_wp2_with fail
      go_quiet (fail)
      go_wp2
      go_roundw
      case rel => exact ⟨k + 1, by go_num, by omega, by simp, by first | exact ⟨_, rfl⟩ | exact drew2 _ _ _⟩
      case measure => simp [intOf]; omega
    · have hki : ¬ (k : Int) < (xs.length : Int) := by omega
      go_wp2_with fail
      go_loopw [7] (fun i wr => ∃ (j : Nat) (cs : Array Value), i = .int .i64 (j : Int) ∧ j ≤ xs.length + 2 ∧ wr.heap[h]? = some (.cells cs 3) ∧ cs.size = xs.length + 2 ∧ w.grownBy wr (some h)) (fun i _ => xs.length + 2 - (intOf i).toNat)
      case atStart => exact ⟨0, _, rfl, Nat.zero_le _, HH.out, by simp [ints], gb_drewN _ _ _⟩
      case round =>
        obtain ⟨j, cs, rfl, hj, hcs, hsz, hg⟩ := hrel
        by_cases hlt2 : j < xs.length + 2
        · have e0 : wr.cell? ⟨h, j, none⟩ = some (cs[j]'(by omega)) := by
            unfold World.cell?; simp only [hcs]; simp [show j < cs.size by omega]
          have f0 : wr.frozen? ⟨h, j, none⟩ = false := by unfold World.frozen?; simp only [hcs]; simp
          have hji : (j : Int) < (xs.length : Int) + 2 := by omega
          have HS : Hid ((wr.setCell ⟨h, j, none⟩ (.int .i64 5)).heap[h]? = some (.cells (cs.setIfInBounds j (.int .i64 5)) 3)) := text_set hcs _
          have HZ : Hid ((cs.setIfInBounds j (.int .i64 5)).size = xs.length + 2) := by
            show _ = _
            simpa using hsz
          clear hcs
          go_wp2
          go_roundw
          case rel => exact ⟨j + 1, _, by go_num, by omega, HS.out, HZ.out, gb_s hg⟩
          case measure => simp [intOf]; omega
        · have hji : ¬ (j : Int) < (xs.length : Int) + 2 := by omega
          clear hcs
          go_wp2
          go_ret
          exact ⟨rfl, hg⟩

end Go.Proofs.YtcfdemhokbddiaaGreatDoor
