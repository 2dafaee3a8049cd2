/-
  What a board tells, as plain data: its families; what Family, Change and Drop answer and leave.
-/
import Derived.Test.YtcfdemhokbddiaaGreatDoorQKo

namespace Go.Proofs.YtcfdemhokbddiaaGreatDoor
open Go.RowKit

/-- A family as it is told of: its name, kind, limits, series. -/
structure Fam where
  nm : List UInt8
  kind : Int
  ls : List Int
  ser : List Cnt
instance : Inhabited Cnt := ⟨⟨[], 0, 0, []⟩⟩
instance : Inhabited Fam := ⟨⟨[], 0, [], []⟩⟩
def GF.view (g : GF) : Fam := ⟨g.nm, g.kind, g.ls, g.ser.map GC.x⟩
def GT.view (t : GT) : List Fam := t.fams.map GF.view

/-- The board t has become t'. -/
structure Out (m : Nat) (t t' : GT) (w w' : World) : Prop where
  at_ : GT.At w' t'
  ok : GT.Ok m t'
  b : t'.b = t.b
  kept : Kept t.own w w'
  sub : ∀ x ∈ t'.own, x ∈ t.own ∨ w.heap.size ≤ x
theorem Out.same {m : Nat} {t : GT} {w w' : World} (h : GT.At w t) (ho : GT.Ok m t) (hg : w.grownBy w' none) : Out m t t w w' :=
  ⟨h.gb hg, ho, rfl, Kept.of_none hg _, fun _ hx => Or.inl hx⟩
theorem Out.from {m : Nat} {t t' : GT} {w w1 w' : World} (hg : w.grownBy w1 none) (h : Out m t t' w1 w') : Out m t t' w w' :=
  ⟨h.at_, h.ok, h.b, (Kept.of_none hg _).trans h.kept, fun x hx => by
    rcases h.sub x hx with h1 | h1
    · exact Or.inl h1
    · exact Or.inr (Nat.le_trans hg.size h1)⟩
theorem Out.to {m : Nat} {t t' : GT} {w w1 w' : World} (h : Out m t t' w w1) (hg : w1.grownBy w' none) : Out m t t' w w' :=
  ⟨h.at_.gb hg, h.ok, h.b, h.kept.trans (Kept.of_none hg _), h.sub⟩
theorem Upd.out {m : Nat} {t t' : GT} {w w' : World} {F : List GF} (h : Upd t t' w w' F) (ho : GT.Ok m t) {m' : Nat} (hm : m ≤ m') (hF : MomOk m' F) (ha : ∀ g ∈ F, g.age ≤ t.age) : Out m' t t' w w' :=
  ⟨h.at_, ⟨by rw [h.fams]; exact hF.srt, by rw [h.fams]; exact hF.len, by rw [h.fams]; exact hF.each, by rw [h.fams]; exact hF.names, by rw [h.fams]; exact hF.total, by rw [h.age]; exact Nat.le_trans ho.age hm, h.lage ho.lage, by rw [h.fams, h.age]; exact ha, by rw [h.rds]; exact ho.rlen, by rw [h.rds]; exact fun r hr => (ho.rok r hr).mono hm⟩, h.b, h.kept, h.sub⟩

theorem B_self (s : ByteArray) : B s.data.toList = s := by
  apply ByteArray.ext
  simp [B]
theorem data_B (l : List UInt8) : (B l).data.toList = l := by simp [B]

/-- What Family answers, and the families behind it. -/
def famP (T : List Fam) (nm : List UInt8) (kind : Int) (xs : List Int) : Int × List Fam :=
  if isNameB nm = false then (2, T) else if fitB kind xs = false then (4, T) else
  if kfnd lt nm (T.map Fam.nm) = true then (remP kind (T.getD (kplace lt nm (T.map Fam.nm)) default).kind xs (T.getD (kplace lt nm (T.map Fam.nm)) default).ls, T) else
  if 8 ≤ T.length then (7, T) else (0, kins T (kplace lt nm (T.map Fam.nm)) ⟨nm, kind, xs, []⟩)
def sizeOfAll (T : List Fam) : Nat := (T.map fun f => f.ser.length).sum
/-- What a change does to the family at i, under the plain form p. -/
def chgAt (T : List Fam) (i : Nat) (p : List UInt8) (n : Int) : Int × List Fam :=
  if takesB (T.getD i default).kind n = false then (4, T) else
  if kfnd lt p ((T.getD i default).ser.map Cnt.plain) = true then
    (0, T.set i { T.getD i default with ser := (T.getD i default).ser.set (kplace lt p ((T.getD i default).ser.map Cnt.plain)) (countP (T.getD i default).kind (T.getD i default).ls n ((T.getD i default).ser.getD (kplace lt p ((T.getD i default).ser.map Cnt.plain)) default)) })
  else if 24 ≤ sizeOfAll T then (7, T) else
    (0, T.set i { T.getD i default with ser := kins (T.getD i default).ser (kplace lt p ((T.getD i default).ser.map Cnt.plain)) (countP (T.getD i default).kind (T.getD i default).ls n (zeroCnt p)) })
/-- What Change answers, and the families behind it. -/
def chgP (T : List Fam) (l : List UInt8) (n : Int) : Int × List Fam :=
  if (readP l).err ≠ 0 then (((readP l).err : Int), T) else
  if kfnd lt (readP l).name (T.map Fam.nm) = false then (6, T) else chgAt T (kplace lt (readP l).name (T.map Fam.nm)) (plainP l) n
def drpAt (T : List Fam) (i : Nat) (p : List UInt8) : Int × List Fam :=
  if kfnd lt p ((T.getD i default).ser.map Cnt.plain) = false then (6, T) else
    (0, T.set i { T.getD i default with ser := cut1 (T.getD i default).ser (kplace lt p ((T.getD i default).ser.map Cnt.plain)) })
/-- What Drop answers, and the families behind it. -/
def drpP (T : List Fam) (l : List UInt8) : Int × List Fam :=
  if (readP l).err ≠ 0 then (((readP l).err : Int), T) else
  if kfnd lt (readP l).name (T.map Fam.nm) = false then (6, T) else drpAt T (kplace lt (readP l).name (T.map Fam.nm)) (plainP l)

theorem fit_facts {kind : Int} {xs : List Int} (h : fitB kind xs = true) : (kind = 1 ∨ kind = 2 ∨ kind = 3) ∧ xs.length ≤ 4 ∧ KSrt ltI xs := by
  unfold fitB at h
  split at h
  · rename_i hk
    have e : xs = [] := of_decide_eq_true h
    subst e
    refine ⟨?_, by simp, List.Pairwise.nil⟩
    rcases hk with h | h
    · exact Or.inl h
    · exact Or.inr (Or.inl h)
  · split at h
    · rename_i hk
      simp only [Bool.and_eq_true, decide_eq_true_eq] at h
      exact ⟨Or.inr (Or.inr hk), h.1.2, (riseB_iff xs).1 h.2.1⟩
    · cases h
theorem srt_last {x : Int} : ∀ {xs : List Int}, KSrt ltI (x :: xs) → ∀ y ∈ x :: xs, x ≤ y ∧ y ≤ (x :: xs).getLastD 0
  | [], _, y, hy => by simp at hy; simp [hy]
  | z :: xs, h, y, hy => by
    have h' := h
    unfold KSrt at h'
    rw [List.pairwise_cons] at h'
    have hz : x < z := by simpa [ltI] using h'.1 z (by simp)
    have ih := srt_last (x := z) h'.2
    have hl : (x :: z :: xs).getLastD 0 = (z :: xs).getLastD 0 := by simp
    rw [hl]
    rcases List.mem_cons.1 hy with rfl | hy
    · have := ih z (by simp); omega
    · have := ih y hy; omega
theorem fit_bound {kind : Int} {xs : List Int} (h : fitB kind xs = true) : ∀ x ∈ xs, -1000000000 ≤ x ∧ x ≤ 1000000000 := by
  unfold fitB at h
  split at h
  · have e : xs = [] := of_decide_eq_true h
    subst e; simp
  · split at h
    · simp only [Bool.and_eq_true, decide_eq_true_eq] at h
      obtain ⟨_, hr, hh, hl⟩ := h
      cases xs with
      | nil => simp
      | cons a xs =>
        intro x hx
        obtain ⟨h1, h2⟩ := srt_last ((riseB_iff _).1 hr) x hx
        have hh' : -1000000000 ≤ a ∧ a ≤ 1000000000 := by simpa [inB] using hh
        have hl' : -1000000000 ≤ (a :: xs).getLastD 0 ∧ (a :: xs).getLastD 0 ≤ 1000000000 := by unfold inB at hl; exact of_decide_eq_true hl
        exact ⟨Int.le_trans hh'.1 h1, Int.le_trans h2 hl'.2⟩
    · cases h
theorem isName_len {l : List UInt8} (h : isNameB l = true) : l.length ≤ 12 := by
  simp only [isNameB, Bool.and_eq_true, decide_eq_true_eq] at h
  have := nameLen_12 0 l (by omega)
  omega


theorem GT.Ok.mom {m : Nat} {t : GT} (h : GT.Ok m t) : MomOk m t.fams := ⟨h.srt, h.len, h.each, h.names, h.total⟩
theorem view_nm (t : GT) : t.view.map Fam.nm = t.fams.map GF.nm := by simp [GT.view, GF.view]
theorem ser_plain (g : GF) : g.view.ser.map Cnt.plain = g.ser.map fun c => c.x.plain := by simp [GF.view]
theorem place_split {t : GT} {m : Nat} {A B' : List GF} {g : GF} (ho : GT.Ok m t) (e0 : t.fams = A ++ g :: B') : kplace lt g.nm (t.fams.map GF.nm) = A.length ∧ kfnd lt g.nm (t.fams.map GF.nm) = true := by
  have hs := ho.srt
  refine ⟨kplace_of lt _ _ A.length (by rw [e0]; simp) (fun k hk hlt => ?_) (fun k hk hge => ?_), (kfnd_iff ltB g.nm _ ho.srt).2 (List.mem_map_of_mem (by rw [e0]; simp))⟩
  · have := hs.get _ k A.length (by rw [e0]; simp) hlt
    simpa [e0] using this
  · by_cases e : k = A.length
    · subst e; simp [e0, lt_irrefl]
    · have := hs.get _ A.length k hk (by omega)
      have h2 : (t.fams.map GF.nm)[A.length]'(by rw [e0]; simp) = g.nm := by simp [e0]
      rw [h2] at this
      exact lt_asymm _ _ this
theorem no_split {t : GT} {m : Nat} {nm : List UInt8} (ho : GT.Ok m t) (hno : ∀ g ∈ t.fams, g.nm ≠ nm) : kfnd lt nm (t.fams.map GF.nm) = false := by
  cases hq : kfnd lt nm (t.fams.map GF.nm) with
  | false => rfl
  | true =>
    have := (kfnd_iff ltB nm _ ho.srt).1 hq
    rw [List.mem_map] at this
    obtain ⟨g, hg, e⟩ := this
    exact absurd e (hno g hg)
theorem dist_split {t : GT} {m : Nat} {A B' : List GF} {g : GF} (ho : GT.Ok m t) (e0 : t.fams = A ++ g :: B') : ∀ k, k ∈ A ∨ k ∈ B' → k.nm ≠ g.nm := by
  intro k hk e
  have hs := ho.srt
  rw [e0] at hs
  unfold KSrt at hs
  simp only [List.map_append, List.map_cons, List.pairwise_append, List.pairwise_cons, List.mem_map, List.mem_cons] at hs
  rcases hk with hk | hk
  · have := hs.2.2 _ ⟨k, hk, rfl⟩ _ (Or.inl rfl)
    rw [e, lt_irrefl] at this; cases this
  · have := hs.2.1.1 _ ⟨k, hk, rfl⟩
    rw [e, lt_irrefl] at this; cases this
theorem find_split {t : GT} {nm : List UInt8} (h : ¬ ∀ g ∈ t.fams, g.nm ≠ nm) : ∃ A g B', t.fams = A ++ g :: B' ∧ g.nm = nm := by
  have : ∃ g, g ∈ t.fams ∧ g.nm = nm := by
    refine Classical.byContradiction fun hn => h fun g hg e => hn ⟨g, hg, e⟩
  obtain ⟨g, hg, e⟩ := this
  obtain ⟨A, B', e2⟩ := List.append_of_mem hg
  exact ⟨A, g, B', e2, e⟩
theorem view_at {t : GT} {A B' : List GF} {g : GF} (e0 : t.fams = A ++ g :: B') : t.view.getD A.length default = g.view := by
  simp [GT.view, e0]

/-- The board with one family more. -/
theorem made_upd {m : Nat} {t : GT} {w w1 w4 : World} (h : GT.At w t) (ho : GT.Ok m t) (nm : List UInt8) (kind : Int) (xs : List Int) (hname : isNameB nm = true) (hfit : fitB kind xs = true) (hno : ∀ g ∈ t.fams, g.nm ≠ nm) (h8 : t.fams.length < 8)
    (f : Nat) (lv : Value) (hf : w.heap.size ≤ f) (hfb : w1.heap[f]? = some (famObj t.age nm kind lv (.slice none 0 0))) (hlv : w1.ownsRow w.heap.size 3 1 lv xs.length (ints xs)) (g1 : w.grownBy w1 none)
    (nb cap : Nat) (hnb : w1.heap.size ≤ nb) (g4 : w1.grownBy w4 none)
    (hrow : w4.ownsRow nb 112 1 (.slice (some ⟨nb, 0, none⟩) (t.fams.length + 1) cap) (t.fams.length + 1) (ptrs (kins (t.fams.map GF.b) (kplace lt nm (t.fams.map GF.nm)) f))) :
    ∃ t', Out m t t' w ((w4.setCell ⟨t.b, 2, none⟩ (.slice (some ⟨nb, 0, none⟩) (t.fams.length + 1) cap)).setCell ⟨t.b, 1, none⟩ (.int .i64 (t.age : Int))) ∧ t'.rds = t.rds ∧ t'.view = kins t.view (kplace lt nm (t.fams.map GF.nm)) ⟨nm, kind, xs, []⟩ := by
  have g14 := gb_trans g1 g4
  have htl := lt_of h.blk
  have hfl := lt_of hfb
  obtain ⟨hk, hx4, hxs⟩ := fit_facts hfit
  obtain ⟨i, hi⟩ : ∃ i, kplace lt nm (t.fams.map GF.nm) = i := ⟨_, rfl⟩
  have hil : i ≤ t.fams.length := by rw [← hi]; have := kplace_le lt nm (t.fams.map GF.nm); simpa using this
  have hsrt := ksrt_ins ltB _ _ ho.srt (no_split ho hno)
  rw [hi] at hrow hsrt ⊢
  obtain ⟨w6, hw6⟩ : ∃ w6, (w4.setCell ⟨t.b, 2, none⟩ (.slice (some ⟨nb, 0, none⟩) (t.fams.length + 1) cap)).setCell ⟨t.b, 1, none⟩ (.int .i64 (t.age : Int)) = w6 := ⟨_, rfl⟩
  have hb4 := (g14.block t.b htl (by simp)).trans h.blk
  have h6b : w6.heap[t.b]? = some (brdObj t.age t.age (.slice (some ⟨nb, 0, none⟩) (t.fams.length + 1) cap) (t.rds.map rdPtr)) := by rw [← hw6]; exact brd_set1 (brd_set2 hb4 _) _
  have h6 : ∀ b, b ≠ t.b → w6.heap[b]? = w4.heap[b]? := fun b hne => by
    rw [← hw6, Below.heap_setCell _ _ _ _ (by show b ≠ t.b; exact hne), Below.heap_setCell _ _ _ _ (by show b ≠ t.b; exact hne)]
  have hz6 : w6.heap.size = w4.heap.size := by rw [← hw6]; simp
  have hs1 := g1.size
  have hs4 := g4.size
  have hnb4 : nb < w4.heap.size := own_lt hrow nb (by simp [Value.ownBlock])
  have hlvlt : ∀ b ∈ lv.ownBlock.toList, w.heap.size ≤ b ∧ b < w1.heap.size := fun b hb => by
    have hb' : lv.ownBlock = some b := by simpa using hb
    exact ⟨(hlv.lt b hb').1, (hlv.lt b hb').2⟩
  have hflv : ∀ b ∈ lv.ownBlock.toList, b ≠ f := by
    intro b hb e
    have hb' : lv.ownBlock = some b := by simpa using hb
    rcases hlv.2 with ⟨e1, _⟩ | ⟨g', cap', cur, e1, _, e2, _⟩
    · rw [e1] at hb'; cases hb'
    · rw [e1] at hb'
      have : g' = b := by simpa [Value.ownBlock] using hb'
      rw [this, e, hfb] at e2
      simp [famObj] at e2
  have hkept : Kept [t.b] w w6 := by
    rw [← hw6]
    exact ((Kept.of_none g14 [t.b]).trans (Kept.of_some (gb_setCell _ _ _ _) _ (Or.inl (by simp)))).trans (Kept.of_some (gb_setCell _ _ _ _) _ (Or.inl (by simp)))
  have e3 : (kins t.fams i (⟨f, t.age, nm, kind, lv, xs, .slice none 0 0, []⟩ : GF)).length = t.fams.length + 1 := kins_len _ _ _ hil
  have hrow6 : w6.ownsRow 0 112 1 (.slice (some ⟨nb, 0, none⟩) (t.fams.length + 1) cap) (kins t.fams i (⟨f, t.age, nm, kind, lv, xs, .slice none 0 0, []⟩ : GF)).length (ptrs ((kins t.fams i (⟨f, t.age, nm, kind, lv, xs, .slice none 0 0, []⟩ : GF)).map GF.b)) := by
    rw [e3, kins_map]
    exact own_base0 (own_frame hrow fun b hb => h6 b (by
      have e : b = nb := by simpa [Value.ownBlock] using hb
      omega))
  have hu := upd_list (w' := w6) h (kins t.fams i ⟨f, t.age, nm, kind, lv, xs, .slice none 0 0, []⟩) (.slice (some ⟨nb, 0, none⟩) (t.fams.length + 1) cap) (fun b => if b = nb then .lst else if b = f then .fam nm else .shr) h6b hrow6
    (fun b hb => by
      have e : b = nb := by simpa [Value.ownBlock] using hb
      rw [e, patch_new (by omega) (by omega), if_pos rfl])
    (fun k hk => by
      rcases kins_mem hk with rfl | hk
      · right
        refine ⟨⟨?_, ?_, ?_, by simp⟩, rfl, ?_, ?_, ?_, by simp⟩
        · show w6.heap[f]? = some (famObj t.age nm kind lv (.slice none 0 0))
          rw [h6 f (by omega), g4.block f hfl (by simp)]; exact hfb
        · exact own_base0 (own_frame hlv fun b hb => (h6 b (by have := hlvlt b hb; omega)).trans (g4.block b (hlvlt b hb).2 (by simp)))
        · exact ⟨rfl, Or.inl ⟨rfl, rfl⟩⟩
        · show patch _ _ _ _ f = .fam nm
          rw [patch_new hf (by omega), if_neg (by omega), if_pos rfl]
        · intro b hb
          have := hlvlt b hb
          rw [patch_new this.1 (by omega), if_neg (by omega), if_neg (hflv b hb)]
        · intro b hb
          simp [Value.ownBlock] at hb
      · exact Or.inl hk)
    [t.b] hkept (fun b hb => by
      have : b = t.b := by simpa using hb
      rw [this]; exact Or.inl h.labB)
  rw [hw6]
  refine ⟨_, hu.out ho (Nat.le_refl m) ⟨?_, ?_, ?_, ?_, ?_⟩ ?_, rfl, ?_⟩
  · rw [kins_map]; exact hsrt
  · rw [e3]; omega
  · intro g hg
    rcases kins_mem hg with rfl | hg
    · exact ⟨hk, ⟨hx4, hxs⟩, List.Pairwise.nil, by simp, by simp, by simp, fit_bound hfit⟩
    · exact ho.each g hg
  · intro g hg
    rcases kins_mem hg with rfl | hg
    · exact isName_len hname
    · exact ho.names g hg
  · have := ho.total
    rw [← List.take_append_drop i t.fams] at this
    simp only [kins, List.map_append, List.map_cons, List.sum_append, List.sum_cons] at this ⊢
    simpa using this
  · intro g hg
    rcases kins_mem hg with rfl | hg
    · exact Nat.le_refl _
    · exact ho.ages g hg
  · show (kins t.fams i _).map GF.view = _
    rw [kins_map]; rfl

end Go.Proofs.YtcfdemhokbddiaaGreatDoor

/-
  Tally.Family, walked.
-/
namespace Go.Proofs.YtcfdemhokbddiaaGreatDoor
open Go.RowKit

theorem intSl_shape {w : World} {v : Value} {xs : List Int} (h : IntSl w v xs) : ∃ sa ca, v = .slice sa xs.length ca := by
  obtain ⟨sa, ca, h, _⟩ := h; exact ⟨sa, ca, h⟩

set_option maxRecDepth 100000 in
set_option maxHeartbeats 1000000 in
theorem tallyFamily_any (t : GT) (nm : List UInt8) (kind : Int) (v : Value) (xs : List Int) (m : Nat) (w : World) (h : GT.At w t) (ho : GT.Ok m t) (hv : IntSl w v xs) (hm : xs.length ≤ 9223372036854775807) :
    Calls Tryz.prog 57 #[.pointer (some ⟨t.b, 0, none⟩), .string (B nm), .int .i64 kind, v] w fun e w' => ∃ t' code, e = .returned (.int .i64 code) ∧ Out m t t' w w' ∧ t'.rds = t.rds ∧ (code, t'.view) = famP t.view nm kind xs := by
  have HH : Hid (GT.At w t) := h
  have HO : Hid (GT.Ok m t) := ho
  have HV : Hid (IntSl w v xs) := hv
  obtain ⟨sa, ca, rfl⟩ := intSl_shape hv
  have hIN := isName_any (B nm) w
  rw [data_B] at hIN
  have HIN : Hid (Calls Tryz.prog 58 #[.string (B nm)] w _) := hIN
  have HLen : Hid (t.fams.length ≤ 8) := ho.len
  clear h ho hv hIN
  cases hname : isNameB nm with
  | false =>
    have HP : Hid ((2, t.view) = famP t.view nm kind xs) := by show _ = _; unfold famP; rw [if_pos hname]
    rw [hname] at HIN
    clear hname
    go_enter Tryz.func57, Tryz.ntmps57
    go_wp2_with fail
    refine HIN.out.mono ?_
    rintro e w1 ⟨rfl, g1⟩
    go_wp2
    go_ret
    exact ⟨t, _, rfl, .same HH.out HO.out g1, rfl, HP.out⟩
  | true =>
    have HN : Hid (isNameB nm = true) := hname
    have hN1 : ¬ isNameB nm = false := by rw [hname]; simp
    have HN1 : Hid (¬ isNameB nm = false) := hN1
    rw [hname] at HIN
    clear hname hN1
    have hnl := isName_len HN.out
    cases hfit : fitB kind xs with
    | false =>
      have HP : Hid ((4, t.view) = famP t.view nm kind xs) := by show _ = _; unfold famP; rw [if_neg HN1.out, if_pos hfit]
      have HLF : Hid (∀ w1, w.grownBy w1 none → Calls Tryz.prog 87 #[.int .i64 kind, .slice sa xs.length ca] w1 fun e w' => e = .returned (.bool false) ∧ w1.grownBy w' none) := fun w1 g1 => by
        have := limitsFit_any kind _ xs w1 (HV.out.gb g1)
        rw [hfit] at this; exact this
      clear hfit
      go_enter Tryz.func57, Tryz.ntmps57
      go_wp2_with fail
      refine HIN.out.mono ?_
      rintro e w1 ⟨rfl, g1⟩
      go_wp2_with fail
      refine (HLF.out _ g1).mono ?_
      rintro e w2 ⟨rfl, g2⟩
      have G2 := gb_trans g1 g2
      go_wp2
      go_ret
      exact ⟨t, _, rfl, .same HH.out HO.out G2, rfl, HP.out⟩
    | true =>
      have HF : Hid (fitB kind xs = true) := hfit
      have hF1 : ¬ fitB kind xs = false := by rw [hfit]; simp
      have HF1 : Hid (¬ fitB kind xs = false) := hF1
      have HLF : Hid (∀ w1, w.grownBy w1 none → Calls Tryz.prog 87 #[.int .i64 kind, .slice sa xs.length ca] w1 fun e w' => e = .returned (.bool true) ∧ w1.grownBy w' none) := fun w1 g1 => by
        have := limitsFit_any kind _ xs w1 (HV.out.gb g1)
        rw [hfit] at this; exact this
      clear hfit hF1
      by_cases hno : ∀ g ∈ t.fams, g.nm ≠ nm
      · have HNO : Hid (∀ g ∈ t.fams, g.nm ≠ nm) := hno
        have hnf := no_split HO.out hno
        have HNF : Hid (¬ kfnd lt nm (t.view.map Fam.nm) = true) := by show ¬ _; rw [view_nm, hnf]; simp
        clear hno hnf
        by_cases h8 : 8 ≤ t.fams.length
        · have h8' : (8 : Int) ≤ (t.fams.length : Int) := by omega
          have HP : Hid ((7, t.view) = famP t.view nm kind xs) := by
            show _ = _; unfold famP; rw [if_neg HN1.out, if_neg HF1.out, if_neg HNF.out, if_pos (by simp [GT.view]; omega)]
          go_enter Tryz.func57, Tryz.ntmps57
          go_wp2_with fail
          refine HIN.out.mono ?_
          rintro e w1 ⟨rfl, g1⟩
          go_wp2_with fail
          refine (HLF.out _ g1).mono ?_
          rintro e w2 ⟨rfl, g2⟩
          have G2 := gb_trans g1 g2
          go_wp2_with fail
          refine (tFamily_no t nm m _ (HH.out.gb G2) HO.out HNO.out).mono ?_
          rintro e w3 ⟨rfl, g3⟩
          have G3 := gb_trans G2 g3
          have hat := HH.out.gb G3
          obtain ⟨_, _, c0⟩ := tally_cells hat.blk
          obtain ⟨fa, fc, hfv, _, _⟩ := own_shape1 hat.rows
          rw [hfv] at c0
          clear hfv hat
          go_wp2
          go_ret
          exact ⟨t, _, rfl, .same HH.out HO.out G3, rfl, HP.out⟩
        · have h8' : ¬ (8 : Int) ≤ (t.fams.length : Int) := by omega
          have h8n : t.fams.length < 8 := by omega
          have HP : Hid ((0, kins t.view (kplace lt nm (t.fams.map GF.nm)) ⟨nm, kind, xs, []⟩) = famP t.view nm kind xs) := by
            show _ = _; unfold famP; rw [if_neg HN1.out, if_neg HF1.out, if_neg HNF.out, if_neg (by simp [GT.view]; omega), view_nm]
          have hx4 := (fit_facts HF.out).2.1
          go_enter Tryz.func57, Tryz.ntmps57
          go_wp2_with fail
          refine HIN.out.mono ?_
          rintro e w1 ⟨rfl, g1⟩
          go_wp2_with fail
          refine (HLF.out _ g1).mono ?_
          rintro e w2 ⟨rfl, g2⟩
          have G2 := gb_trans g1 g2
          go_wp2_with fail
          refine (tFamily_no t nm m _ (HH.out.gb G2) HO.out HNO.out).mono ?_
          rintro e w3 ⟨rfl, g3⟩
          have G3 := gb_trans G2 g3
          have hat := HH.out.gb G3
          obtain ⟨ca0, cl0, c0⟩ := tally_cells hat.blk
          have z1 := brd_froz hat.blk 1
          have z2 := brd_froz hat.blk 2
          obtain ⟨fa, fc, hfv, _, _⟩ := own_shape1 hat.rows
          have HFV : Hid (t.fv = .slice fa t.fams.length fc) := hfv
          have htl : t.b < w3.heap.size := lt_of hat.blk
          rw [hfv] at c0
          clear hfv hat g1 g2 g3
          go_wp2_with fail
          refine (newFamily_any t.age (B nm) kind _ xs _ (by simp [B, ByteArray.size]; omega) (HV.out.gb G3) hx4).mono ?_
          rintro e w4 ⟨f, lv, rfl, hf, hfb, hlv, g4⟩
          have G4 := gb_trans G3 g4
          have hat4 := HH.out.gb G4
          have hf0 : w4.cell? ⟨f, 1, none⟩ = some (.string (B nm)) := by simp [World.cell?, hfb]
          have ga := gb_alloc (gb_refl w4 none) (.cells #[.pointer (some ⟨f, 0, none⟩)] 112)
          have hat5 := hat4.gb ga
          obtain ⟨W5, hW5⟩ : ∃ W5, w4.alloc (.cells #[.pointer (some ⟨f, 0, none⟩)] 112) = W5 := ⟨_, rfl⟩
          have hz5 : W5.heap.size = w4.heap.size + 1 := by rw [← hW5]; simp
          have e6 : W5.cell? ⟨w4.heap.size, 0, none⟩ = some (.pointer (some ⟨f, 0, none⟩)) := by
            have h6 := alloc_new w4 (.cells #[.pointer (some ⟨f, 0, none⟩)] 112) _ rfl
            rw [hW5] at h6
            unfold World.cell?
            simp only [h6]
            rfl
          rw [hW5] at ga hat5
          have e5 : W5.cell? ⟨f, 1, none⟩ = some (.string (B nm)) := gb_cell ga hf0 (by simp)
          have hnf := no_split HO.out HNO.out
          have hlen8 := HLen.out
          have gd : W5.grownBy W5.drew none := gb_drew (gb_refl W5 none)
          have hat5d := hat5.gb gd
          have hT := togF_any t.fv 0 w4.heap.size 1 f (t.fams.map GF.b) (t.fams.map GF.nm) nm W5.drew (by simpa using hat5d.rows) (keyedF hat5d) (gb_cell gd e6 (by simp)) (gb_cell gd e5 (by simp)) (by simp; omega) HO.out.srt hnf
          simp only [List.length_map] at hT
          rw [HFV.out] at hT
          have HT : Hid (Calls Tryz.prog 90 #[.slice fa t.fams.length fc, .slice (some ⟨w4.heap.size, 0, none⟩) 1 1, .func (.func 91) #[] #[]] W5.drew fun e w' => ∃ nb cap, e = .returned (.slice (some ⟨nb, 0, none⟩) (t.fams.length + 1) cap) ∧ (∃ t', Out m t t' w ((w'.setCell ⟨t.b, 2, none⟩ (.slice (some ⟨nb, 0, none⟩) (t.fams.length + 1) cap)).setCell ⟨t.b, 1, none⟩ (.int .i64 (t.age : Int))) ∧ t'.rds = t.rds ∧ (0, t'.view) = famP t.view nm kind xs) ∧
              w'.cell? ⟨t.b, 0, none⟩ = some (.int .i64 (t.age : Int)) ∧ w'.cell? ⟨t.b, 1, none⟩ = some (.int .i64 (t.lage : Int)) ∧ w'.cell? ⟨t.b, 2, none⟩ = some (.slice fa t.fams.length fc) ∧ w'.frozen? ⟨t.b, 1, none⟩ = false ∧ w'.frozen? ⟨t.b, 2, none⟩ = false) := by
            refine hT.mono ?_
            rintro e w' ⟨rfl, own5, g5⟩
            have G5 := gb_trans (gb_trans ga gd) g5
            have hown5 : w'.ownsRow W5.heap.size 112 1 (.slice (some ⟨W5.heap.size, 0, none⟩) (t.fams.length + 1) (t.fams.length + 1)) (t.fams.length + 1) (ptrs (kins (t.fams.map GF.b) (kplace lt nm (t.fams.map GF.nm)) f)) := own5
            obtain ⟨t', k1, k2, k3⟩ := made_upd (HH.out.gb G3) HO.out nm kind xs HN.out HF.out HNO.out h8n f lv hf hfb hlv g4 W5.heap.size (t.fams.length + 1) (by omega) G5 hown5
            have G35 := gb_trans g4 G5
            exact ⟨_, _, rfl, ⟨t', .from G3 k1, k2, by rw [k3]; exact HP.out⟩, gb_cell G35 ca0 (by simp), gb_cell G35 cl0 (by simp), gb_cell G35 c0 (by simp), gb_froz G35 htl z1 (by simp), gb_froz G35 htl z2 (by simp)⟩
          have d0 := gb_cell (gb_trans g4 ga) c0 (by simp)
          have d1 := gb_cell (gb_trans g4 ga) ca0 (by simp)
          clear hT hat4 hat5 hat5d e5 e6 hnf hfb hlv hf0 c0 z1 z2 ca0 cl0 gd ga
          have HW5 : Hid (w4.alloc (.cells #[.pointer (some ⟨f, 0, none⟩)] 112) = W5) := hW5
          clear hW5
          go_upto_region 11 with fail
          rw [HW5.out]
          go_region_with (go_at_call 90; refine HT.out.mono ?_; rintro e w5 ⟨nb, cap, rfl, hout, m0, m1, m2, mz1, mz2⟩)
          all_goals
            go_wp2
            go_ret
            obtain ⟨t', k1, k2, k3⟩ := hout
            exact ⟨t', 0, rfl, k1, k2, k3⟩
      · obtain ⟨A, g, B', he, hgn⟩ := find_split hno
        have HE : Hid (t.fams = A ++ g :: B') := he
        have hgm : g ∈ t.fams := by rw [he]; simp
        have HGM : Hid (g ∈ t.fams) := hgm
        subst hgn
        obtain ⟨hp1, hp2⟩ := place_split HO.out he
        have HP : Hid ((remP kind g.kind xs g.ls, t.view) = famP t.view g.nm kind xs) := by
          show _ = _; unfold famP; rw [if_neg HN1.out, if_neg HF1.out, view_nm, if_pos hp2, hp1, view_at he]; rfl
        clear hno he hgm hp1 hp2
        go_enter Tryz.func57, Tryz.ntmps57
        go_wp2_with fail
        refine HIN.out.mono ?_
        rintro e w1 ⟨rfl, g1⟩
        go_wp2_with fail
        refine (HLF.out _ g1).mono ?_
        rintro e w2 ⟨rfl, g2⟩
        have G2 := gb_trans g1 g2
        go_wp2_with fail
        refine (tFamily_yes t A B' g m _ (HH.out.gb G2) HO.out HE.out).mono ?_
        rintro e w3 ⟨rfl, g3⟩
        have G3 := gb_trans G2 g3
        have hgat := (HH.out.gb G3).each g HGM.out
        have HR : Hid (Calls Tryz.prog 88 #[.pointer (some ⟨g.b, 0, none⟩), .int .i64 kind, .slice sa xs.length ca] w3 _) := remade_any g.b g.age g.nm g.kind kind g.lv g.sv _ g.ls xs w3 hgat.blk (.of hgat.lims) (HV.out.gb G3) hm
        clear hgat
        go_wp2_with fail
        refine HR.out.mono ?_
        rintro e w4 ⟨rfl, g4⟩
        have G4 := gb_trans G3 g4
        go_wp2
        go_ret
        exact ⟨t, _, rfl, .same HH.out HO.out G4, rfl, HP.out⟩

end Go.Proofs.YtcfdemhokbddiaaGreatDoor
