/-
  The three families of the keeps and their series, as plain data: what a change or a drop of one of them comes to. (No program.)
-/
import Derived.Test.YtcfdemhokbddiaaGreatDoorQUc

namespace Go.Proofs.YtcfdemhokbddiaaGreatDoor
open Go.RowKit

def nmH : List UInt8 := [104, 105, 116, 115]
def nmL : List UInt8 := [108, 111, 97, 100]
def nmW : List UInt8 := [119, 97, 105, 116]
def fname : Nat → List UInt8
  | 0 => nmH
  | 1 => nmL
  | _ => nmW
/-- The k-th series of the i-th family. -/
def serT (i k : Nat) : List UInt8 := if k = 0 then fname i else fname i ++ [123, 116, 111, 61, 34] ++ Lib.itoa (k : Int) ++ [34, 125]
/-- `hits{last="1"}` -/
def lastT : List UInt8 := [104, 105, 116, 115, 123, 108, 97, 115, 116, 61, 34, 49, 34, 125]
def aList (i : Nat) : List (List UInt8) := (List.range 5).map (serT i) ++ (if i = 0 then [lastT] else [])
theorem aList_len (i : Nat) : (aList i).length ≤ 6 := by unfold aList; split <;> simp
theorem ser_in (i k : Nat) (hk : k < 5) : serT i k ∈ aList i := by
  unfold aList
  exact List.mem_append_left _ (List.mem_map_of_mem (List.mem_range.2 hk))
theorem last_in : lastT ∈ aList 0 := by unfold aList; simp

/-- A text of the i-th family whose plain form is p. -/
structure Txt (i : Nat) (l p : List UInt8) : Prop where
  err : (readP l).err = 0
  name : (readP l).name = fname i
  plain : plainP l = p
theorem ser_txt (i k : Nat) (hi : i < 3) (hk : k < 5) : Txt i (serT i k) (serT i k) := by
  match i, hi, k, hk with
  | 0, _, 0, _ => exact ⟨by kernel_rfl, by kernel_rfl, by kernel_rfl⟩
  | 0, _, 1, _ => exact ⟨by kernel_rfl, by kernel_rfl, by kernel_rfl⟩
  | 0, _, 2, _ => exact ⟨by kernel_rfl, by kernel_rfl, by kernel_rfl⟩
  | 0, _, 3, _ => exact ⟨by kernel_rfl, by kernel_rfl, by kernel_rfl⟩
  | 0, _, 4, _ => exact ⟨by kernel_rfl, by kernel_rfl, by kernel_rfl⟩
  | 1, _, 0, _ => exact ⟨by kernel_rfl, by kernel_rfl, by kernel_rfl⟩
  | 1, _, 1, _ => exact ⟨by kernel_rfl, by kernel_rfl, by kernel_rfl⟩
  | 1, _, 2, _ => exact ⟨by kernel_rfl, by kernel_rfl, by kernel_rfl⟩
  | 1, _, 3, _ => exact ⟨by kernel_rfl, by kernel_rfl, by kernel_rfl⟩
  | 1, _, 4, _ => exact ⟨by kernel_rfl, by kernel_rfl, by kernel_rfl⟩
  | 2, _, 0, _ => exact ⟨by kernel_rfl, by kernel_rfl, by kernel_rfl⟩
  | 2, _, 1, _ => exact ⟨by kernel_rfl, by kernel_rfl, by kernel_rfl⟩
  | 2, _, 2, _ => exact ⟨by kernel_rfl, by kernel_rfl, by kernel_rfl⟩
  | 2, _, 3, _ => exact ⟨by kernel_rfl, by kernel_rfl, by kernel_rfl⟩
  | 2, _, 4, _ => exact ⟨by kernel_rfl, by kernel_rfl, by kernel_rfl⟩
theorem last_txt : Txt 0 lastT lastT := ⟨by kernel_rfl, by kernel_rfl, by kernel_rfl⟩

def famK (i : Nat) : Int := (i : Int) + 1
def famL (i : Nat) : List Int := if i = 2 then [10, 100] else []
/-- The families of the keeps, with series out of lists. -/
structure KV (A : Nat → List (List UInt8)) (V : List Fam) : Prop where
  len : V.length = 3
  nm : ∀ i, i < 3 → (V.getD i default).nm = fname i
  kind : ∀ i, i < 3 → (V.getD i default).kind = famK i
  ls : ∀ i, i < 3 → (V.getD i default).ls = famL i
  ser : ∀ i, ∀ c ∈ (V.getD i default).ser, c.plain ∈ A i
  srt : ∀ f ∈ V, KSrt lt (f.ser.map Cnt.plain)

theorem nodup_len {α : Type} [DecidableEq α] : ∀ {l m : List α}, l.Nodup → (∀ x ∈ l, x ∈ m) → l.length ≤ m.length
  | [], _, _, _ => by simp
  | x :: l, m, h, hs => by
    rw [List.nodup_cons] at h
    have h1 := nodup_len (l := l) (m := m.erase x) h.2 fun y hy => by
      have hne : y ≠ x := fun e => h.1 (by rw [← e]; exact hy)
      exact (List.mem_erase_of_ne hne).2 (hs y (by simp [hy]))
    have h2 := List.length_erase_of_mem (hs x (by simp))
    have h3 : 0 < m.length := List.length_pos_of_mem (hs x (by simp))
    simp only [List.length_cons]
    omega
theorem srt_nodup {ks : List (List UInt8)} (h : KSrt lt ks) : ks.Nodup := by
  refine List.Pairwise.imp ?_ h
  intro a b hab e
  rw [e, lt_irrefl] at hab; cases hab
theorem KV.each {A : Nat → List (List UInt8)} {V : List Fam} (h : KV A V) : ∃ a b c, V = [a, b, c] := by
  have := h.len
  match V, this with
  | [a, b, c], _ => exact ⟨a, b, c, rfl⟩
theorem KV.serLen {A : Nat → List (List UInt8)} {V : List Fam} (h : KV A V) (i : Nat) (hi : i < 3) : (V.getD i default).ser.length ≤ (A i).length := by
  have hil : i < V.length := by have := h.len; omega
  have hg : V.getD i default = V[i] := by rw [List.getD_eq_getElem?_getD, List.getElem?_eq_getElem hil]; rfl
  have hn := srt_nodup (h.srt V[i] (List.getElem_mem hil))
  have := nodup_len (m := A i) hn fun x hx => by
    obtain ⟨c, hc, rfl⟩ := List.mem_map.1 hx
    exact h.ser i c (by rw [hg]; exact hc)
  rw [hg]
  simpa using this
theorem KV.total {A : Nat → List (List UInt8)} {V : List Fam} (h : KV A V) (hA : ∀ i, (A i).length ≤ 6) : sizeOfAll V ≤ 18 := by
  obtain ⟨a, b, c, rfl⟩ := h.each
  have h0 := h.serLen 0 (by omega)
  have h1 := h.serLen 1 (by omega)
  have h2 := h.serLen 2 (by omega)
  have := hA 0
  have := hA 1
  have := hA 2
  simp [sizeOfAll] at h0 h1 h2 ⊢
  omega
theorem lines_len (V : List Fam) : (linesP V).length = (V.map fun f => 1 + f.ser.length * (f.ls.length + 1)).sum := by
  unfold linesP
  rw [it_lines]
  unfold momT
  induction V with
  | nil => rfl
  | cons f V ih =>
    simp only [List.map_cons, List.flatMap_cons, List.length_append, List.length_cons, List.sum_cons, ih]
    have : ((f.ser.map (serLines f.kind f.ls)).flatten).length = f.ser.length * (f.ls.length + 1) := by
      generalize f.ser = s
      induction s with
      | nil => simp
      | cons x s ih2 => simp only [List.map_cons, List.flatten_cons, List.length_append, serLines_len, ih2, List.length_cons, Nat.add_mul]; omega
    rw [this]; omega
theorem KV.lines {A : Nat → List (List UInt8)} {V : List Fam} (h : KV A V) (hA : ∀ i, (A i).length ≤ 6) : 3 ≤ (linesP V).length ∧ (linesP V).length ≤ 40 := by
  have l0 := h.ls 0 (by omega)
  have l1 := h.ls 1 (by omega)
  have l2 := h.ls 2 (by omega)
  have h0 := h.serLen 0 (by omega)
  have h1 := h.serLen 1 (by omega)
  have h2 := h.serLen 2 (by omega)
  have := hA 0
  have := hA 1
  have := hA 2
  obtain ⟨a, b, c, rfl⟩ := h.each
  rw [lines_len]
  simp [famL] at l0 l1 l2 h0 h1 h2 ⊢
  rw [l0, l1, l2]
  simp
  omega

theorem KV.names {A : Nat → List (List UInt8)} {V : List Fam} (h : KV A V) : V.map Fam.nm = [nmH, nmL, nmW] := by
  have n0 := h.nm 0 (by omega)
  have n1 := h.nm 1 (by omega)
  have n2 := h.nm 2 (by omega)
  obtain ⟨a, b, c, rfl⟩ := h.each
  simp [fname] at n0 n1 n2
  simp [n0, n1, n2]
theorem names_find (i : Nat) (hi : i < 3) : kfnd lt (fname i) [nmH, nmL, nmW] = true ∧ kplace lt (fname i) [nmH, nmL, nmW] = i := by
  match i, hi with
  | 0, _ => exact ⟨by kernel_rfl, by kernel_rfl⟩
  | 1, _ => exact ⟨by kernel_rfl, by kernel_rfl⟩
  | 2, _ => exact ⟨by kernel_rfl, by kernel_rfl⟩

/-- One family's series are others. -/
theorem KV.put {A : Nat → List (List UInt8)} {V : List Fam} (h : KV A V) (i : Nat) (hi : i < 3) (s : List Cnt) (hs : ∀ c ∈ s, c.plain ∈ A i) (hsrt : KSrt lt (s.map Cnt.plain)) : KV A (V.set i { V.getD i default with ser := s }) := by
  have hil : i < V.length := by have := h.len; omega
  have hg : ∀ j, (V.set i { V.getD i default with ser := s }).getD j default = if i = j then { V.getD i default with ser := s } else V.getD j default := fun j => by
    rw [List.getD_eq_getElem?_getD, List.getElem?_set]
    by_cases e : i = j
    · subst e; simp [hil]
    · rw [if_neg e, if_neg e, List.getD_eq_getElem?_getD]
  refine ⟨by rw [List.length_set]; exact h.len, fun j hj => ?_, fun j hj => ?_, fun j hj => ?_, fun j => ?_, fun f hf => ?_⟩
  · rw [hg]; split
    · rename_i e; subst e; exact h.nm i hj
    · exact h.nm j hj
  · rw [hg]; split
    · rename_i e; subst e; exact h.kind i hj
    · exact h.kind j hj
  · rw [hg]; split
    · rename_i e; subst e; exact h.ls i hj
    · exact h.ls j hj
  · rw [hg]; split
    · rename_i e; subst e; exact hs
    · exact h.ser j
  · rcases List.mem_or_eq_of_mem_set hf with hf | e
    · exact h.srt f hf
    · rw [e]; exact hsrt

theorem chg_kv {A : Nat → List (List UInt8)} {V : List Fam} (h : KV A V) (hA : ∀ i, (A i).length ≤ 6) (i : Nat) (hi : i < 3) (l p : List UInt8) (n : Int) (ht : Txt i l p) (hp : p ∈ A i) (hn : -1000000000 ≤ n ∧ n ≤ 1000000000) (hc : i = 0 → 0 ≤ n) :
    chgP V l n = chgAt V i p n ∧ (chgAt V i p n).1 = 0 ∧ KV A (chgAt V i p n).2 := by
  obtain ⟨f1, f2⟩ := names_find i hi
  have hk := h.kind i hi
  have htk : takesB (V.getD i default).kind n = true := by
    unfold takesB inB
    rw [hk]
    unfold famK
    simp only [Bool.and_eq_true, decide_eq_true_eq, Bool.or_eq_true]
    refine ⟨hn, ?_⟩
    by_cases e : i = 0
    · exact Or.inr (hc e)
    · exact Or.inl (by omega)
  have hil : i < V.length := by have := h.len; omega
  have hgd : V.getD i default = V[i] := by rw [List.getD_eq_getElem?_getD, List.getElem?_eq_getElem hil]; rfl
  have hsi : KSrt lt ((V.getD i default).ser.map Cnt.plain) := by rw [hgd]; exact h.srt _ (List.getElem_mem hil)
  refine ⟨?_, ?_⟩
  · unfold chgP
    rw [ht.err, ht.name, ht.plain, h.names, f1, f2]
    simp
  · unfold chgAt
    rw [if_neg (by rw [htk]; simp)]
    split
    · rename_i hf
      obtain ⟨hkl, hkg⟩ := kfnd_get p _ hf
      refine ⟨rfl, h.put i hi _ (fun c hc' => ?_) ?_⟩
      · rcases List.mem_or_eq_of_mem_set hc' with hc' | e
        · exact h.ser i c hc'
        · rw [e, countP_plain]
          have hkl' : kplace lt p ((V.getD i default).ser.map Cnt.plain) < (V.getD i default).ser.length := by simpa using hkl
          rw [List.getD_eq_getElem?_getD, List.getElem?_eq_getElem hkl']
          exact h.ser i _ (List.getElem_mem hkl')
      · have e : ((V.getD i default).ser.set (kplace lt p ((V.getD i default).ser.map Cnt.plain)) (countP (V.getD i default).kind (V.getD i default).ls n ((V.getD i default).ser.getD (kplace lt p ((V.getD i default).ser.map Cnt.plain)) default))).map Cnt.plain = (V.getD i default).ser.map Cnt.plain := by
          rw [List.map_set, countP_plain]
          have hkl' : kplace lt p ((V.getD i default).ser.map Cnt.plain) < (V.getD i default).ser.length := by simpa using hkl
          apply List.ext_getElem?
          intro j
          rw [List.getElem?_set]
          split
          · rename_i e; subst e
            rw [List.getElem?_map, List.getD_eq_getElem?_getD, List.getElem?_eq_getElem hkl']
            rfl
          · rfl
        rw [e]; exact hsi
    · rename_i hf
      have ht := h.total hA
      rw [if_neg (by omega)]
      have hf' : kfnd lt p ((V.getD i default).ser.map Cnt.plain) = false := by simpa using hf
      refine ⟨rfl, h.put i hi _ (fun c hc' => ?_) ?_⟩
      · rcases kins_mem hc' with rfl | hc'
        · rw [countP_plain]; exact hp
        · exact h.ser i c hc'
      · rw [kins_map, countP_plain]
        exact ksrt_ins ltB _ _ hsi hf'

theorem drp_kv {A : Nat → List (List UInt8)} {V : List Fam} (h : KV A V) (i : Nat) (hi : i < 3) (l p : List UInt8) (ht : Txt i l p) :
    drpP V l = drpAt V i p ∧ ((drpAt V i p).1 = 0 ∨ (drpAt V i p).1 = 6) ∧ KV A (drpAt V i p).2 := by
  obtain ⟨f1, f2⟩ := names_find i hi
  have hil : i < V.length := by have := h.len; omega
  have hgd : V.getD i default = V[i] := by rw [List.getD_eq_getElem?_getD, List.getElem?_eq_getElem hil]; rfl
  have hsi : KSrt lt ((V.getD i default).ser.map Cnt.plain) := by rw [hgd]; exact h.srt _ (List.getElem_mem hil)
  refine ⟨?_, ?_⟩
  · unfold drpP
    rw [ht.err, ht.name, ht.plain, h.names, f1, f2]
    simp
  · unfold drpAt
    split
    · exact ⟨Or.inr rfl, h⟩
    · refine ⟨Or.inl rfl, h.put i hi _ (fun c hc' => h.ser i c (cut1_mem hc')) ?_⟩
      rw [cut1_map]
      refine List.Pairwise.sublist ?_ hsi
      unfold cut1
      conv => rhs; rw [← List.take_append_drop (kplace lt p ((V.getD i default).ser.map Cnt.plain)) ((V.getD i default).ser.map Cnt.plain)]
      refine List.Sublist.append (List.Sublist.refl _) ?_
      rw [← List.drop_drop]
      exact List.drop_sublist _ _

theorem view_srt {m : Nat} {t : GT} (h : GT.Ok m t) : ∀ f ∈ t.view, KSrt lt (f.ser.map Cnt.plain) := by
  intro f hf
  obtain ⟨g, hg, rfl⟩ := List.mem_map.1 hf
  rw [ser_plain]; exact (h.each g hg).srt

end Go.Proofs.YtcfdemhokbddiaaGreatDoor
