/-
  The lines of a moment, each with its place; who goes on from a line's place has just the lines from it on. (Plain facts, no program.)
-/
import Derived.Test.YtcfdemhokbddiaaGreatDoorQJ
import Derived.Lib.ItoaNum

namespace Go.Proofs.YtcfdemhokbddiaaGreatDoor
open Go.RowKit

/-- A place among the lines: family, series (0: the family's own line), line of the series. -/
structure Pl where
  f : Nat
  s : Nat
  l : Nat

theorem text_set {w : World} {b o : Nat} {cs : Array Value} {t : TypeId} (h : w.heap[b]? = some (.cells cs t)) (v : Value) : (w.setCell ⟨b, o, none⟩ v).heap[b]? = some (.cells (cs.setIfInBounds o v) t) := by
  simp [World.setCell, Array.getElem?_modify, h]
theorem add_lists (x y : List UInt8) (hx : x.length ≤ 100000) (hy : y.length ≤ 100000) (w : World) : (Op.stringOp .add (B x) (B y)).run Tryz.prog w = .ok (.string (B (x ++ y))) w :=
  run_string_add_lists (P := Tryz.prog) w x y (by omega) (by omega)


variable {α β : Type}

/-- Each list's items with their places: i-th list, j-th item. -/
def flat (xs : List (List β)) : List β := xs.flatten
theorem flatten_cut : ∀ {xs : List (List β)} {A B : List β} {x : β}, xs.flatten = A ++ x :: B →
    ∃ P y S Y1 Y2, xs = P ++ y :: S ∧ y = Y1 ++ x :: Y2 ∧ A = P.flatten ++ Y1 ∧ B = Y2 ++ S.flatten
  | [], A, B, x, h => by simp at h
  | z :: xs, A, B, x, h => by
    rw [List.flatten_cons] at h
    rcases List.append_eq_append_iff.1 h with ⟨C, h1, h2⟩ | ⟨C, h1, h2⟩
    · obtain ⟨P, y, S, Y1, Y2, e1, e2, e3, e4⟩ := flatten_cut h2
      exact ⟨z :: P, y, S, Y1, Y2, by simp [e1], e2, by simp [h1, e3], e4⟩
    · cases C with
      | nil =>
        simp only [List.nil_append] at h2
        obtain ⟨P, y, S, Y1, Y2, e1, e2, e3, e4⟩ := flatten_cut (A := []) h2.symm
        exact ⟨z :: P, y, S, Y1, Y2, by simp [e1], e2, by simp only [List.append_nil] at h1; rw [← h1]; simp only [List.flatten_cons, List.append_assoc]; rw [← e3]; simp, e4⟩
      | cons c C =>
        simp only [List.cons_append, List.cons.injEq] at h2
        obtain ⟨rfl, h2⟩ := h2
        exact ⟨[], z, xs, A, C, rfl, h1, by simp, h2⟩

theorem mapIdx_cut {f : Nat → α → β} {xs : List α} {P S : List β} {y : β} (h : xs.mapIdx f = P ++ y :: S) :
    ∃ x, xs[P.length]? = some x ∧ y = f P.length x ∧ P = (xs.take P.length).mapIdx f ∧ S = (xs.drop (P.length + 1)).mapIdx fun i => f (P.length + 1 + i) := by
  have hl : P.length < xs.length := by
    have := congrArg List.length h
    simp at this; omega
  have hy := congrArg (fun l => l[P.length]?) h
  simp [hl] at hy
  refine ⟨xs[P.length], by simp [hl], hy.symm, ?_, ?_⟩
  · have := congrArg (List.take P.length) h
    rw [List.take_left] at this
    rw [← this, List.ext_getElem_iff]
    exact ⟨by simp, fun i h1 h2 => by simp⟩
  · have := congrArg (List.drop (P.length + 1)) h
    rw [show P ++ y :: S = (P ++ [y]) ++ S from by simp, List.drop_left' (by simp)] at this
    rw [← this, List.ext_getElem_iff]
    exact ⟨by simp, fun i h1 h2 => by simp⟩

/-- The lines of a moment with their places: 'fam': a family's own line; 'ser': the lines of its series, one list a series. -/
def serIt (a b : Nat) (ls : List β) : List (Pl × β) := ls.mapIdx fun j x => (⟨a, b, j⟩, x)
def famIt (a : Nat) (t : β) (ss : List (List β)) : List (Pl × β) := (⟨a, 0, 0⟩, t) :: (ss.mapIdx fun j ls => serIt a (j + 1) ls).flatten
def allIt (T : List (β × List (List β))) : List (Pl × β) := (T.mapIdx fun i f => famIt i f.1 f.2).flatten
/-- From a place on. -/
def serFrom (a b : Nat) (ss : List (List β)) (l : Nat) : List (Pl × β) :=
  match ss with
  | [] => []
  | ls :: r => (serIt a b ls).drop l ++ (r.mapIdx fun j ls => serIt a (b + 1 + j) ls).flatten
def famFrom (a : Nat) (f : β × List (List β)) (s l : Nat) : List (Pl × β) :=
  if s = 0 then famIt a f.1 f.2 else serFrom a s (f.2.drop (s - 1)) l
def itFrom (T : List (β × List (List β))) (p : Pl) : List (Pl × β) :=
  match T.drop p.f with
  | [] => []
  | f :: r => famFrom p.f f p.s p.l ++ (r.mapIdx fun i f => famIt (p.f + 1 + i) f.1 f.2).flatten

theorem itFrom_zero (T : List (β × List (List β))) : itFrom T ⟨0, 0, 0⟩ = allIt T := by
  cases T with
  | nil => rfl
  | cons f T => simp [itFrom, allIt, famFrom, List.mapIdx_cons, Nat.add_comm]

theorem serIt_cut {a b : Nat} {ls : List β} {Y1 Y2 : List (Pl × β)} {x : Pl × β} (h : serIt a b ls = Y1 ++ x :: Y2) : x.1 = ⟨a, b, Y1.length⟩ ∧ (serIt a b ls).drop Y1.length = x :: Y2 := by
  obtain ⟨z, h1, h2, _⟩ := mapIdx_cut (f := fun j x => ((⟨a, b, j⟩ : Pl), x)) h
  exact ⟨by rw [h2], by rw [h, List.drop_left]⟩

/-- Who goes on from a line's place has just the lines from it on. -/
theorem it_again {T : List (β × List (List β))} {A B : List (Pl × β)} {x : Pl × β} (h : allIt T = A ++ x :: B) : itFrom T x.1 = x :: B := by
  obtain ⟨P, y, S, Y1, Y2, e1, e2, e3, e4⟩ := flatten_cut h
  obtain ⟨f, h1, h2, _, h4⟩ := mapIdx_cut (f := fun i (f : β × List (List β)) => famIt i f.1 f.2) e1
  have hl : P.length < T.length := (List.getElem?_eq_some_iff.1 h1).1
  have hd : T.drop P.length = f :: T.drop (P.length + 1) := by
    rw [List.drop_eq_getElem_cons hl]
    congr 1
    simpa [hl] using h1
  rw [e2] at h2
  unfold famIt at h2
  cases Y1 with
  | nil =>
    simp only [List.nil_append, List.cons.injEq] at h2
    obtain ⟨rfl, rfl⟩ := h2
    simp only [itFrom, hd, famFrom, if_true]
    rw [e4, h4]
    rfl
  | cons z Y1 =>
    simp only [List.cons_append, List.cons.injEq] at h2
    obtain ⟨_, h2⟩ := h2
    obtain ⟨P', y', S', Z1, Z2, g1, g2, g3, g4⟩ := flatten_cut h2.symm
    obtain ⟨ls, k1, k2, _, k4⟩ := mapIdx_cut (f := fun j ls => serIt (β := β) P.length (j + 1) ls) g1
    have hl2 : P'.length < f.2.length := (List.getElem?_eq_some_iff.1 k1).1
    have hd2 : f.2.drop P'.length = ls :: f.2.drop (P'.length + 1) := by
      rw [List.drop_eq_getElem_cons hl2]
      congr 1
      simpa [hl2] using k1
    rw [g2] at k2
    obtain ⟨q1, q2⟩ := serIt_cut k2.symm
    simp only [itFrom, q1, hd, famFrom]
    rw [if_neg (by omega), show P'.length + 1 - 1 = P'.length from by omega, hd2]
    simp only [serFrom]
    rw [q2, e4, g4, k4, h4]
    simp [Nat.add_comm, Nat.add_left_comm]

theorem it_lines (T : List (β × List (List β))) : (allIt T).map (·.2) = T.flatMap fun f => f.1 :: f.2.flatten := by
  unfold allIt
  rw [List.map_flatten, List.flatMap_def]
  congr 1
  rw [List.ext_getElem_iff]
  refine ⟨by simp, fun i h1 h2 => ?_⟩
  simp only [List.length_map, List.length_mapIdx] at h1
  simp only [List.getElem_map, List.getElem_mapIdx, famIt, List.map_cons, List.map_flatten]
  congr 2
  rw [List.ext_getElem_iff]
  refine ⟨by simp, fun j g1 g2 => ?_⟩
  simp only [List.getElem_map, List.getElem_mapIdx, serIt]
  rw [List.ext_getElem_iff]
  exact ⟨by simp, fun k k1 k2 => by simp⟩

end Go.Proofs.YtcfdemhokbddiaaGreatDoor

/-
  The lines from a place on, step by step. (Plain facts, no program.)
-/
namespace Go.Proofs.YtcfdemhokbddiaaGreatDoor
open Go.RowKit
variable {α β : Type}

theorem drop_cons' {T : List α} {i : Nat} (h : i < T.length) : T.drop i = T[i] :: T.drop (i + 1) := List.drop_eq_getElem_cons h
theorem itFrom_at {T : List (β × List (List β))} {i s l : Nat} (h : i < T.length) : itFrom T ⟨i, s, l⟩ = famFrom i T[i] s l ++ ((T.drop (i + 1)).mapIdx fun j f => famIt (i + 1 + j) f.1 f.2).flatten := by
  unfold itFrom
  simp only [drop_cons' h]
theorem itFrom_end {T : List (β × List (List β))} {i s l : Nat} (h : T.length ≤ i) : itFrom T ⟨i, s, l⟩ = [] := by
  unfold itFrom
  simp only [List.drop_of_length_le h]
theorem serFrom_zero (a : Nat) (ss : List (List β)) (b : Nat) : serFrom a b ss 0 = (ss.mapIdx fun j ls => serIt a (b + j) ls).flatten := by
  cases ss with
  | nil => rfl
  | cons x ss => simp [serFrom, List.mapIdx_cons, Nat.add_comm, Nat.add_left_comm]
theorem itFrom_title {T : List (β × List (List β))} {i : Nat} (h : i < T.length) : itFrom T ⟨i, 0, 0⟩ = (⟨i, 0, 0⟩, T[i].1) :: itFrom T ⟨i, 1, 0⟩ := by
  rw [itFrom_at h, itFrom_at h]
  simp only [famFrom, if_true, famIt, List.cons_append, List.drop_zero, Nat.sub_self, Nat.one_ne_zero, if_false]
  rw [serFrom_zero]
  simp [Nat.add_comm]
theorem itFrom_line {T : List (β × List (List β))} {i s l : Nat} (h : i < T.length) (hs : s < T[i].2.length) (hl : l < T[i].2[s].length) :
    itFrom T ⟨i, s + 1, l⟩ = (⟨i, s + 1, l⟩, T[i].2[s][l]) :: itFrom T ⟨i, s + 1, l + 1⟩ := by
  rw [itFrom_at h, itFrom_at h]
  simp only [famFrom, Nat.add_one_ne_zero, if_false, Nat.add_sub_cancel, drop_cons' hs, serFrom]
  rw [drop_cons' (T := serIt i (s + 1) T[i].2[s]) (by simpa [serIt] using hl)]
  simp [serIt]
theorem itFrom_next {T : List (β × List (List β))} {i s l : Nat} (h : i < T.length) (hs : s < T[i].2.length) (hl : T[i].2[s].length ≤ l) :
    itFrom T ⟨i, s + 1, l⟩ = itFrom T ⟨i, s + 2, 0⟩ := by
  rw [itFrom_at h, itFrom_at h]
  simp only [famFrom, Nat.add_one_ne_zero, if_false, Nat.add_sub_cancel, drop_cons' hs, show s + 2 - 1 = s + 1 from rfl, serFrom_zero]
  simp only [serFrom]
  rw [List.drop_of_length_le (l := serIt i (s + 1) T[i].2[s]) (by simpa [serIt] using hl)]
  simp
theorem itFrom_fam {T : List (β × List (List β))} {i s l : Nat} (h : i < T.length) (hs : T[i].2.length ≤ s) :
    itFrom T ⟨i, s + 1, l⟩ = itFrom T ⟨i + 1, 0, 0⟩ := by
  rw [itFrom_at h]
  simp only [famFrom, Nat.add_one_ne_zero, if_false, Nat.add_sub_cancel, List.drop_of_length_le hs, serFrom, List.nil_append]
  by_cases h2 : i + 1 < T.length
  · rw [itFrom_at h2, drop_cons' h2, List.mapIdx_cons]
    simp [famFrom, Nat.add_comm, Nat.add_left_comm]
  · rw [itFrom_end (by omega), List.drop_of_length_le (by omega)]
    rfl

end Go.Proofs.YtcfdemhokbddiaaGreatDoor
