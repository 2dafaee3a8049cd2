/-
  tallyman.Plain: the plain form, or the error and its place.
-/
import Derived.Test.YtcfdemhokbddiaaM
namespace Go.Proofs.Ytcfdemhokbddiaa
open Go.RowKit

theorem nameLen_12 (k : Nat) (l : List UInt8) (h : k ≤ 12) : k + nameLen k l ≤ 12 := by
  induction l generalizing k with
  | nil => simp [nameLen]; omega
  | cons c l ih =>
    unfold nameLen
    split
    · rename_i hk; have := ih (k + 1) (by omega); omega
    · omega
theorem valP_len (r : Nat) (l v l' : List UInt8) (h : valP r l = (some v, l')) : v.length ≤ r := by
  induction r generalizing l v l' with
  | zero =>
    cases l with
    | nil => simp [valP] at h
    | cons c l =>
      unfold valP at h
      split at h
      · simp at h; rw [h.1]; simp
      · simp at h
  | succ r ih =>
    cases l with
    | nil => simp [valP] at h
    | cons c l =>
      unfold valP at h
      split at h
      · simp at h; rw [h.1]; simp
      · split at h
        · simp at h
        · split at h
          · simp at h
          · rename_i hv; simp at h; have := ih _ _ _ hv; rw [← h.1]; simp; omega
def Good (x : Lab) : Prop := x.name.length ≤ 12 ∧ x.val.length ≤ 16
theorem labelP_good (l l' : List UInt8) (p : List UInt8 × List UInt8) (h : labelP l = (some p, l')) : p.1.length ≤ 12 ∧ p.2.length ≤ 16 := by
  unfold labelP at h
  split at h
  · simp at h
  · split at h
    · simp at h
    · split at h
      · simp at h
      · split at h
        · simp at h
        · rename_i hv
          simp at h
          rw [← h.1]
          have := nameLen_12 0 l (by omega)
          exact ⟨by simp; omega, valP_len _ _ _ _ hv⟩
theorem closeP_good (x : Lab) (l l' : List UInt8) (ls : List Lab) (hx : Good x) (h : closeP x l = (some ls, l')) : ∀ y ∈ ls, Good y := by
  unfold closeP at h
  split at h
  · simp at h
  · simp at h; rw [← h.1]; simpa using hx
theorem labelsP_good (N r : Nat) (l l' : List UInt8) (ls : List Lab) (h : labelsP N r l = (some ls, l')) : ∀ y ∈ ls, Good y := by
  induction r generalizing l l' ls with
  | zero =>
    unfold labelsP at h
    split at h
    · simp at h
    · rename_i hp; refine closeP_good _ _ _ _ ?_ h; exact labelP_good _ _ _ hp
  | succ r ih =>
    unfold labelsP at h
    split at h
    · simp at h
    · rename_i hp
      simp only at h
      split at h
      · refine closeP_good _ _ _ _ ?_ h; exact labelP_good _ _ _ hp
      · split at h
        · simp at h
        · rename_i hq
          simp at h
          rw [← h.1]
          intro y hy
          simp at hy
          rcases hy with rfl | hy
          · exact labelP_good _ _ _ hp
          · exact ih _ _ _ hq y hy
theorem labelsP_len (N r : Nat) (l l' : List UInt8) (ls : List Lab) (h : labelsP N r l = (some ls, l')) : ls.length ≤ r + 1 := by
  have hc : ∀ (x : Lab) (l l' : List UInt8) (ls : List Lab), closeP x l = (some ls, l') → ls.length = 1 := by
    intro x l l' ls h
    unfold closeP at h
    split at h
    · simp at h
    · simp at h; rw [← h.1]; rfl
  induction r generalizing l l' ls with
  | zero =>
    unfold labelsP at h
    split at h
    · simp at h
    · have := hc _ _ _ _ h; omega
  | succ r ih =>
    unfold labelsP at h
    split at h
    · simp at h
    · simp only at h
      split at h
      · have := hc _ _ _ _ h; omega
      · split at h
        · simp at h
        · rename_i hq
          simp at h
          have := ih _ _ _ hq
          rw [← h.1]; simp; omega
theorem seriesP_good (N : Nat) (l l' : List UInt8) (p : List UInt8 × List Lab) (h : seriesP N l = (some p, l')) : p.1.length ≤ 12 ∧ (∀ y ∈ p.2, Good y) ∧ p.2.length ≤ 3 := by
  have hn := nameLen_12 0 l (by omega)
  unfold seriesP at h
  split at h
  · simp at h
  · split at h
    · simp at h; rw [← h.1]; exact ⟨by simp; omega, by simp, by simp⟩
    · split at h
      · simp at h
      · rename_i hb
        split at h
        · simp at h
          rw [← h.1]
          unfold bracesP at hb
          split at hb
          · simp at hb
          · exact ⟨by simp; omega, labelsP_good _ _ _ _ _ hb, labelsP_len _ _ _ _ _ hb⟩
        · simp at h
theorem sortP_mem (ls acc r : List Lab) (k j : Nat) (h : sortP acc k ls = (some r, j)) (P : Lab → Prop) (h1 : ∀ y ∈ acc, P y) (h2 : ∀ y ∈ ls, P y) : ∀ y ∈ r, P y := by
  induction ls generalizing acc k with
  | nil => simp [sortP] at h; rw [← h.1]; exact h1
  | cons x ls ih =>
    unfold sortP at h
    split at h
    · simp at h
    · refine ih _ _ h ?_ (fun y hy => h2 y (by simp [hy]))
      intro y hy
      simp only [insAt, List.mem_append, List.mem_cons] at hy
      rcases hy with hy | rfl | hy
      · exact h1 y (List.mem_of_mem_take hy)
      · exact h2 y (by simp)
      · exact h1 y (List.mem_of_mem_drop hy)
theorem readP_good (l : List UInt8) : (readP l).name.length ≤ 12 ∧ (∀ y ∈ (readP l).labs, Good y) ∧ (readP l).labs.length ≤ 3 ∧ (readP l).err ≤ 3 := by
  unfold readP
  split
  · simp
  · split
    · simp
    · rename_i hs
      have hg := seriesP_good _ _ _ _ hs
      split
      · simp
      · rename_i hq
        have h3 := sortP_some _ _ _ _ _ hq
        exact ⟨hg.1, sortP_mem _ _ _ _ _ hq Good (by simp) hg.2.1, by have := h3.2; have := hg.2.2; simp at *; omega, by simp⟩

/-- What Plain answers: the text, the error, the place. -/
def plainP (l : List UInt8) : List UInt8 := if (readP l).err = 0 then plainB (readP l).name (readP l).labs else []

set_option maxHeartbeats 400000 in
theorem plain_any (s : ByteArray) (w : World) :
    Calls Try.prog 4 #[.string s] w fun e w' => e = .returned (.tuple #[.string (Ytcfdemhokbddiaa.B (plainP s.data.toList)), .int .i64 ((readP s.data.toList).err : Int), .int .i64 (if (readP s.data.toList).err = 0 then (0 : Nat) else (readP s.data.toList).at_ : Nat)]) ∧ Below w.heap.size w w' := by
  have hg := readP_good s.data.toList
  have hr := read_any s w
  unfold plainP
  generalize readP s.data.toList = T at *
  obtain ⟨err, at_, nm, ls⟩ := T
  simp only at *
  have HR : Hid (Calls Try.prog 7 #[.string s] w _) := hr
  clear hr
  go_enter Try.func4, Try.ntmps4
  go_wp2_with fail
  refine HR.out.mono ?_
  rintro e w1 ⟨v, rfl, own, g1⟩
  obtain ⟨va, vc, rfl⟩ := own_shape own
  have hB1 : Below w.heap.size w w1 := ⟨g1.os, g1.tape, g1.output, g1.size, fun k hk => g1.block k hk (by simp)⟩
  by_cases h0 : err = 0
  · subst h0
    go_wp2_with fail
    refine (plainS_any nm va vc _ ls _ (own.alloc _) hg.2.2.1 hg.1 hg.2.1).mono ?_
    rintro e w2 ⟨rfl, k2⟩
    go_wp2
    go_ret3
    exact ⟨rfl, (hB1.alloc g1.size _).trans (k2.mono (by simp; have := g1.size; omega))⟩
  · have h0' : ((err : Int) != 0) = true := by simp; omega
    go_wp2
    go_ret3
    exact ⟨by simp [Ytcfdemhokbddiaa.B], hB1.alloc g1.size _⟩

end Go.Proofs.Ytcfdemhokbddiaa
