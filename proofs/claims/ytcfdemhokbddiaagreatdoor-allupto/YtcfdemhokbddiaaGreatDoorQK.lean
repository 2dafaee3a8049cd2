/-
  series.Read: what a series' text tells, or the error and its place.
-/
import Derived.Test.YtcfdemhokbddiaaGreatDoorQJ

namespace Go.Proofs.YtcfdemhokbddiaaGreatDoor
open Go.RowKit

/-- What a reading comes to: the error, its place, the name, the labels in order. -/
structure Told where
  err : Nat
  at_ : Nat
  name : List UInt8
  labs : List Lab

def readP (l : List UInt8) : Told :=
  if 100 < l.length then ⟨1, 0, [], []⟩ else
  match seriesP l.length l with
  | (none, rest) => ⟨2, l.length - rest.length, [], []⟩
  | (some p, _) => match sortP [] 0 p.2 with
    | (none, k) => ⟨3, (p.2[k]?.getD ⟨[], [], 0⟩).at_, [], []⟩
    | (some r, _) => ⟨0, 0, p.1, r⟩

theorem sortP_some (ls acc r : List Lab) (k j : Nat) (h : sortP acc k ls = (some r, j)) : j = k + ls.length ∧ r.length = acc.length + ls.length := by
  induction ls generalizing acc k with
  | nil => simp [sortP] at h; obtain ⟨rfl, rfl⟩ := h; simp
  | cons x ls ih =>
    unfold sortP at h
    split at h
    · simp at h
    · have := ih _ _ h
      rw [insAt_len _ _ _ (place_le _ _)] at this
      simp; omega
theorem sortP_none (ls acc : List Lab) (k j : Nat) (h : sortP acc k ls = (none, j)) : k ≤ j ∧ j < k + ls.length := by
  induction ls generalizing acc k with
  | nil => simp [sortP] at h
  | cons x ls ih =>
    unfold sortP at h
    split at h
    · simp at h; simp; omega
    · have := ih _ _ h; simp; omega

theorem readP_long (s : ByteArray) (h : 100 < s.size) : readP s.data.toList = ⟨1, 0, [], []⟩ := by unfold readP; exact if_pos h
theorem readP_bad (s : ByteArray) (m : Nat) (h : ¬ 100 < s.size) (hm : m ≤ s.size) (h2 : seriesP s.size s.data.toList = (none, s.data.toList.drop m)) : readP s.data.toList = ⟨2, m, [], []⟩ := by
  have h2' : seriesP s.data.toList.length s.data.toList = (none, s.data.toList.drop m) := h2
  have h3 : s.data.toList.length - (s.data.toList.drop m).length = m := drop_len s m hm
  unfold readP; rw [if_neg (by exact h), h2']; simp only [h3]
theorem readP_twice (s : ByteArray) (m k : Nat) (p : List UInt8 × List Lab) (h : ¬ 100 < s.size) (h2 : seriesP s.size s.data.toList = (some p, s.data.toList.drop m)) (h3 : sortP [] 0 p.2 = (none, k)) (hk : k < p.2.length) : readP s.data.toList = ⟨3, (p.2[k]).at_, [], []⟩ := by
  have h2' : seriesP s.data.toList.length s.data.toList = (some p, s.data.toList.drop m) := h2
  unfold readP; rw [if_neg (by exact h), h2']; simp only [h3, List.getElem?_eq_getElem hk, Option.getD_some]
theorem readP_ok (s : ByteArray) (m k : Nat) (p : List UInt8 × List Lab) (r : List Lab) (h : ¬ 100 < s.size) (h2 : seriesP s.size s.data.toList = (some p, s.data.toList.drop m)) (h3 : sortP [] 0 p.2 = (some r, k)) : readP s.data.toList = ⟨0, 0, p.1, r⟩ := by
  have h2' : seriesP s.data.toList.length s.data.toList = (some p, s.data.toList.drop m) := h2
  unfold readP; rw [if_neg (by exact h), h2']; simp only [h3]

theorem alloc_new (w : World) (o : Obj) (k : Nat) (hk : k = w.heap.size) : (w.alloc o).heap[k]? = some o := by
  subst hk; show (w.heap.push o)[w.heap.size]? = _; simp

theorem gb_froz {w w' : World} {r : Option Nat} (h : w.grownBy w' r) {b o : Nat} {x : Bool} (hb : b < w.heap.size) (hc : w.frozen? ⟨b, o, none⟩ = x) (hr : some b ≠ r) : w'.frozen? ⟨b, o, none⟩ = x := by
  rw [← hc]; exact World.frozen?_of_block (w := w) (h.block b hb hr)

theorem sorted_any (va : Option Addr) (vc : Nat) (ls : List Lab) (base : Nat) (w : World) (hown : w.ownsRow base 130 3 (.slice va ls.length vc) ls.length (labCells ls)) (hl : ls.length ≤ 3) :
    Calls Tryz.prog 73 #[.slice va ls.length vc, .func (.func 74) #[] #[]] w fun e w' => ∃ (o : Option (List Lab)) (k : Nat) (a : Option Addr) (l c : Nat), sortP [] 0 ls = (o, k) ∧
      e = .returned (.tuple #[.slice a l c, .int .i64 (k : Int)]) ∧ (∀ r, o = some r → w'.ownsRow w.heap.size 130 3 (.slice a l c) r.length (labCells r)) ∧ w.grownBy w' none := by
  cases ls with
  | nil =>
    refine (sorted_none va vc w).mono ?_
    rintro e w' ⟨a, c, rfl, h1, h2⟩
    exact ⟨some [], 0, a, 0, c, rfl, rfl, fun r h => by simp at h; subst h; exact h1, h2⟩
  | cons x ls =>
    rcases hown.2 with ⟨_, h0⟩ | ⟨g, cap, cur, h1, _⟩
    · simp at h0
    · simp at h1
      obtain ⟨rfl, rfl⟩ := h1
      exact sorted_some g vc (x :: ls) base w hown hl

theorem gb_on {a w : World} {R o : Nat} {v : Value} {r : Option Nat} (h : a.grownBy w r) (hR : a.heap.size ≤ R) : a.grownBy (w.setCell ⟨R, o, none⟩ v) r :=
  ⟨h.os, h.tape, h.output, by simpa [World.setCell] using h.size, fun k hk hne => by
    rw [Below.heap_setCell _ _ _ _ (by show k ≠ R; omega)]; exact h.block k hk hne⟩
theorem gb_drew {a w : World} {r : Option Nat} (h : a.grownBy w r) : a.grownBy w.drew r := gb_d (q := 1) h

set_option maxRecDepth 100000 in
set_option maxHeartbeats 1000000 in
theorem read_any (s : ByteArray) (w : World) :
    Calls Tryz.prog 39 #[.string s] w fun e w' => ∃ (v : Value), e = .returned (.tuple #[.agg #[.string (B (readP s.data.toList).name), v], .int .i64 ((readP s.data.toList).err : Int), .int .i64 ((readP s.data.toList).at_ : Int)]) ∧
      w'.ownsRow w.heap.size 130 3 v (readP s.data.toList).labs.length (labCells (readP s.data.toList).labs) ∧ w.grownBy w' none := by
  by_cases h100 : 100 < s.size
  · rw [readP_long s h100]
    have h100' : (100 : Int) < (s.size : Int) := by omega
    go_enter Tryz.func39, Tryz.ntmps39
    go_wp2
    refine bodyPost_ret (v := .tuple #[.agg #[.string (B []), .slice none 0 0], .int .i64 1, .int .i64 0]) (by simp [results, Tryz.results39, go_sem, B]) rfl ⟨.slice none 0 0, rfl, World.ownsRow_nil _ _ _ _, gb_alloc (gb_refl _ _) _⟩
  · have h100' : ¬ (100 : Int) < (s.size : Int) := by omega
    obtain ⟨T, hT⟩ : ∃ T, readP s.data.toList = T := ⟨_, rfl⟩
    have HT : Hid (readP s.data.toList = T) := hT
    rw [hT]
    clear hT
    go_enter Tryz.func39, Tryz.ntmps39
    go_wp2_with fail
    have hb : ((w.alloc res31).alloc (rdr s 0)).heap[w.heap.size + 1]? = some (rdr s 0) := alloc_new _ _ _ (by simp)
    have hR : ((w.alloc res31).alloc (rdr s 0)).heap[w.heap.size]? = some res31 := by
      rw [Below.heap_alloc _ _ _ (by simp)]; exact alloc_new _ _ _ rfl
    refine (series_any (w.heap.size + 1) s 0 _ (by exact hb) (Nat.zero_le _) (by omega)).mono ?_
    rintro e w1 ⟨m, o, v, a1, a2, rfl, q1, g1, own, hl⟩
    have z0 : w.heap.size < ((w.alloc res31).alloc (rdr s 0)).heap.size := by simp; omega
    have r1 : w1.heap[w.heap.size]? = some res31 := by rw [g1.block _ z0 (by simp)]; exact hR
    have hgw : w.grownBy w1 none := ⟨g1.os, g1.tape, g1.output, Nat.le_trans (by simp; omega) g1.size, fun k hk hne => by
      rw [g1.block k (by simp; omega) (by simp; omega), Below.heap_alloc _ _ _ (by simp; omega), Below.heap_alloc _ _ _ hk]⟩
    have z1 : w.heap.size + 1 < w1.heap.size := lt_of q1
    obtain ⟨⟨d0, d1⟩, f0, f1⟩ := res31_cells r1
    have A2 : Hid (seriesP s.size s.data.toList = (o, s.data.toList.drop m)) := a2
    clear a2 hb hR g1 z0
    cases o with
    | none =>
      have HTv : Hid (T = ⟨2, m, [], []⟩) := by show _ = _; rw [← HT.out, readP_bad s m h100 a1 A2.out]
      obtain ⟨va, vc, rfl⟩ := own_shape own
      clear HT A2 own
      have c1 := cell1 q1
      go_wp2
      have ga := gb_alloc (gb_refl w1 none) (.cells #[.string (B (nmOf none)), .slice va (lsOf none).length vc] 81)
      have d0' := gb_cell ga d0 (by simp)
      have d1' := gb_cell ga d1 (by simp)
      have f0' := gb_froz ga (by omega) f0 (by simp)
      have f1' := gb_froz ga (by omega) f1 (by simp)
      have c1' := gb_cell ga c1 (by simp)
      have hga := gb_trans hgw ga
      generalize w1.alloc (.cells #[.string (B (nmOf none)), .slice va (lsOf none).length vc] 81) = W2 at *
      clear ga
      go_region
      all_goals go_wp2
      all_goals
        refine bodyPost_ret (v := .tuple #[.agg #[.string (B []), .slice none 0 0], .int .i64 2, .int .i64 (m : Int)]) (by simp [results, Tryz.results39, go_sem, B, d0', d1']) rfl ⟨.slice none 0 0, by rw [HTv.out]; rfl, by rw [HTv.out]; exact World.ownsRow_nil _ _ _ _, ?_⟩
        exact gb_drew (gb_on (gb_on hga (Nat.le_refl _)) (Nat.le_refl _))
    | some p =>
      obtain ⟨va, vc, rfl⟩ := own_shape own
      obtain ⟨nm, ls⟩ := p
      simp only [nmOf, lsOf] at own hl ⊢
      have ga := gb_alloc (gb_refl w1 none) (.cells #[.string (B nm), .slice va ls.length vc] 81)
      have d0' := gb_cell ga d0 (by simp)
      have d1' := gb_cell ga d1 (by simp)
      have f0' := gb_froz ga (by omega) f0 (by simp)
      have f1' := gb_froz ga (by omega) f1 (by simp)
      have hga := gb_trans hgw ga
      have own' := own.alloc (.cells #[.string (B nm), .slice va ls.length vc] 81)
      have bx := alloc_new w1 (.cells #[.string (B nm), .slice va ls.length vc] 81) _ rfl
      have hlt2 : w1.heap.size < (w1.alloc (.cells #[.string (B nm), .slice va ls.length vc] 81)).heap.size := by simp
      clear own ga
      go_wp2_with fail
      refine (sorted_any va vc ls _ _ (by exact own') hl).mono ?_
      rintro e w3 ⟨o, k, a, l, c, hs, rfl, hr, g3⟩
      have e0 := gb_cell g3 d0' (by simp)
      have e1 := gb_cell g3 d1' (by simp)
      have k0 := gb_froz g3 (by omega) f0' (by simp)
      have k1 := gb_froz g3 (by omega) f1' (by simp)
      have bx3 := (g3.block _ hlt2 (by simp)).trans bx
      have hg3 := gb_trans hga g3
      have own3 := own'.kept g3 (by
        rcases hk : Value.ownBlock _ with _ | k
        · exact Or.inl rfl
        · right; simp)
      have hsz : w.heap.size ≤ (w1.alloc (.cells #[.string (B nm), .slice va ls.length vc] 81)).heap.size := hga.size
      have y0 : w3.cell? ⟨w1.heap.size, 0, none⟩ = some (.string (B nm)) := by simp [World.cell?, bx3]
      have y1 : w3.cell? ⟨w1.heap.size, 1, none⟩ = some (.slice va ls.length vc) := by simp [World.cell?, bx3]
      have HSP : Hid (sortP [] 0 ls = (o, k)) := hs
      clear hs d0 d1 f0 f1 d0' d1' f0' f1' own' bx bx3 hlt2 q1 r1 hgw hga
      cases o with
      | none =>
        have hk := (sortP_none ls [] 0 k HSP.out).2
        simp only [Nat.zero_add] at hk
        have HTv : Hid (T = ⟨3, (ls[k]).at_, [], []⟩) := by show _ = _; rw [← HT.out, readP_twice s m k (nm, ls) h100 A2.out HSP.out hk]
        obtain ⟨gi, rfl⟩ : ∃ gi, va = some ⟨gi, 0, none⟩ := by
          rcases own3.2 with ⟨_, h0⟩ | ⟨g', cap', cur, h1, _⟩
          · omega
          · simp at h1; exact ⟨g', h1.1⟩
        have hc := (lab_cells own3 k hk).2.2
        have hki : (k : Int) < (ls.length : Int) := by omega
        clear HT A2 own3 hr HSP g3
        go_wp2
        go_region
        all_goals go_wp2
        all_goals
          refine bodyPost_ret (v := .tuple #[.agg #[.string (B []), .slice none 0 0], .int .i64 3, .int .i64 ((ls[k]).at_ : Int)]) (by simp [results, Tryz.results39, go_sem, B, e0, e1]) rfl ⟨.slice none 0 0, by rw [HTv.out]; rfl, by rw [HTv.out]; exact World.ownsRow_nil _ _ _ _, ?_⟩
          exact gb_drew (gb_on (gb_on hg3 (Nat.le_refl _)) (Nat.le_refl _))
      | some r =>
        have hk := (sortP_some ls [] r 0 k HSP.out).1
        simp only [Nat.zero_add] at hk
        have HTv : Hid (T = ⟨0, 0, nm, r⟩) := by show _ = _; rw [← HT.out, readP_ok s m k (nm, ls) r h100 A2.out HSP.out]
        have hr' := hr r rfl
        have HR : Hid (w3.ownsRow _ 130 3 (.slice a l c) r.length (labCells r)) := hr'
        have hki : ¬ (k : Int) < (ls.length : Int) := by omega
        clear HT A2 own3 hr hr' HSP g3 hk
        go_wp2
        refine bodyPost_ret (v := .tuple #[.agg #[.string (B nm), .slice a l c], .int .i64 0, .int .i64 0]) (by simp [results, Tryz.results39, go_sem, e0, e1]) rfl ⟨.slice a l c, by rw [HTv.out]; rfl, ?_, ?_⟩
        · rw [HTv.out]
          exact own_mono (own_set (own_set HR.out (by simp; omega)) (by simp; omega)) hsz
        · exact gb_on (gb_on hg3 (Nat.le_refl _)) (Nat.le_refl _)

end Go.Proofs.YtcfdemhokbddiaaGreatDoor
