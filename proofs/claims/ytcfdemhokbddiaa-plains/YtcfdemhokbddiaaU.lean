/-
  The document's own reader: a comma between labels; the step whole, at every state.
-/
import Derived.Test.YtcfdemhokbddiaaT
namespace Go.Proofs.Ytcfdemhokbddiaa
open Go.RowKit

set_option maxRecDepth 100000 in
set_option maxHeartbeats 1000000 in
theorem take5_comma (b : Nat) (st : St) (c : UInt8) (at_ : Nat) (w : World) (h : TextAt b st w) (hn : st.next = 5) (hc : c.toNat = 44) (hat : at_ ≤ 1000) (hls : st.labs.length ≤ 2) :
    Calls Try.prog 17 #[.pointer (some ⟨b, 0, none⟩), .int .u8 (c.toNat : Int), .int .i64 (at_ : Int)] w fun e w' => e = .returned (.bool true) ∧
      TextAt b { st with next := 1, labs := st.labs ++ [⟨[], [], at_ + 1⟩] } w' ∧ Below b w w' := by
  have T1 : TextAt b { st with next := 1 } (w.setCell ⟨b, 0, none⟩ (.int .i64 1)) := h.setNext 1
  obtain ⟨a, cp, hb, own⟩ := h
  have c0 : w.cell? ⟨b, 0, none⟩ = some (.int .i64 5) := by simp [World.cell?, hb, hn]
  have f0 : w.frozen? ⟨b, 0, none⟩ = false := by simp [World.frozen?, hb]
  have c3 : w.cell? ⟨b, 3, none⟩ = some (.slice a st.labs.length cp) := by simp [World.cell?, hb]
  obtain ⟨i0, hi, hz0, hz1, hz2⟩ := info_parts Try.info62
  have HI : Hid (Try.prog.info? 62 = some i0 ∧ i0.zero = some (.agg #[.string ⟨#[]⟩, .string ⟨#[]⟩, .int .i64 0]) ∧ i0.size = 3 ∧ i0.bytes = 40) := ⟨hi, hz0, hz1, hz2⟩
  have h44 : ((c.toNat : Int) == 44) = true := by simp; omega
  have hk : (st.labs.length : Int) - 1 < 2 := by omega
  have hbl : b < w.heap.size := lt_of hb
  have hb2 : (w.setCell ⟨b, 0, none⟩ (.int .i64 1)).heap[b]? = some (.cells #[.int .i64 1, .int .i64 (st.long : Int), .string (B st.name), .slice a st.labs.length cp] 59) := by rw [text_set hb]; rfl
  have own2 : (w.setCell ⟨b, 0, none⟩ (.int .i64 1)).ownsRow (b + 1) 62 3 (.slice a st.labs.length cp) st.labs.length (labCells st.labs) := own_set own (by omega)
  have B2 : Below b w (w.setCell ⟨b, 0, none⟩ (.int .i64 1)) := (Below.refl b w).setCell (p := ⟨b, 0, none⟩) (Nat.le_refl _) _
  have e3 : (w.setCell ⟨b, 0, none⟩ (.int .i64 1)).cell? ⟨b, 3, none⟩ = some (.slice a st.labs.length cp) := by simp [World.cell?, hb2]
  have hsz : (w.setCell ⟨b, 0, none⟩ (.int .i64 1)).heap.size = w.heap.size := by simp [World.setCell]
  clear hn hc hi hz0 hz1 hz2 T1
  go_enter Try.func17, Try.ntmps17
  go_wp2_with (at_builtin; refine wpList_append_own _ rfl _ _ 57 rfl (b + 1) 62 i0 (.agg #[.string ⟨#[]⟩, .string ⟨#[]⟩, .int .i64 0]) 3 40 Try.underlying57 HI.out.1 HI.out.2.1 HI.out.2.2.1 HI.out.2.2.2 rfl (by decide) _ _ _ rfl (own2.alloc _) ⟨w.heap.size, 0, none⟩ 1 1 [.string ⟨#[]⟩, .string ⟨#[]⟩, .int .i64 ((at_ : Int) + 1)] rfl rfl ?c1 ?c2 ?c3 ?c4 ?c5 ?_)
  case c1 =>
    intro j u hj
    have hnew := alloc_new (w.setCell ⟨b, 0, none⟩ (.int .i64 1)) (.cells #[.string ⟨#[]⟩, .string ⟨#[]⟩, .int .i64 ((at_ : Int) + 1)] 62) w.heap.size hsz.symm
    rw [Addr.add_lit, Lib.cell_of_heap hnew]
    simpa using hj
  case c2 => intro u hu; simp at hu; rcases hu with rfl | rfl <;> rfl
  case c3 => unfold maxLen; omega
  case c4 => omega
  case c5 => simp [hsz]; omega
  intro v' w2 hown2 hgr _
  have hrow : ∀ k, Value.ownBlock (.slice a st.labs.length cp) = some k → b + 1 ≤ k := fun k hk => (own2.lt k hk).1
  have hb3 : w2.heap[b]? = some (.cells #[.int .i64 1, .int .i64 (st.long : Int), .string (B st.name), .slice a st.labs.length cp] 59) := by
    rw [hgr.block b (by simp [hsz]; omega) (fun e => by have := hrow b e.symm; omega)]; exact alloc_keep hb2 _
  have B3 : Below b w w2 := (B2.alloc (by omega) _).grown hgr (by simp [hsz]; omega) (fun k hk => by have := hrow k hk; omega)
  have hx : labCells st.labs ++ [.string ⟨#[]⟩, .string ⟨#[]⟩, .int .i64 ((at_ : Int) + 1)] = labCells (st.labs ++ [⟨[], [], at_ + 1⟩]) := by simp [labCells, Lab.cells, B]
  rw [hx] at hown2
  obtain ⟨g, cap, rfl⟩ : ∃ g cap, v' = .slice (some ⟨g, 0, none⟩) (st.labs.length + 1) cap := by
    rcases hown2.2 with ⟨_, h0⟩ | ⟨g', cap', cur', hv', _⟩
    · omega
    · exact ⟨g', cap', hv'⟩
  have c3' : w2.cell? ⟨b, 3, none⟩ = some (.slice a st.labs.length cp) := by simp [World.cell?, hb3]
  have f3' : w2.frozen? ⟨b, 3, none⟩ = false := by simp [World.frozen?, hb3]
  have hbl2 : b < w2.heap.size := lt_of hb3
  clear hx hgr hrow own2 own B2 hb2 hb c0 f0 c3 e3 hsz
  go_wp2
  go_ret
  refine ⟨rfl, ⟨some ⟨g, 0, none⟩, cap, ?_, ?_⟩, ?_⟩
  · rw [text_set hb3]; simp
  · have := own_set (R := b) (o := 3) (x := .slice (some ⟨g, 0, none⟩) (st.labs.length + 1) cap) hown2 (by omega)
    simpa using this
  · exact B3.setCell (p := ⟨b, 3, none⟩) (Nat.le_refl _) _

/-- What holds of the document's reader behind k bytes. -/
structure Inv (k : Nat) (st : St) : Prop where
  long : st.long ≤ k
  name : st.name.length ≤ k
  len : st.labs.length ≤ k
  each : ∀ x ∈ st.labs, x.name.length ≤ k ∧ x.val.length ≤ k
  some : 1 ≤ st.next → st.next ≤ 4 → st.labs ≠ []
  next : st.next ≤ 6

theorem snoc_of {l : List Lab} (h : l ≠ []) : ∃ a x, l = a ++ [x] := ⟨l.dropLast, l.getLast h, (List.dropLast_concat_getLast h).symm⟩

theorem modLast_inv (k : Nat) (f : Lab → Lab) (l : List Lab) (hf : ∀ x, x.name.length ≤ k → x.val.length ≤ k → (f x).name.length ≤ k + 1 ∧ (f x).val.length ≤ k + 1) (h : ∀ x ∈ l, x.name.length ≤ k ∧ x.val.length ≤ k) :
    (modLast f l).length = l.length ∧ ∀ x ∈ modLast f l, x.name.length ≤ k + 1 ∧ x.val.length ≤ k + 1 := by
  by_cases hl : l = []
  · subst hl; simp [modLast]
  · obtain ⟨a, x, rfl⟩ := snoc_of hl
    rw [modLast_snoc]
    refine ⟨by simp, fun y hy => ?_⟩
    simp at hy
    rcases hy with hy | rfl
    · have := h y (by simp [hy]); omega
    · have := h x (by simp); exact hf x this.1 this.2

theorem step_inv (k at_ : Nat) (st st' : St) (c : UInt8) (h : Inv k st) (hs : stepR st c at_ = some st') : Inv (k + 1) st' := by
  obtain ⟨h1, h2, h3, h4, h5, h6⟩ := h
  have hN := modLast_inv k (fun x => { x with name := x.name ++ [c] }) st.labs (fun x a b => by simp; omega) h4
  have hV := modLast_inv k (fun x => { x with val := x.val ++ [c] }) st.labs (fun x a b => by simp; omega) h4
  have hE : ∀ x ∈ st.labs, x.name.length ≤ k + 1 ∧ x.val.length ≤ k + 1 := fun x hx => by have := h4 x hx; omega
  have hA : ∀ x ∈ st.labs ++ [(⟨[], [], at_ + 1⟩ : Lab)], x.name.length ≤ k + 1 ∧ x.val.length ≤ k + 1 := fun x hx => by
    simp at hx
    rcases hx with hx | rfl
    · exact hE x hx
    · simp
  have hne : ∀ f, st.labs ≠ [] → modLast f st.labs ≠ [] := fun f h e => by
    obtain ⟨a, x, e2⟩ := snoc_of h
    rw [e2, modLast_snoc] at e; simp at e
  unfold stepR at hs
  split at hs
  all_goals (repeat' split at hs) <;> simp only [Option.some.injEq, reduceCtorEq] at hs
  all_goals subst hs
  all_goals constructor <;> simp only
  all_goals first
    | omega
    | (simp; omega)
    | exact hE
    | exact hA
    | exact hN.2
    | exact hV.2
    | (rw [hN.1]; omega)
    | (rw [hV.1]; omega)
    | (intro _ _; exact hne _ (h5 (by omega) (by omega)))
    | (intro _ _; exact h5 (by omega) (by omega))
    | (intro _ _; simp)
    | (intro _ _; omega)
    | (split <;> omega)

theorem step_any (k b : Nat) (st : St) (c : UInt8) (at_ : Nat) (w : World) (h : TextAt b st w) (hI : Inv k st) (hk : k ≤ 100) (hat : at_ ≤ 1000) :
    Calls Try.prog 17 #[.pointer (some ⟨b, 0, none⟩), .int .u8 (c.toNat : Int), .int .i64 (at_ : Int)] w fun e w' => e = .returned (.bool (stepR st c at_).isSome) ∧ (∀ st', stepR st c at_ = some st' → TextAt b st' w') ∧ Below b w w' := by
  obtain ⟨h1, h2, h3, h4, h5, h6⟩ := hI
  obtain ⟨next, long, name, labs⟩ := st
  simp only at h1 h2 h3 h4 h5 h6
  have yes : ∀ (st' : St), stepR ⟨next, long, name, labs⟩ c at_ = some st' → (∀ (e : Ending) (w' : World), (e = .returned (.bool true) ∧ TextAt b st' w' ∧ Below b w w') → (e = .returned (.bool (stepR ⟨next, long, name, labs⟩ c at_).isSome) ∧ (∀ st', stepR ⟨next, long, name, labs⟩ c at_ = some st' → TextAt b st' w') ∧ Below b w w')) := by
    rintro st' hs e w' ⟨rfl, a1, a2⟩
    exact ⟨by rw [hs]; rfl, (fun st'' e => by rw [hs] at e; cases e; exact a1), a2⟩
  have no : stepR ⟨next, long, name, labs⟩ c at_ = none → (∀ (e : Ending) (w' : World), (e = .returned (.bool false) ∧ Below b w w') → (e = .returned (.bool (stepR ⟨next, long, name, labs⟩ c at_).isSome) ∧ (∀ st', stepR ⟨next, long, name, labs⟩ c at_ = some st' → TextAt b st' w') ∧ Below b w w')) := by
    rintro hs e w' ⟨rfl, a2⟩
    exact ⟨by rw [hs]; rfl, (fun st'' e => by rw [hs] at e; cases e), a2⟩
  have hn : next = 0 ∨ next = 1 ∨ next = 2 ∨ next = 3 ∨ next = 4 ∨ next = 5 ∨ next = 6 := by omega
  rcases hn with rfl | rfl | rfl | rfl | rfl | rfl | rfl
  · by_cases hg : goesB long (c.toNat : Int) = true
    · have hs : stepR ⟨0, long, name, labs⟩ c at_ = some ⟨0, long + 1, name ++ [c], labs⟩ := by simp [stepR, hg]
      exact (take0_yes b ⟨0, long, name, labs⟩ c at_ w h rfl (by show long ≤ 100; omega) hg (by show name.length ≤ 1000; omega)).mono (yes _ hs)
    · have hg' : goesB long (c.toNat : Int) = false := by simpa using hg
      by_cases h0 : 0 < long ∧ c.toNat = 123
      · have hs : stepR ⟨0, long, name, labs⟩ c at_ = some ⟨1, 0, name, labs ++ [⟨[], [], at_ + 1⟩]⟩ := by
          unfold stepR; simp only; rw [if_neg hg, if_pos h0]
        exact (take0_sign b ⟨0, long, name, labs⟩ c at_ w h rfl (by show long ≤ 100; omega) hg' h0.1 h0.2 hat (by show labs.length ≤ 100; omega)).mono (yes _ hs)
      · have hs : stepR ⟨0, long, name, labs⟩ c at_ = none := by
          unfold stepR; simp only; rw [if_neg hg, if_neg h0]
        exact (take01_no b 0 ⟨0, long, name, labs⟩ c at_ w h rfl (Or.inl rfl) (by show long ≤ 100; omega) (by show labs.length ≤ 100; omega) hg' (by show long = 0 ∨ _; omega)).mono (no hs)
  · obtain ⟨a, x, rfl⟩ := snoc_of (h5 (by omega) (by omega))
    have hx := h4 x (by simp)
    have hal : a.length ≤ 100 := by simp at h3; omega
    by_cases hg : goesB long (c.toNat : Int) = true
    · have hs : stepR ⟨1, long, name, a ++ [x]⟩ c at_ = some ⟨1, long + 1, name, a ++ [{ x with name := x.name ++ [c] }]⟩ := by simp [stepR, hg, modLast_snoc]
      obtain ⟨g, cp, hT⟩ := TextL.of h rfl
      refine (take1_yes b g cp ⟨1, long, name, []⟩ a x c at_ w hT (by show long ≤ 100; omega) hg (by omega) hal).mono ?_
      rintro e w' ⟨e1, e2, e3⟩
      exact yes _ hs e w' ⟨e1, e2.to, e3⟩
    · have hg' : goesB long (c.toNat : Int) = false := by simpa using hg
      by_cases h0 : 0 < long ∧ c.toNat = 61
      · have hs : stepR ⟨1, long, name, a ++ [x]⟩ c at_ = some ⟨2, 0, name, a ++ [x]⟩ := by
          unfold stepR; simp only; rw [if_neg hg, if_pos h0]
        exact (take1_sign b ⟨1, long, name, a ++ [x]⟩ c at_ w h rfl (by show long ≤ 100; omega) (by show (a ++ [x]).length ≤ 100; omega) hg' h0.1 h0.2).mono (yes _ hs)
      · have hs : stepR ⟨1, long, name, a ++ [x]⟩ c at_ = none := by
          unfold stepR; simp only; rw [if_neg hg, if_neg h0]
        exact (take01_no b 1 ⟨1, long, name, a ++ [x]⟩ c at_ w h rfl (Or.inr rfl) (by show long ≤ 100; omega) (by show (a ++ [x]).length ≤ 100; omega) hg' (by show long = 0 ∨ _; omega)).mono (no hs)
  · refine (take2 b ⟨2, long, name, labs⟩ c at_ w h rfl (by show labs.length ≤ 100; omega)).mono ?_
    rintro e w' ⟨rfl, e2, e3⟩
    by_cases hc : c.toNat = 34
    · have hs : stepR ⟨2, long, name, labs⟩ c at_ = some ⟨3, long, name, labs⟩ := by simp [stepR, hc]
      exact yes _ hs _ w' ⟨by simp [hc], e2, e3⟩
    · have hs : stepR ⟨2, long, name, labs⟩ c at_ = none := by simp [stepR, hc]
      exact no hs _ w' ⟨by simp [hc], e3⟩
  · obtain ⟨a, x, rfl⟩ := snoc_of (h5 (by omega) (by omega))
    have hx := h4 x (by simp)
    have hal : a.length ≤ 100 := by simp at h3; omega
    by_cases hc : c.toNat = 34
    · have hs : stepR ⟨3, long, name, a ++ [x]⟩ c at_ = some ⟨5, 0, name, a ++ [x]⟩ := by simp [stepR, hc]
      exact (take3_quote b ⟨3, long, name, a ++ [x]⟩ c at_ w h rfl (by show (a ++ [x]).length ≤ 100; omega) hc).mono (yes _ hs)
    · obtain ⟨g, cp, hT⟩ := TextL.of h rfl
      by_cases h92 : c.toNat = 92
      · refine (take3_esc b g cp ⟨3, long, name, []⟩ a x c at_ w hT (by omega) hal (by show long ≤ 100; omega) h92).mono ?_
        rintro e w' ⟨rfl, e2, e3⟩
        by_cases hl : long + 1 ≤ 16
        · have hs : stepR ⟨3, long, name, a ++ [x]⟩ c at_ = some ⟨4, long + 1, name, a ++ [{ x with val := x.val ++ [c] }]⟩ := by simp [stepR, h92, modLast_snoc]; omega
          exact yes _ hs _ w' ⟨by simp; omega, e2.to, e3⟩
        · have hs : stepR ⟨3, long, name, a ++ [x]⟩ c at_ = none := by simp [stepR, hc]; omega
          exact no hs _ w' ⟨by simp; omega, e3⟩
      · refine (take3_byte b g cp ⟨3, long, name, []⟩ a x c at_ w hT (by omega) hal (by show long ≤ 100; omega) h92 hc).mono ?_
        rintro e w' ⟨rfl, e2, e3⟩
        by_cases hl : long + 1 ≤ 16
        · have hs : stepR ⟨3, long, name, a ++ [x]⟩ c at_ = some ⟨3, long + 1, name, a ++ [{ x with val := x.val ++ [c] }]⟩ := by simp [stepR, h92, hc, modLast_snoc]; omega
          exact yes _ hs _ w' ⟨by simp; omega, e2.to, e3⟩
        · have hs : stepR ⟨3, long, name, a ++ [x]⟩ c at_ = none := by simp [stepR, hc]; omega
          exact no hs _ w' ⟨by simp; omega, e3⟩
  · obtain ⟨a, x, rfl⟩ := snoc_of (h5 (by omega) (by omega))
    have hx := h4 x (by simp)
    have hal : a.length ≤ 100 := by simp at h3; omega
    obtain ⟨g, cp, hT⟩ := TextL.of h rfl
    refine (take4 b g cp ⟨4, long, name, []⟩ a x c at_ w hT (by omega) hal).mono ?_
    rintro e w' ⟨rfl, e2, e3⟩
    by_cases hc : c.toNat = 34 ∨ c.toNat = 92 ∨ c.toNat = 110
    · have hs : stepR ⟨4, long, name, a ++ [x]⟩ c at_ = some ⟨3, long, name, a ++ [{ x with val := x.val ++ [c] }]⟩ := by simp [stepR, hc, modLast_snoc]
      exact yes _ hs _ w' ⟨by simp [hc], e2.to, e3⟩
    · have hs : stepR ⟨4, long, name, a ++ [x]⟩ c at_ = none := by simp [stepR, hc]
      exact no hs _ w' ⟨by simp [hc], e3⟩
  · by_cases hc : c.toNat = 44 ∧ labs.length ≤ 2
    · have hs : stepR ⟨5, long, name, labs⟩ c at_ = some ⟨1, long, name, labs ++ [⟨[], [], at_ + 1⟩]⟩ := by simp [stepR, hc]
      exact (take5_comma b ⟨5, long, name, labs⟩ c at_ w h rfl hc.1 hat hc.2).mono (yes _ hs)
    · refine (take5_end b ⟨5, long, name, labs⟩ c at_ w h rfl (by show labs.length ≤ 100; omega) hc).mono ?_
      rintro e w' ⟨rfl, e2, e3⟩
      by_cases h125 : c.toNat = 125
      · have hs : stepR ⟨5, long, name, labs⟩ c at_ = some ⟨6, long, name, labs⟩ := by simp [stepR, h125]
        exact yes _ hs _ w' ⟨by simp [h125], e2, e3⟩
      · have hs : stepR ⟨5, long, name, labs⟩ c at_ = none := by simp only [stepR, hc, h125, if_false]
        exact no hs _ w' ⟨by simp [h125], e3⟩
  · exact (take6 b ⟨6, long, name, labs⟩ c at_ w h rfl (by show labs.length ≤ 100; omega)).mono (no rfl)

end Go.Proofs.Ytcfdemhokbddiaa
