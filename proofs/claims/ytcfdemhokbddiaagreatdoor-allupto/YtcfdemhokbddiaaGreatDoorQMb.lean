/-
  A range over a function whose iterator keeps places of its own in memory: the iterator's side (Iter) and the loop's (range_out, range_in). What a round turns is told by a list of blocks; the iterator may turn whatever it laid itself. (No program.)
-/
import Derived.Test.YtcfdemhokbddiaaGreatDoorQKj0
import Derived.RangeFuncNested
import Derived.RangeFuncBound
import Derived.RangeFuncCalls
import Derived.RangeFuncLeaves
import Derived.Shelf.Abstract
import Derived.Shelf.RegionOpen
import Derived.WalkKit
import Derived.OwnWalkIn
import Derived.TacticsInMore
import Derived.LoopNIn
import Derived.LoopIn
import Derived.OrdersHeld
import Derived.OrdersIn

namespace Go.Proofs.YtcfdemhokbddiaaGreatDoor
open Go.RowKit Go.Shelf

theorem yield_n {P : Program} {l n m : Nat} {args : Array Value} {W : World} {R : Ending → World → Prop} (h : YieldAt Fence.wide n P l args W R) : YieldAt Fence.wide m P l args W R := by
  obtain ⟨fn, tmps, assign, body, hy, hF, hR⟩ := h
  exact ⟨fn, tmps, assign, body, hy, hF, fun c cs _ => hR c cs (room_wide _)⟩

/-- What an iterator comes to over N items (the k-th is handed over as 'encs k'), whatever the rounds do, if they turn blocks of L alone; R: the blocks that it reads. -/
def Iter (P : Program) (g : Nat) (lb : Array Value) (encs : Nat → Array Value) (N : Nat) (R : Nat → Prop) (w : World) : Prop :=
  ∀ (l : Nat) (L : List Nat) (J Jx : Nat → World → Prop) (W : World), Below w.heap.size w W → (∀ b ∈ L, b < W.heap.size ∧ ¬ R b) →
    (∀ k A B, J k A → Below W.heap.size A B → J k B) → (∀ k A B, Jx k A → Below W.heap.size A B → Jx k B) →
    (∀ k A, k < N → J k A → YieldAt Fence.wide 0 P l (encs k) A fun e B => Kept L A B ∧ ((e = .returned (.bool true) ∧ J (k + 1) B) ∨ (e = .returned (.bool false) ∧ Jx k B))) →
    J 0 W →
    Calls P g (#[.func (.yield l) #[] #[]] ++ lb) W fun e B => (∃ v, e = .returned v) ∧ Kept L W B ∧ (J N B ∨ ∃ k, k < N ∧ Jx k B)

/-- How a round may be left. -/
def rndPost (L : List Nat) (I : Nat → World → Prop) (Ix : Code → Nat → World → Prop) (k : Nat) (W : World) : Exit → Act → World → Prop
  | .normal, _, W' => Kept L W W' ∧ I (k + 1) W'
  | .ret, _, W' => Kept L W W' ∧ Ix .ret k W'
  | .exit id, _, W' => Kept L W W' ∧ Ix (.exit id) k W'
  | .goto t, _, W' => Kept L W W' ∧ Ix (.goto t) k W'
  | .panic _, _, _ => False
  | .outgrown, _, _ => False

theorem kept_put {L : List Nat} {W : World} {l : Nat} (o : Obj) (hl : l ∈ L ∨ W.heap.size ≤ l) : Kept L W (W.putObj l o) :=
  Kept.of_some (grownBy_putObj' W l o) L hl
theorem below_put {n : Nat} {W : World} {l : Nat} (o : Obj) (hl : n ≤ l) (hn : n ≤ W.heap.size) : Below n W (W.putObj l o) :=
  (Below.refl n W).grown (grownBy_putObj' W l o) hn (fun k e => by cases e; exact hl)
theorem Kept.below {L : List Nat} {A B : World} {n : Nat} (h : Kept L A B) (hn : n ≤ A.heap.size) (hL : ∀ b ∈ L, n ≤ b) : Below n A B :=
  ⟨h.os, h.tape, h.output, h.size, fun k hk => h.block k (by omega) (fun hm => by have := hL k hm; omega)⟩

section
variable {P : Program} {n : Nat}

/-- A round of the loop whose record lies at l. -/
theorem round_of {l : Nat} {rec : LoopState → Option Code → Loop} {fn : FuncId} {tmps0 : Array Value} {ps : Array Tmp} {assign body : Code} {D : Nat} (hrec : rec = fun st pe => { state := st, pending := pe, fn, tmps := tmps0, params := ps, assign, body, defers := D })
    {L : List Nat} {I : Nat → World → Prop} {Ix : Code → Nat → World → Prop} {B : Nat} (hlB : B ≤ l) (hL : ∀ b ∈ L, b < B)
    (hI : ∀ k A C, I k A → Below B A C → I k C) (hIx : ∀ c k A C, Ix c k A → Below B A C → Ix c k C)
    {k : Nat} {args : Array Value} (hargs : args.size = ps.size) (Ax : Act → World → Prop) (hAx : ∀ a' A o r, Ax a' A → A.heap[l]? = some (.loop r) → Ax a' (A.putObj l o))
    (hassign : ∀ (W : World) (K : Act → World → Prop), I k W → (∀ a' W', W.grownBy W' none → Ax a' W' → K a' W') → assign.wpIn (Fence.wide.inRound l) n P (Exit.then K (fun _ _ _ => False)) { tmps := (ps.zip args).foldl (fun t (p, v) => t.setIfInBounds p v) tmps0, defers := [] } W)
    (hbody : ∀ (a' : Act) (W : World), (∃ r, W.heap[l]? = some (.loop r)) → I k W → Ax a' W → body.wpIn (Fence.wide.inRound l) n P (rndPost L I Ix k W) a' W)
    {W : World} (hi : I k W) (hl : W.heap[l]? = some (.loop (rec .ready none))) :
    YieldAt Fence.wide n P l args W fun e C => Kept (l :: L) W C ∧
      ((e = .returned (.bool true) ∧ I (k + 1) C ∧ C.heap[l]? = some (.loop (rec .ready none))) ∨ (e = .returned (.bool false) ∧ ∃ c, Ix c k C ∧ C.heap[l]? = some (.loop (rec .done (some c))))) := by
  have hy := run_yield (P := P) (args := args) hl (by rw [hrec]; exact hargs)
  rw [hrec] at hy
  refine ⟨fn, _, assign, body, hy, roundIn_of_wpIn trivial (hassign W _ hi ?_)⟩
  intro a' Wa hga hax
  have hlt0 : l < W.heap.size := (Array.getElem?_eq_some_iff.1 hl).1
  have hla := (hga.block l hlt0 (by simp)).trans hl
  have hia : I k Wa := hI k _ _ hi ⟨hga.os, hga.tape, hga.output, hga.size, fun b hb => hga.block b (by omega) (by simp)⟩
  have hka : Kept (l :: L) W Wa := Kept.of_none hga _
  clear hy hl hi hlt0
  have hlt : l < Wa.heap.size := (Array.getElem?_eq_some_iff.1 hla).1
  refine ⟨_, run_beginRound hla (by rw [hrec]), ?_⟩
  have hl2 : (Wa.putObj l (.loop { rec .ready none with state := .busy })).heap[l]? = some (.loop { rec .ready none with state := .busy }) := World.putObj_heap_same hlt
  have hkp : Kept (l :: L) W (Wa.putObj l (.loop { rec .ready none with state := .busy })) := hka.trans (kept_put _ (Or.inl (by simp)))
  refine wpIn_mono (hbody a' _ ⟨_, hl2⟩ (hI k _ _ hia (below_put _ hlB (by omega))) (hAx _ _ _ _ hax hla)) ?_
  have fin : ∀ (jump : Option Code) (W3 : World), Kept L (Wa.putObj l (.loop { rec .ready none with state := .busy })) W3 →
      (Instr.endRound l jump).run P W3 = .ok (.bool jump.isNone) (W3.putObj l (.loop (rec (if jump.isNone then .ready else .done) jump))) ∧
      Below B W3 (W3.putObj l (.loop (rec (if jump.isNone then .ready else .done) jump))) ∧
      (W3.putObj l (.loop (rec (if jump.isNone then .ready else .done) jump))).heap[l]? = some (.loop (rec (if jump.isNone then .ready else .done) jump)) ∧
      Kept (l :: L) W (W3.putObj l (.loop (rec (if jump.isNone then .ready else .done) jump))) := fun jump W3 hk3 => by
    have hl3 := (hk3.block l (by simpa using hlt) (fun hm => by have := hL l hm; omega)).trans hl2
    have hlt3 := (Array.getElem?_eq_some_iff.1 hl3).1
    have hrun := run_endRound (P := P) jump hl3
    rw [hrec] at hrun ⊢
    refine ⟨hrun, below_put _ hlB (by omega), World.putObj_heap_same hlt3, ?_⟩
    rw [hrec] at hk3 hkp
    exact (hkp.trans (hk3.mono (fun b hb => Or.inl (by simp [hb])))).trans (kept_put _ (Or.inl (by simp)))
  rintro e a3 W3 hp
  cases e with
  | normal =>
    obtain ⟨hk3, hi3⟩ := hp
    obtain ⟨hr, hb3, hl4, hk4⟩ := fin none W3 hk3
    exact ⟨_, _, hr, hk4, .inl ⟨rfl, hI _ _ _ hi3 hb3, hl4⟩⟩
  | ret =>
    obtain ⟨hk3, hi3⟩ := hp
    obtain ⟨hr, hb3, hl4, hk4⟩ := fin (some .ret) W3 hk3
    exact ⟨_, _, hr, hk4, .inr ⟨rfl, .ret, hIx _ _ _ _ hi3 hb3, hl4⟩⟩
  | exit id =>
    obtain ⟨hk3, hi3⟩ := hp
    obtain ⟨hr, hb3, hl4, hk4⟩ := fin (some (.exit id)) W3 hk3
    exact ⟨_, _, hr, hk4, .inr ⟨rfl, .exit id, hIx _ _ _ _ hi3 hb3, hl4⟩⟩
  | goto t =>
    obtain ⟨hk3, hi3⟩ := hp
    obtain ⟨hr, hb3, hl4, hk4⟩ := fin (some (.goto t)) W3 hk3
    exact ⟨_, _, hr, hk4, .inr ⟨rfl, .goto t, hIx _ _ _ _ hi3 hb3, hl4⟩⟩
  | panic ch => exact hp.elim
  | outgrown => exact hp.elim

/-- The statement, where it stands in no round. -/
theorem range_out {g : Operand} {ps : Array Tmp} {assign body : Code} {Q : Exit → Act → World → Prop} {a : Act} {w : World}
    {gf : Nat} {lb : Array Value} (hg : a.eval g = .func (.func gf) #[] lb) (eg : ∀ args w, (callFunc gf args).run P w = .ok (.enter gf args) w)
    {encs : Nat → Array Value} {N : Nat} {R : Nat → Prop} (hseq : Iter P gf lb encs N R w) (hps : ∀ k, k < N → (encs k).size = ps.size) (hR : ∀ b, w.heap.size ≤ b → ¬ R b)
    (L : List Nat) (hL : ∀ b ∈ L, b < w.heap.size ∧ ¬ R b)
    (I : Nat → World → Prop) (Ix : Code → Nat → World → Prop) (hI : ∀ k A B, I k A → Below w.heap.size A B → I k B) (hIx : ∀ c k A B, Ix c k A → Below w.heap.size A B → Ix c k B) (h0 : I 0 w) (Ax : Nat → Act → World → Prop) (hAx : ∀ l k a' A o r, Ax k a' A → A.heap[l]? = some (.loop r) → Ax k a' (A.putObj l o))
    (hassign : ∀ (l k : Nat) (W : World) (K : Act → World → Prop), k < N → I k W → (∀ a' W', W.grownBy W' none → Ax k a' W' → K a' W') →
      assign.wpIn (Fence.wide.inRound l) n P (Exit.then K (fun _ _ _ => False)) { tmps := (ps.zip (encs k)).foldl (fun t (p, v) => t.setIfInBounds p v) a.tmps, defers := [] } W)
    (hbody : ∀ (l k : Nat) (a' : Act) (W : World), w.heap.size ≤ l → (∃ r, W.heap[l]? = some (.loop r)) → k < N → I k W → Ax k a' W → body.wpIn (Fence.wide.inRound l) n P (rndPost L I Ix k W) a' W)
    (hdone : ∀ (D : Nat) (W : World), w.heap.size ≤ D → Kept L w W → I N W → W.heap[D]? = some (.deferred (some [])) → Q .normal { a with defers := { target := .collected D, args := #[] } :: a.defers } W)
    (hstop : ∀ (D : Nat) (c : Code) (k : Nat) (W : World), w.heap.size ≤ D → Kept L w W → k < N → Ix c k W → W.heap[D]? = some (.deferred (some [])) → c.wpIn Fence.wide n P Q { a with defers := { target := .collected D, args := #[] } :: a.defers } W) :
    (Code.rangeFunc g ps assign body).wpIn Fence.wide n P Q a w := by
  refine wpIn_rangeFunc ?_
  intro fn _
  obtain ⟨rec, hrec⟩ : ∃ rec : LoopState → Option Code → Loop, rec = fun st pe => { state := st, pending := pe, fn, tmps := a.tmps, params := ps, assign, body, defers := w.heap.size } := ⟨_, rfl⟩
  obtain ⟨W1, hW1⟩ : ∃ W1, (w.alloc (.deferred (some []))).alloc (.loop (rec .ready none)) = W1 := ⟨_, rfl⟩
  have hz1 : W1.heap.size = w.heap.size + 2 := by rw [← hW1]; simp
  have hL1 : W1.heap[w.heap.size + 1]? = some (.loop (rec .ready none)) := by
    rw [← hW1]; have := World.alloc_heap_new (w.alloc (.deferred (some []))) (.loop (rec .ready none)); rwa [World.size_alloc] at this
  have hK1 : W1.heap[w.heap.size]? = some (.deferred (some [])) := by
    rw [← hW1]; exact (Below.heap_alloc _ _ _ (by simp)).trans (World.alloc_heap_new w _)
  have hb1 : Below w.heap.size w W1 := by rw [← hW1]; exact ((Below.refl _ w).alloc (Nat.le_refl _) _).alloc (by simp) _
  have hk1 : Kept L w W1 := ⟨hb1.os, hb1.tape, hb1.output, hb1.size, fun k hk _ => hb1.block k hk⟩
  have hI1 : I 0 W1 := hI 0 _ _ h0 hb1
  refine ⟨w.heap.size + 1, [{ target := .collected w.heap.size, args := #[] }], W1, { target := .fn (.func gf) lb, args := #[.func (.yield (w.heap.size + 1)) #[] #[]] }, W1, gf,
    #[.func (.yield (w.heap.size + 1)) #[] #[]] ++ lb, W1, ?_, ?_, ?_, ?_, (fun h => by cases h), ?_⟩
  · rw [← hW1, hrec]; exact run_enterLoop_outer _ _ _ _ _
  · simp only [resolve, hg]
    simp [go_sem]
  · intro f' _; trivial
  · simp [invoke, go_sem, eg]
  · have hbn : ∀ A B : World, Below W1.heap.size A B → Below w.heap.size A B := fun A B h => h.mono (by omega)
    refine callsIn_wide.2 ((hseq (w.heap.size + 1) ((w.heap.size + 1) :: L)
      (fun k W => I k W ∧ W.heap[w.heap.size + 1]? = some (.loop (rec .ready none)) ∧ W.heap[w.heap.size]? = some (.deferred (some [])))
      (fun k W => ∃ c, Ix c k W ∧ W.heap[w.heap.size + 1]? = some (.loop (rec .done (some c))) ∧ W.heap[w.heap.size]? = some (.deferred (some [])))
      W1 hb1 ?_ ?_ ?_ ?_ ⟨hI1, hL1, hK1⟩).mono ?_)
    · intro b hb
      rcases List.mem_cons.1 hb with rfl | hb
      · exact ⟨by omega, hR _ (by omega)⟩
      · exact ⟨by have := (hL b hb).1; omega, (hL b hb).2⟩
    · rintro k A B ⟨h1, h2, h3⟩ hb
      exact ⟨hI k A B h1 (hbn _ _ hb), (hb.block _ (by omega)).trans h2, (hb.block _ (by omega)).trans h3⟩
    · rintro k A B ⟨c, h1, h2, h3⟩ hb
      exact ⟨c, hIx c k A B h1 (hbn _ _ hb), (hb.block _ (by omega)).trans h2, (hb.block _ (by omega)).trans h3⟩
    · rintro k A hk ⟨h1, h2, h3⟩
      obtain ⟨fn', tmps', as', bo', hy, hR'⟩ := yield_n (m := 0) (round_of (n := n) hrec (L := L) (I := I) (Ix := Ix) (B := w.heap.size) (by omega) (fun b hb => (hL b hb).1) hI hIx (hps k hk) (Ax k) (fun a' A o r => hAx _ k a' A o r) (fun W K hi hK => hassign _ k W K hk hi hK) (fun a' W hr hi hax => hbody _ k a' W (by omega) hr hk hi hax) h1 h2)
      refine ⟨fn', tmps', as', bo', hy, hR'.mono ?_⟩
      rintro e C ⟨hkc, hc⟩
      have h3' : C.heap[w.heap.size]? = some (.deferred (some [])) := (hkc.block _ (Array.getElem?_eq_some_iff.1 h3).1 (fun hm => by
        rcases List.mem_cons.1 hm with e | hm
        · omega
        · have := (hL _ hm).1; omega)).trans h3
      refine ⟨hkc, ?_⟩
      rcases hc with ⟨rfl, hi, hl⟩ | ⟨rfl, c, hi, hl⟩
      · exact .inl ⟨rfl, hi, hl, h3'⟩
      · exact .inr ⟨rfl, c, hi, hl, h3'⟩
    · rintro e W2 ⟨⟨v, rfl⟩, hk2, hend⟩
      have hsz2 := hk2.size
      have hkw : Kept L w W2 := by
        refine ⟨hk2.os.trans hk1.os, hk2.tape.trans hk1.tape, hk2.output.trans hk1.output, Nat.le_trans hk1.size hk2.size, fun k hk hn => (hk2.block k (by omega) (fun hm => ?_)).trans (hk1.block k hk hn)⟩
        rcases List.mem_cons.1 hm with e | hm
        · omega
        · exact hn hm
      have hkp : ∀ o, Kept L w (W2.putObj (w.heap.size + 1) o) := fun o => ⟨hkw.os, hkw.tape, hkw.output, by simpa using hkw.size, fun k hk hn => (World.putObj_heap_other (by omega)).trans (hkw.block k hk hn)⟩
      rcases hend with ⟨hi, hl, hk⟩ | ⟨k, hkN, c, hi, hl, hk⟩
      · exact ⟨none, _, by have := run_endLoop (P := P) hl (by rw [hrec]; simp); rw [hrec] at this; exact this,
          hdone _ _ (Nat.le_refl _) (hkp _) (hI _ _ _ hi (below_put _ (by omega) (by omega))) ((World.putObj_heap_other (by omega)).trans hk)⟩
      · exact ⟨some c, _, by have := run_endLoop (P := P) hl (by rw [hrec]; simp); rw [hrec] at this; exact this,
          hstop _ c k _ (Nat.le_refl _) (hkp _) hkN (hIx _ _ _ _ hi (below_put _ (by omega) (by omega))) ((World.putObj_heap_other (by omega)).trans hk)⟩

/-- The statement, where it stands in a round of the loop l₀. -/
theorem range_in {l₀ : Nat} {r₀ : Loop} {g : Operand} {ps : Array Tmp} {assign body : Code} {Q : Exit → Act → World → Prop} {a : Act} {w : World} (hl₀ : w.heap[l₀]? = some (.loop r₀))
    {gf : Nat} {lb : Array Value} (hg : a.eval g = .func (.func gf) #[] lb) (eg : ∀ args w, (callFunc gf args).run P w = .ok (.enter gf args) w)
    {encs : Nat → Array Value} {N : Nat} {R : Nat → Prop} (hseq : Iter P gf lb encs N R w) (hps : ∀ k, k < N → (encs k).size = ps.size) (hR : ∀ b, w.heap.size ≤ b → ¬ R b)
    (L : List Nat) (hL : ∀ b ∈ L, b < w.heap.size ∧ ¬ R b)
    (I : Nat → World → Prop) (Ix : Code → Nat → World → Prop) (hI : ∀ k A B, I k A → Below w.heap.size A B → I k B) (hIx : ∀ c k A B, Ix c k A → Below w.heap.size A B → Ix c k B) (h0 : I 0 w) (Ax : Nat → Act → World → Prop) (hAx : ∀ l k a' A o r, Ax k a' A → A.heap[l]? = some (.loop r) → Ax k a' (A.putObj l o))
    (hassign : ∀ (l k : Nat) (W : World) (K : Act → World → Prop), k < N → I k W → (∀ a' W', W.grownBy W' none → Ax k a' W' → K a' W') →
      assign.wpIn (Fence.wide.inRound l) n P (Exit.then K (fun _ _ _ => False)) { tmps := (ps.zip (encs k)).foldl (fun t (p, v) => t.setIfInBounds p v) a.tmps, defers := [] } W)
    (hbody : ∀ (l k : Nat) (a' : Act) (W : World), w.heap.size ≤ l → (∃ r, W.heap[l]? = some (.loop r)) → k < N → I k W → Ax k a' W → body.wpIn (Fence.wide.inRound l) n P (rndPost L I Ix k W) a' W)
    (hdone : ∀ (W : World), Kept L w W → I N W → Q .normal a W)
    (hstop : ∀ (c : Code) (k : Nat) (W : World), Kept L w W → k < N → Ix c k W → c.wpIn (Fence.wide.inRound l₀) n P Q a W) :
    (Code.rangeFunc g ps assign body).wpIn (Fence.wide.inRound l₀) n P Q a w := by
  refine wpIn_rangeFunc ?_
  intro fn _
  obtain ⟨rec, hrec⟩ : ∃ rec : LoopState → Option Code → Loop, rec = fun st pe => { state := st, pending := pe, fn, tmps := a.tmps, params := ps, assign, body, defers := r₀.defers } := ⟨_, rfl⟩
  obtain ⟨W1, hW1⟩ : ∃ W1, w.alloc (.loop (rec .ready none)) = W1 := ⟨_, rfl⟩
  have hz1 : W1.heap.size = w.heap.size + 1 := by rw [← hW1]; simp
  have hL1 : W1.heap[w.heap.size]? = some (.loop (rec .ready none)) := by rw [← hW1]; exact World.alloc_heap_new w _
  have hb1 : Below w.heap.size w W1 := by rw [← hW1]; exact (Below.refl _ w).alloc (Nat.le_refl _) _
  have hk1 : Kept L w W1 := ⟨hb1.os, hb1.tape, hb1.output, hb1.size, fun k hk _ => hb1.block k hk⟩
  have hI1 : I 0 W1 := hI 0 _ _ h0 hb1
  refine ⟨w.heap.size, [], W1, { target := .fn (.func gf) lb, args := #[.func (.yield w.heap.size) #[] #[]] }, W1, gf,
    #[.func (.yield w.heap.size) #[] #[]] ++ lb, W1, ?_, ?_, ?_, ?_, (fun h => by cases h), ?_⟩
  · rw [← hW1, hrec]; exact run_enterLoop_inner hl₀ _ _ _ _ _
  · simp only [resolve, hg]
    simp [go_sem]
  · intro f' _; trivial
  · simp [invoke, go_sem, eg]
  · have hbn : ∀ A B : World, Below W1.heap.size A B → Below w.heap.size A B := fun A B h => h.mono (by omega)
    refine CallsIn.inRound l₀ (callsIn_wide.2 ((hseq w.heap.size (w.heap.size :: L)
      (fun k W => I k W ∧ W.heap[w.heap.size]? = some (.loop (rec .ready none)))
      (fun k W => ∃ c, Ix c k W ∧ W.heap[w.heap.size]? = some (.loop (rec .done (some c))))
      W1 hb1 ?_ ?_ ?_ ?_ ⟨hI1, hL1⟩).mono ?_))
    · intro b hb
      rcases List.mem_cons.1 hb with rfl | hb
      · exact ⟨by omega, hR _ (by omega)⟩
      · exact ⟨by have := (hL b hb).1; omega, (hL b hb).2⟩
    · rintro k A B ⟨h1, h2⟩ hb
      exact ⟨hI k A B h1 (hbn _ _ hb), (hb.block _ (by omega)).trans h2⟩
    · rintro k A B ⟨c, h1, h2⟩ hb
      exact ⟨c, hIx c k A B h1 (hbn _ _ hb), (hb.block _ (by omega)).trans h2⟩
    · rintro k A hk ⟨h1, h2⟩
      exact yield_n (m := 0) (round_of (n := n) hrec (L := L) (I := I) (Ix := Ix) (B := w.heap.size) (Nat.le_refl _) (fun b hb => (hL b hb).1) hI hIx (hps k hk) (Ax k) (fun a' A o r => hAx _ k a' A o r) (fun W K hi hK => hassign _ k W K hk hi hK) (fun a' W hr hi hax => hbody _ k a' W (Nat.le_refl _) hr hk hi hax) h1 h2)
    · rintro e W2 ⟨⟨v, rfl⟩, hk2, hend⟩
      have hsz2 := hk2.size
      have hkw : Kept L w W2 := by
        refine ⟨hk2.os.trans hk1.os, hk2.tape.trans hk1.tape, hk2.output.trans hk1.output, Nat.le_trans hk1.size hk2.size, fun k hk hn => (hk2.block k (by omega) (fun hm => ?_)).trans (hk1.block k hk hn)⟩
        rcases List.mem_cons.1 hm with e | hm
        · omega
        · exact hn hm
      have hkp : ∀ o, Kept L w (W2.putObj w.heap.size o) := fun o => ⟨hkw.os, hkw.tape, hkw.output, by simpa using hkw.size, fun k hk hn => (World.putObj_heap_other (by omega)).trans (hkw.block k hk hn)⟩
      rcases hend with ⟨hi, hl⟩ | ⟨k, hkN, c, hi, hl⟩
      · exact ⟨none, _, by have := run_endLoop (P := P) hl (by rw [hrec]; simp); rw [hrec] at this; exact this, hdone _ (hkp _) (hI _ _ _ hi (below_put _ (by omega) (by omega)))⟩
      · exact ⟨some c, _, by have := run_endLoop (P := P) hl (by rw [hrec]; simp); rw [hrec] at this; exact this, hstop c k _ (hkp _) hkN (hIx _ _ _ _ hi (below_put _ (by omega) (by omega)))⟩

end
end Go.Proofs.YtcfdemhokbddiaaGreatDoor

/-
  A region that draws its order, inside a fence, where calls keep what the loads read: a load may be taken first. (No program; the like of the library's law outside a fence.)
-/
namespace Go.Proofs.YtcfdemhokbddiaaGreatDoor
open Go.RowKit Go.Shelf

section
variable {F : Fence} {n : Nat} {P : Program} {ops : Array Oper} {Q : Exit → Act → World → Prop} {md : Region.Mode} {S : World → Prop}

/-- In every world that meets S the operation leaves v and does nothing else; it makes no call. -/
def YieldsS (P : Program) (ops : Array Oper) (S : World → Prop) (o : Oper) (v : Value) (a : Act) : Prop := YieldsIf P ops S o v a ∧ ∀ w, o.about P w a.eval = none

theorem YieldsS.other {o : Oper} {v u : Value} {a : Act} {dst : Option Tmp} (hy : YieldsS P ops S o v a) (hs : ∀ cs b, o.op ≠ .select cs b) (h : ∀ d, dst = some d → d ∉ o.looksAt ops) : YieldsS P ops S o v (a.put dst u) :=
  ⟨hy.1.of_same (execOp_put o hs a dst u h) (wanted_put o a dst u h), fun w => (about_put o w a dst u h).trans (hy.2 w)⟩

theorem YieldsS.run {i : Nat} {o : Oper} {v : Value} {a : Act} (hro : F.round = none) (hi : ops[i]? = some o) (hy : YieldsS P ops S o v a) {K : Act → World → Prop} {w : World} (hS : S w) (h : K (a.put o.dst v) w) : wpOpIn F n P ops Q i K a w := by
  have hab : ∀ f, o.about P w a.eval = some f → F.fn f := fun f hf => by rw [hy.2 w] at hf; cases hf
  unfold wpOpIn
  simp only [hi]
  rcases hy.1 with ⟨hw, hv⟩ | ⟨hw, rfl⟩
  · simp only [hw, if_true, Oper.wpIn, hro, Oper.semAt_none, hv w hS, Oper.uponIn]
    exact ⟨hab, h⟩
  · simp only [hw, Bool.false_eq_true, if_false]
    exact ⟨hab, h⟩

/-- Another operation, carried out ahead of it or behind it: the same. -/
theorem wpOpIn_swap {j : Nat} {oi oj : Oper} {v : Value} (hro : F.round = none) (hj : ops[j]? = some oj) (hap : oi.apart ops oj = true) (hsi : ∀ cs b, oi.op ≠ .select cs b) (hsj : ∀ cs b, oj.op ≠ .select cs b)
    (hQ : ∀ c a w, Q (.panic c) (a.put oi.dst v) w → Q (.panic c) a w) {K : Act → World → Prop} {a : Act} {w : World} (hy : YieldsS P ops S oi v a) (h : wpOpIn F n P ops Q j K (a.put oi.dst v) w) :
    wpOpIn F n P ops Q j (fun a' w' => YieldsS P ops S oi v a' ∧ K (a'.put oi.dst v) w') a w := by
  obtain ⟨h1, h2, h3⟩ := Oper.apart_spec hap
  have back : ∀ u w', K ((a.put oi.dst v).put oj.dst u) w' → YieldsS P ops S oi v (a.put oj.dst u) ∧ K ((a.put oj.dst u).put oi.dst v) w' := fun u w' hk =>
    ⟨hy.other hsi h3, by rw [← Act.put_comm a v u h2]; exact hk⟩
  unfold wpOpIn at *
  simp only [hj] at *
  rw [wanted_put oj a oi.dst v h1] at h
  split
  · rename_i hw
    simp only [hw, if_true] at h
    unfold Oper.wpIn at *
    rw [about_put oj w a oi.dst v h1, hro, Oper.semAt_none, execOp_put oj hsj a oi.dst v h1] at h
    rw [hro, Oper.semAt_none]
    refine ⟨h.1, ?_⟩
    replace h := h.2
    generalize (execOp a.eval oj).run P w = r at h
    cases r with
    | halt x w' =>
      cases x <;> simp only [Oper.uponIn] at h ⊢
      exact hQ _ _ _ h
    | ok x w' =>
      cases x with
      | value u => exact back u w' h
      | skip => exact back undef w' h
      | defer d =>
        simp only [Oper.uponIn] at h ⊢
        have hy' : YieldsS P ops S oi v { a with defers := d :: a.defers } := ⟨hy.1.of_same rfl rfl, hy.2⟩
        exact ⟨hy'.other hsi h3, by rw [← Act.put_comm _ v undef h2, ← Act.put_defers]; exact h⟩
      | enter f args =>
        refine ⟨h.1, CallsIn.mono h.2 fun e w'' he => ?_⟩
        cases e with
        | returned u => exact back u w'' he
        | panicked c => exact hQ _ _ _ he
        | outgrown => exact he
      | row row args => exact ⟨h.1, RowsIn.mono h.2 fun u w'' he => back u w'' he⟩
      | round l f tmps assign body =>
        refine ⟨h.1, RoundIn.mono h.2 fun e w'' he => ?_⟩
        cases e with
        | returned u => exact back u w'' he
        | panicked c => exact hQ _ _ _ he
        | outgrown => exact he
      | _ => simp only [Oper.uponIn] at h
  · rename_i hw
    simp only [hw] at h
    rw [about_put oj w a oi.dst v h1] at h
    exact ⟨h.1, back undef w h.2⟩

/-- Whatever order is picked, and S holds behind every operation that is carried out. -/
def wpAnyS (F : Fence) (n : Nat) (P : Program) (md : Region.Mode) (ops : Array Oper) (Q : Exit → Act → World → Prop) (S : World → Prop) : Nat → Array Bool → Act → World → Prop
  | 0, listed, a, w => Region.ready md ops listed = [] ∧ Q .normal a w
  | fuel + 1, listed, a, w =>
    (Region.ready md ops listed = [] → Q .normal a w) ∧
    ∀ i ∈ Region.ready md ops listed, wpOpIn F n P ops Q i (fun a' w' => S w' ∧ wpAnyS F n P md ops Q S fuel (listed.setIfInBounds i true) a' w') a w

theorem wpAnyS_any : ∀ (fuel : Nat) (listed : Array Bool) (a : Act) (w : World), wpAnyS F n P md ops Q S fuel listed a w → wpAnyIn F n P md ops Q fuel listed a w
  | 0, _, _, _, h => h
  | fuel + 1, _, _, _, h => ⟨h.1, fun i hi => wpOpIn_mono (fun a' w' h' => wpAnyS_any fuel _ a' w' h'.2) (h.2 i hi)⟩

theorem wpAnyS_first {i : Nat} {oi : Oper} {v : Value} (hro : F.round = none) (hi : ops[i]? = some oi) (hsel : ∀ (j : Nat) (o : Oper) cs b, ops[j]? = some o → o.op ≠ .select cs b)
    (hQ : ∀ c a w, Q (.panic c) (a.put oi.dst v) w → Q (.panic c) a w) :
    ∀ (fuel : Nat) (listed : Array Bool) (a : Act) (w : World),
      (∀ j oj, ops[j]? = some oj → j ≠ i → listed.getD j true = false → (∀ e ∈ oj.after, Region.binds md e = true → e.on ≠ i) → oi.apart ops oj = true) →
      i ∈ Region.ready md ops listed → YieldsS P ops S oi v a → S w →
      wpAnyS F n P md ops Q S fuel (listed.setIfInBounds i true) (a.put oi.dst v) w → wpAnyS F n P md ops Q S (fuel + 1) listed a w := by
  intro fuel
  induction fuel with
  | zero =>
    intro listed a w _ hr hy hS H
    refine ⟨fun h => (by rw [h] at hr; cases hr), fun j hj => ?_⟩
    by_cases hji : j = i
    · subst hji; exact hy.run hro hi hS ⟨hS, H⟩
    · have := ready_mono hj hji
      rw [H.1] at this; cases this
  | succ fuel ih =>
    intro listed a w hfree hr hy hS H
    refine ⟨fun h => (by rw [h] at hr; cases hr), fun j hj => ?_⟩
    by_cases hji : j = i
    · subst hji; exact hy.run hro hi hS ⟨hS, H⟩
    · obtain ⟨hjun, oj, hoj, hall⟩ := mem_ready.1 hj
      have hnot : ∀ e ∈ oj.after, Region.binds md e = true → e.on ≠ i := fun e he hb heq => by
        have h1 := hall e he hb
        have h0 := (mem_ready.1 hr).1
        rw [heq] at h1
        rcases Nat.lt_or_ge i listed.size with h' | h'
        · simp [h'] at h0 h1; rw [h0] at h1; cases h1
        · simp [Array.getElem?_eq_none h'] at h1
      have h2 := wpOpIn_swap hro hoj (hfree j oj hoj hji hjun hnot) (fun cs b => hsel i oi cs b hi) (fun cs b => hsel j oj cs b hoj) hQ hy (H.2 j (ready_mono hj hji))
      refine wpOpIn_mono (fun a' w' h3 => ⟨h3.2.1, ih (listed.setIfInBounds j true) a' w' (fun k ok hk hki hun hno => hfree k ok hk hki ?_ hno) (ready_mono hr (Ne.symm hji)) h3.1 h3.2.1 ?_⟩) h2
      · by_cases hjk : j = k
        · subst hjk; exact hjun
        · rw [getD_set_ne true hjk] at hun; exact hun
      · rw [Array.setIfInBounds_comm _ _ hji]; exact h3.2.2

theorem wpAnyS_take {i : Nat} {oi : Oper} {v : Value} {fuel : Nat} {listed : Array Bool} {a : Act} {w : World} (hro : F.round = none) (hi : ops[i]? = some oi) (hs : Region.noSelect ops = true) (hf : Region.free md ops listed i = true) (hr : (Region.ready md ops listed).contains i = true)
    (hQ : ∀ c a w, Q (.panic c) (a.put oi.dst v) w → Q (.panic c) a w) (hy : YieldsS P ops S oi v a) (hS : S w) (h : wpAnyS F n P md ops Q S fuel (listed.setIfInBounds i true) (a.put oi.dst v) w) : wpAnyS F n P md ops Q S (fuel + 1) listed a w :=
  wpAnyS_first hro hi (Region.noSelect_spec hs) hQ fuel listed a w (Region.free_spec hi hf) (by simpa using hr) hy hS h
theorem wpAnyS_put {i : Nat} {oi : Oper} {d : Tmp} {v : Value} {fuel : Nat} {listed : Array Bool} {a : Act} {w : World} (hro : F.round = none) (hi : ops[i]? = some oi) (hd : oi.dst = some d) (hs : Region.noSelect ops = true) (hf : Region.free md ops listed i = true) (hr : (Region.ready md ops listed).contains i = true)
    (hQ : ∀ c a w, Q (.panic c) (a.put (some d) v) w → Q (.panic c) a w) (hy : YieldsS P ops S oi v a) (hS : S w) (h : wpAnyS F n P md ops Q S fuel (listed.setIfInBounds i true) (a.put (some d) v) w) : wpAnyS F n P md ops Q S (fuel + 1) listed a w :=
  wpAnyS_take hro hi hs hf hr (by rw [hd]; exact hQ) hy hS (by rw [hd]; exact h)
theorem wpAnyS_one {i : Nat} {oi : Oper} {fuel : Nat} {listed : Array Bool} {a : Act} {w : World} (hi : ops[i]? = some oi) (hr : Region.ready md ops listed = [i])
    (h : ∀ K' : Act → World → Prop, (∀ a' w', S w' → wpAnyS F n P md ops Q S fuel (listed.setIfInBounds i true) a' w' → K' a' w') → if Region.wanted oi (yielded ops a.tmps) = true then Oper.wpIn F n P oi a w K' Q else (∀ f, oi.about P w a.eval = some f → F.fn f) ∧ K' (a.put oi.dst undef) w) :
    wpAnyS F n P md ops Q S (fuel + 1) listed a w := by
  refine ⟨fun h0 => (by rw [hr] at h0; cases h0), fun j hj => ?_⟩
  rw [hr] at hj
  obtain rfl : j = i := by simpa using hj
  exact wpOpIn_step hi fun K' hK => h K' fun a' w' h1 h2 => hK a' w' ⟨h1, h2⟩
theorem wpAnyS_done {listed : Array Bool} {a : Act} {w : World} (hr : Region.ready md ops listed = []) (h : Q .normal a w) : ∀ fuel, wpAnyS F n P md ops Q S fuel listed a w
  | 0 => ⟨hr, h⟩
  | _ + 1 => ⟨fun _ => h, by rw [hr]; simp⟩
theorem region_held {id : Nat} {a : Act} {w : World} (S : World → Prop) (hm : P.follows .mixedOrders = true) (h : wpAnyS F n P .any ops Q S ops.size (Array.replicate ops.size false) a w.drew) : (Code.region id ops true).wpIn F n P Q a w :=
  wpIn_region_any hm (wpAnyS_any _ _ _ _ h)
end

end Go.Proofs.YtcfdemhokbddiaaGreatDoor
