/-
  A page of a reading.
-/
import Derived.Test.YtcfdemhokbddiaaGreatDoorQNl
import Derived.Test.YtcfdemhokbddiaaGreatDoorQOa

namespace Go.Proofs.YtcfdemhokbddiaaGreatDoor
open Go.RowKit Go.Shelf

attribute [local go_sem] Oper.semAt_some

def itEnc (its : List (Pl × List UInt8)) (k : Nat) : Array Value := encL (its.getD k (⟨0, 0, 0⟩, []))

theorem mom_iter (bP bM m : Nat) (p : Pl) (fv : Value) (fams : List GF) (w : World) (h1 : w.heap[bP]? = some (atObj p)) (h2 : w.cell? ⟨bM, 0, none⟩ = some fv) (hsl : PtrSl w fv (fams.map GF.b)) (hat : ∀ g ∈ fams, GF.At w g) (hok : MomOk m fams) (hm : m ≤ 4611686018427387904) (ht : Tab w) (hpl : PlOk fams p) :
    Iter Tryz.prog 129 #[.pointer (some ⟨bP, 0, none⟩), .pointer (some ⟨bM, 0, none⟩)] (itEnc (itFrom (famT fams) p)) (itFrom (famT fams) p).length (fun b => b = bP ∨ b = bM ∨ b = 0 ∨ b ∈ slBlk fv ∨ ∃ g ∈ fams, b ∈ g.foot) w := by
  intro l L J Jx W hb hL hJ hJx hY h0
  refine lines129 l bP bM m p fv fams L J Jx W ((hb.block bP (lt_of h1)).trans h1) ?_ (hsl.frame hb.size fun b hb' => hb.block b (hsl.lt b hb')) (fun g hg => (hat g hg).frame fun b hb' => hb.block b ((hat g hg).lt b hb')) hok hm (ht.same (hb.block 0 ht.lt)) hpl
    (fun b hb' => ⟨(hL b hb').1, fun e => (hL b hb').2 (Or.inr (Or.inr (Or.inl e))), fun h => (hL b hb').2 (Or.inr (Or.inr (Or.inr (Or.inl h)))), fun g hg h => (hL b hb').2 (Or.inr (Or.inr (Or.inr (Or.inr ⟨g, hg, h⟩))))⟩) hJ hJx ?_ h0
  · rw [World.cell?_of_block (a := ⟨bM, 0, none⟩) (hb.block bM (World.block_lt_of_cell? _ _ h2))]; exact h2
  · intro k A hk hj
    have := hY k A hk hj
    unfold itEnc at this
    rw [List.getD_eq_getElem?_getD, List.getElem?_eq_getElem hk] at this
    exact this

set_option maxHeartbeats 400000 in
theorem linesM_any (sa : Option Addr) (n c : Nat) (p : Pl) (w : World) : Calls Tryz.prog 95 #[.agg #[.slice sa n c], plV p] w fun e w' =>
    e = .returned (.func (.func 129) #[] #[.pointer (some ⟨w.heap.size + 1, 0, none⟩), .pointer (some ⟨w.heap.size, 0, none⟩)]) ∧ w' = (w.alloc (.cells #[.slice sa n c] 105)).alloc (atObj p) := by
  unfold plV atObj
  go_enter Tryz.func95, Tryz.ntmps95
  go_wp2
  go_ret
  exact ⟨rfl, rfl⟩

theorem rd_cells {w : World} {b : Nat} {fv : Value} {p : Pl} {idle : Nat} (h : w.heap[b]? = some (rdObj fv p idle)) : w.cell? ⟨b, 0, none⟩ = some fv ∧ w.cell? ⟨b, 1, none⟩ = some (.int .i64 (p.f : Int)) ∧ w.cell? ⟨b, 2, none⟩ = some (.int .i64 (p.s : Int)) ∧ w.cell? ⟨b, 3, none⟩ = some (.int .i64 (p.l : Int)) ∧ w.cell? ⟨b, 4, none⟩ = some (.int .i64 (idle : Int)) := by
  unfold World.cell?; simp only [h]; exact ⟨rfl, rfl, rfl, rfl, rfl⟩
theorem rd_froz {w : World} {b : Nat} {fv : Value} {p : Pl} {idle : Nat} (h : w.heap[b]? = some (rdObj fv p idle)) (o : Nat) : w.frozen? ⟨b, o, none⟩ = false := by
  unfold World.frozen?; simp only [h]; simp [rdObj]
theorem rd_set {w : World} {b : Nat} {fv : Value} {p : Pl} {idle : Nat} (h : w.heap[b]? = some (rdObj fv p idle)) (d : Nat) : (w.setCell ⟨b, 4, none⟩ (.int .i64 (d : Int))).heap[b]? = some (rdObj fv p d) := by
  rw [text_set h]; rfl

theorem Tryz.info9 : (Tryz.prog.info? 9).map (fun i => (i.zero, i.size, i.bytes)) = some (some (.string ⟨#[]⟩), 1, 16) := by kernel_rfl
/-- Left by 'return' alone. -/
def retPost (A : Act → World → Prop) : Exit → Act → World → Prop
  | .ret, a, w => A a w
  | _, _, _ => False

def strs (ls : List (List UInt8)) : List Value := ls.map fun s => .string (B s)

/-- A frame that has marks alone among its deferred calls leaves; its results lie in memory. -/
theorem leaves_marks2 {n k : Nat} {fn : Func} {tmps : Array Value} {v : Value} {R : Ending → World → Prop} :
    ∀ (Ds : List Nat) (B : World), DefOk n B Ds → (∀ B', Below n B B' → (results fn tmps).run Tryz.prog B' = .ok v B' ∧ R (.returned v) B') → LeavesInM Fence.wide k Tryz.prog fn tmps R (dsOf Ds) .returning B
  | [], B, _, h => ⟨v, (h B (Below.refl _ _)).1, (h B (Below.refl _ _)).2⟩
  | D :: Ds, B, hd, h => by
    have hD := hd.2 D (by simp)
    refine ⟨by simp, Or.inl ⟨D, _, rfl, run_takeDeferred hD.2, ?_⟩⟩
    have hlt := lt_of hD.2
    have hn := List.nodup_cons.1 hd.1
    refine leaves_marks2 Ds _ ⟨hn.2, fun D' hD' => ⟨(hd.2 D' (by simp [hD'])).1, ?_⟩⟩ fun B' hB' => h B' ((below_put _ hD.1 (by omega)).trans hB')
    rw [World.putObj_heap_other (fun e => hn.1 (by rw [e] at hD'; exact hD'))]
    exact (hd.2 D' (by simp [hD'])).2

/-- What a page's lines are while they are gone through: k of them stand in the list. -/
structure PgI (s x6 rb most : Nat) (fv : Value) (p : Pl) (its : List (Pl × List UInt8)) (k : Nat) (A : World) : Prop where
  le : k ≤ most
  h6 : A.heap[x6]? = some (.cells #[.slice (some ⟨s + 4, 0, none⟩) k most] 32)
  row : A.ownsRow s 9 1 (.slice (some ⟨s + 4, 0, none⟩) k most) k (strs ((its.take k).map (·.2)))
  hr : A.heap[rb]? = some (rdObj fv p 0)
  h2 : A.heap[s]? = some (.cells #[.pointer (some ⟨rb, 0, none⟩)] 71)
  h3 : A.heap[s + 1]? = some (.cells #[.int .i64 (most : Int)] 3)
  h4 : A.heap[s + 2]? = some (.cells #[.slice none 0 0] 32)
  h5 : A.heap[s + 3]? = some (.cells #[.bool false] 4)
theorem PgI.below {s x6 rb most : Nat} {fv : Value} {p : Pl} {its : List (Pl × List UInt8)} {k n : Nat} {A C : World} (h : PgI s x6 rb most fv p its k A) (hb : Below n A C) (h1 : x6 < n ∧ rb < n) (h2 : s + 4 < n) : PgI s x6 rb most fv p its k C := by
  have hl : ∀ b ∈ (Value.slice (some ⟨s + 4, 0, none⟩) k most).ownBlock.toList, b < n := fun b hb' => by
    have e : b = s + 4 := by simpa [Value.ownBlock] using hb'
    omega
  exact ⟨h.le, (hb.block x6 h1.1).trans h.h6, own_frame h.row fun b hb' => hb.block b (hl b hb'), (hb.block rb h1.2).trans h.hr, (hb.block s (by omega)).trans h.h2, (hb.block (s + 1) (by omega)).trans h.h3, (hb.block (s + 2) (by omega)).trans h.h4, (hb.block (s + 3) (by omega)).trans h.h5⟩
/-- A page that is full. -/
structure PgX (s rb most : Nat) (fv : Value) (q : Pl) (its : List (Pl × List UInt8)) (A : World) : Prop where
  row : A.ownsRow s 9 1 (.slice (some ⟨s + 4, 0, none⟩) most most) most (strs ((its.take most).map (·.2)))
  hr : A.heap[rb]? = some (rdObj fv q 0)
  h4 : A.heap[s + 2]? = some (.cells #[.slice (some ⟨s + 4, 0, none⟩) most most] 32)
  h5 : A.heap[s + 3]? = some (.cells #[.bool true] 4)
theorem PgX.below {s rb most : Nat} {fv : Value} {q : Pl} {its : List (Pl × List UInt8)} {n : Nat} {A C : World} (h : PgX s rb most fv q its A) (hb : Below n A C) (h1 : rb < n) (h2 : s + 4 < n) : PgX s rb most fv q its C := by
  have hl : ∀ b ∈ (Value.slice (some ⟨s + 4, 0, none⟩) most most).ownBlock.toList, b < n := fun b hb' => by
    have e : b = s + 4 := by simpa [Value.ownBlock] using hb'
    omega
  exact ⟨own_frame h.row fun b hb' => hb.block b (hl b hb'), (hb.block rb h1).trans h.hr, (hb.block (s + 2) (by omega)).trans h.h4, (hb.block (s + 3) (by omega)).trans h.h5⟩
/-- The frame of a round within a page. -/
def AxP (x2 x3 x4 x5 x6 b7 : Nat) (line : List UInt8) (a' : Act) : Prop := ∃ t0 t1 t9 t10 t11 t12 t13 t14 t15 t16 t17 t18 t19 t20 t21 t22 t23 t24 t25 t26 t27 t28 t29 t30 t31 t32 t33 t34 t35 t36 t37 t38 : Value, a' = { tmps := #[t0, t1, .pointer (some ⟨x2, 0, none⟩), .pointer (some ⟨x3, 0, none⟩), .pointer (some ⟨x4, 0, none⟩), .pointer (some ⟨x5, 0, none⟩), .pointer (some ⟨x6, 0, none⟩), .pointer (some ⟨b7, 0, none⟩), .string (B line), t9, t10, t11, t12, t13, t14, t15, t16, t17, t18, t19, t20, t21, t22, t23, t24, t25, t26, t27, t28, t29, t30, t31, t32, t33, t34, t35, t36, t37, t38], defers := [] }

set_option maxRecDepth 100000 in
set_option maxHeartbeats 2000000 in
theorem page_gen (rb : Nat) (sa : Option Addr) (cap : Nat) (fams : List GF) (p : Pl) (idle m most : Nat) (w : World) (hr : w.heap[rb]? = some (rdObj (.slice sa fams.length cap) p idle)) (hsl : PtrSl w (.slice sa fams.length cap) (fams.map GF.b)) (hat : ∀ g ∈ fams, GF.At w g) (hok : MomOk m fams) (hm : m ≤ 4611686018427387904) (ht : Tab w) (hpl : PlOk fams p)
    (hfar : rb ≠ 0 ∧ rb ∉ slBlk (.slice sa fams.length cap) ∧ ∀ g ∈ fams, rb ∉ g.foot) (hm1 : 1 ≤ most) (hm2 : most ≤ 20) (its : List (Pl × List UInt8)) (hits : itFrom (famT fams) p = its) (R : Ending → World → Prop)
    (hR1 : ∀ w' (h : most < its.length), w'.ownsRow w.heap.size 9 1 (.slice (some ⟨w.heap.size + 4, 0, none⟩) most most) most (strs ((its.take most).map (·.2))) → w'.heap[rb]? = some (rdObj (.slice sa fams.length cap) its[most].1 0) → Kept [rb] w w' → R (.returned (.tuple #[.slice (some ⟨w.heap.size + 4, 0, none⟩) most most, .bool true])) w')
    (hR2 : ∀ w', its.length ≤ most → w'.ownsRow w.heap.size 9 1 (.slice (some ⟨w.heap.size + 4, 0, none⟩) its.length most) its.length (strs (its.map (·.2))) → w'.heap[rb]? = some (rdObj (.slice sa fams.length cap) p 0) → Kept [rb] w w' → R (.returned (.tuple #[.slice (some ⟨w.heap.size + 4, 0, none⟩) its.length most, .bool false])) w') :
    Calls Tryz.prog 61 #[.pointer (some ⟨rb, 0, none⟩), .int .i64 (most : Int)] w R := by
  obtain ⟨c0, c1, c2, c3, c4⟩ := rd_cells hr
  have f4 := rd_froz hr 4
  have hrl := lt_of hr
  have hmm : (most : Int) ≤ 20 := by omega
  have hmm1 : (1 : Int) ≤ (most : Int) := by omega
  have HR : Hid (w.heap[rb]? = some (rdObj (.slice sa fams.length cap) p idle)) := hr
  clear hr c0 c1 c2 c3 c4 f4
  refine (callsIn_wide (n := 3)).1 ?_
  refine callsIn_of_wp_marks Tryz.func61 rfl trivial ?_ rfl
  simp only [Tryz.ntmps61, List.size_toArray, List.length_cons, List.length_nil, Nat.reduceAdd, Nat.reduceSub, Array.replicate_succ, Array.replicate_zero, List.push_toArray, List.append_toArray, List.nil_append, List.cons_append]
  refine Code.wpIn_mono (Q := retPost fun a w' => LeavesInM Fence.wide 3 Tryz.prog Tryz.f61 a.tmps R a.defers .returning w') (fun e a w' h => ?_) ?_
  · cases e with
    | ret => exact h
    | _ => exact h.elim
  refine wpIn_seq_k fun K1 hK1 => ?_
  have HK1 : Hid (∀ a w, _ → K1 a w) := hK1
  clear hK1
  gi_wp2
  refine HK1.out _ _ ?_
  clear HK1
  obtain ⟨w1, hw1⟩ : ∃ w1, (((w.alloc (.cells #[.pointer (some ⟨rb, 0, none⟩)] 71)).alloc (.cells #[.int .i64 (most : Int)] 3)).alloc (.cells #[.slice none 0 0] 32)).alloc (.cells #[.bool false] 4) = w1 := ⟨_, rfl⟩
  rw [hw1]
  have g1 : w.grownBy w1 none := by rw [← hw1]; exact gb_alloc (gb_alloc (gb_alloc (gb_alloc (gb_refl _ _) _) _) _) _
  have z1 : w1.heap.size = w.heap.size + 4 := by rw [← hw1]; simp
  have b2 : w1.heap[w.heap.size]? = some (.cells #[.pointer (some ⟨rb, 0, none⟩)] 71) := by
    rw [← hw1]
    exact (Below.heap_alloc _ _ _ (by simp only [World.size_alloc]; omega)).trans ((Below.heap_alloc _ _ _ (by simp only [World.size_alloc]; omega)).trans ((Below.heap_alloc _ _ _ (by simp)).trans (alloc_new _ _ _ rfl)))
  have b3 : w1.heap[w.heap.size + 1]? = some (.cells #[.int .i64 (most : Int)] 3) := by
    rw [← hw1]
    exact (Below.heap_alloc _ _ _ (by simp only [World.size_alloc]; omega)).trans ((Below.heap_alloc _ _ _ (by simp only [World.size_alloc]; omega)).trans (alloc_new _ _ _ (by simp)))
  have b4 : w1.heap[w.heap.size + 2]? = some (.cells #[.slice none 0 0] 32) := by
    rw [← hw1]
    exact (Below.heap_alloc _ _ _ (by simp)).trans (alloc_new _ _ _ (by simp))
  have b5 : w1.heap[w.heap.size + 3]? = some (.cells #[.bool false] 4) := by
    rw [← hw1]
    exact alloc_new _ _ _ (by simp)
  have hr1 := (g1.block rb hrl (by simp)).trans HR.out
  clear hw1
  have c2 : w1.cell? ⟨w.heap.size, 0, none⟩ = some (.pointer (some ⟨rb, 0, none⟩)) := by unfold World.cell?; simp only [b2]; rfl
  obtain ⟨_, _, _, _, c4⟩ := rd_cells hr1
  have f4 := rd_froz hr1 4
  refine wpIn_seq_k fun K1 hK1 => ?_
  have HK1 : Hid (∀ a w, _ → K1 a w) := hK1
  clear hK1
  gi_wp2
  refine HK1.out _ _ ?_
  clear HK1 c2 c4 f4
  obtain ⟨w2, hw2⟩ : ∃ w2, w1.setCell ⟨rb, 4, none⟩ (.int .i64 0) = w2 := ⟨_, rfl⟩
  rw [hw2]
  have g2 : w1.grownBy w2 (some rb) := by rw [← hw2]; exact gb_setCell _ _ _ _
  have hr2 : w2.heap[rb]? = some (rdObj (.slice sa fams.length cap) p 0) := by rw [← hw2]; exact rd_set hr1 0
  have z2 : w2.heap.size = w.heap.size + 4 := by rw [← hw2, ← z1]; simp
  have o2 : ∀ b, b ≠ rb → w2.heap[b]? = w1.heap[b]? := fun b hb => by rw [← hw2]; exact Below.heap_setCell _ _ _ _ (by show b ≠ rb; exact hb)
  have e2 := (o2 (w.heap.size) (by omega)).trans b2
  have e3 := (o2 (w.heap.size + 1) (by omega)).trans b3
  have e4 := (o2 (w.heap.size + 2) (by omega)).trans b4
  have e5 := (o2 (w.heap.size + 3) (by omega)).trans b5
  have c3 : w2.cell? ⟨w.heap.size + 1, 0, none⟩ = some (.int .i64 (most : Int)) := by unfold World.cell?; simp only [e3]; rfl
  clear hw2 b2 b3 b4 b5 hr1
  obtain ⟨i0, hi, hz0, hz1, hz2⟩ := info_parts Tryz.info9
  obtain ⟨w3, hmk, own3, g3⟩ := run_make_own (P := Tryz.prog) w2 w.heap.size 32 9 i0 (.string ⟨#[]⟩) 1 Tryz.underlying32 hi hz0 hz1 .i64 .i64 most (by rw [hz2]; omega) (by unfold maxLen; omega) (by omega)
  rw [z2] at hmk own3
  refine wpIn_seq_k fun K1 hK1 => ?_
  have HK1 : Hid (∀ a w, _ → K1 a w) := hK1
  clear hK1
  gi_wp2
  refine HK1.out _ _ ?_
  clear HK1 c3 hmk
  have z3 := g3.size
  have h7lt : w.heap.size + 4 < w3.heap.size := own_lt own3 (w.heap.size + 4) (by simp [Value.ownBlock])
  obtain ⟨w4, hw4⟩ : ∃ w4, w3.alloc (.cells #[.slice (some ⟨w.heap.size + 4, 0, none⟩) 0 most] 32) = w4 := ⟨_, rfl⟩
  rw [hw4]
  have g4 : w3.grownBy w4 none := by rw [← hw4]; exact gb_alloc (gb_refl _ _) _
  have z4 : w4.heap.size = w3.heap.size + 1 := by rw [← hw4]; simp
  have k6 : w4.heap[w3.heap.size]? = some (.cells #[.slice (some ⟨w.heap.size + 4, 0, none⟩) 0 most] 32) := by rw [← hw4]; exact alloc_new _ _ _ rfl
  have own4 : w4.ownsRow w.heap.size 9 1 (.slice (some ⟨w.heap.size + 4, 0, none⟩) 0 most) 0 [] := own3.kept g4 (ownNe _)
  have g24 := gb_trans g3 g4
  have k2 := (g24.block _ (lt_of e2) (by simp)).trans e2
  have k3 := (g24.block _ (lt_of e3) (by simp)).trans e3
  have k4 := (g24.block _ (lt_of e4) (by simp)).trans e4
  have k5 := (g24.block _ (lt_of e5) (by simp)).trans e5
  have kr := (g24.block _ (lt_of hr2) (by simp)).trans hr2
  have HKE : Hid (Kept [rb] w w4) := ((Kept.of_none g1 [rb]).trans (Kept.of_some g2 [rb] (Or.inl (by simp)))).trans (Kept.of_none g24 [rb])
  clear hw4 e2 e3 e4 e5 hr2 o2 g1 g2 own3 g24 g3 g4
  have HCL : Hid (∀ w', w4.grownBy w' none → w'.cell? ⟨w.heap.size, 0, none⟩ = some (.pointer (some ⟨rb, 0, none⟩)) ∧ w'.cell? ⟨rb, 0, none⟩ = some (.slice sa fams.length cap) ∧ w'.cell? ⟨rb, 1, none⟩ = some (.int .i64 (p.f : Int)) ∧ w'.cell? ⟨rb, 2, none⟩ = some (.int .i64 (p.s : Int)) ∧ w'.cell? ⟨rb, 3, none⟩ = some (.int .i64 (p.l : Int))) := fun w' gw => by
    obtain ⟨q0, q1, q2, q3, _⟩ := rd_cells ((gw.block _ (lt_of kr) (by simp)).trans kr)
    have q4 : w4.cell? ⟨w.heap.size, 0, none⟩ = some (.pointer (some ⟨rb, 0, none⟩)) := by unfold World.cell?; simp only [k2]; rfl
    exact ⟨gb_cell gw q4 (by simp), q0, q1, q2, q3⟩
  have HLM : Hid (Calls Tryz.prog 95 #[.agg #[.slice sa fams.length cap], plV p] w4.drew _) := linesM_any sa fams.length cap p w4.drew
  unfold plV at HLM
  refine wpIn_seq_k fun K1 hK1 => ?_
  have HK1 : Hid (∀ a w, _ → K1 a w) := hK1
  clear hK1
  refine wpIn_seq_k fun K2 hK2 => ?_
  have HK2 : Hid (∀ a w, _ → K2 a w) := hK2
  clear hK2
  refine region_held (fun w' => w4.grownBy w' none) (by kernel_rfl) ?_
  have hS : w4.grownBy w4.drew none := gb_drew (gb_refl _ _)
  have HPAN : Hid True := trivial
  refine wpAnyS_put (i := 0) (v := ?_) rfl rfl rfl (by kernel_rfl) (by kernel_rfl) (by kernel_rfl) (fun _ _ _ h => h) ⟨Or.inl ⟨by rfl, ?_⟩, fun _ => rfl⟩ hS ?_
  rotate_left
  · intro w' hSw
    obtain ⟨r1, r2, r3, r4, r5⟩ := HCL.out w' hSw
    go_simp
    try with_reducible rfl
  simp only [Act.put, List.setIfInBounds_toArray, List.set_cons_zero, List.set_cons_succ]
  refine wpAnyS_put (i := 1) (v := ?_) rfl rfl rfl (by kernel_rfl) (by kernel_rfl) (by kernel_rfl) (fun _ _ _ h => h) ⟨Or.inl ⟨by rfl, ?_⟩, fun _ => rfl⟩ hS ?_
  rotate_left
  · intro w' hSw
    obtain ⟨r1, r2, r3, r4, r5⟩ := HCL.out w' hSw
    go_simp
    try with_reducible rfl
  simp only [Act.put, List.setIfInBounds_toArray, List.set_cons_zero, List.set_cons_succ]
  refine wpAnyS_put (i := 2) (v := ?_) rfl rfl rfl (by kernel_rfl) (by kernel_rfl) (by kernel_rfl) (fun _ _ _ h => h) ⟨Or.inl ⟨by rfl, ?_⟩, fun _ => rfl⟩ hS ?_
  rotate_left
  · intro w' hSw
    obtain ⟨r1, r2, r3, r4, r5⟩ := HCL.out w' hSw
    go_simp
    try with_reducible rfl
  simp only [Act.put, List.setIfInBounds_toArray, List.set_cons_zero, List.set_cons_succ]
  refine wpAnyS_put (i := 3) (v := ?_) rfl rfl rfl (by kernel_rfl) (by kernel_rfl) (by kernel_rfl) (fun _ _ _ h => h) ⟨Or.inl ⟨by rfl, ?_⟩, fun _ => rfl⟩ hS ?_
  rotate_left
  · intro w' hSw
    obtain ⟨r1, r2, r3, r4, r5⟩ := HCL.out w' hSw
    go_simp
    try with_reducible rfl
  simp only [Act.put, List.setIfInBounds_toArray, List.set_cons_zero, List.set_cons_succ]
  refine wpAnyS_put (i := 4) (v := ?_) rfl rfl rfl (by kernel_rfl) (by kernel_rfl) (by kernel_rfl) (fun _ _ _ h => h) ⟨Or.inl ⟨by rfl, ?_⟩, fun _ => rfl⟩ hS ?_
  rotate_left
  · intro w' hSw
    obtain ⟨r1, r2, r3, r4, r5⟩ := HCL.out w' hSw
    go_simp
    try with_reducible rfl
  simp only [Act.put, List.setIfInBounds_toArray, List.set_cons_zero, List.set_cons_succ]
  refine wpAnyS_put (i := 5) (v := ?_) rfl rfl rfl (by kernel_rfl) (by kernel_rfl) (by kernel_rfl) (fun _ _ _ h => h) ⟨Or.inl ⟨by rfl, ?_⟩, fun _ => rfl⟩ hS ?_
  rotate_left
  · intro w' hSw
    obtain ⟨r1, r2, r3, r4, r5⟩ := HCL.out w' hSw
    go_simp
    try with_reducible rfl
  simp only [Act.put, List.setIfInBounds_toArray, List.set_cons_zero, List.set_cons_succ]
  refine wpAnyS_put (i := 6) (v := ?_) rfl rfl rfl (by kernel_rfl) (by kernel_rfl) (by kernel_rfl) (fun _ _ _ h => h) ⟨Or.inl ⟨by rfl, ?_⟩, fun _ => rfl⟩ hS ?_
  rotate_left
  · intro w' hSw
    obtain ⟨r1, r2, r3, r4, r5⟩ := HCL.out w' hSw
    go_simp
    try with_reducible rfl
  simp only [Act.put, List.setIfInBounds_toArray, List.set_cons_zero, List.set_cons_succ]
  refine wpAnyS_put (i := 7) (v := ?_) rfl rfl rfl (by kernel_rfl) (by kernel_rfl) (by kernel_rfl) (fun _ _ _ h => h) ⟨Or.inl ⟨by rfl, ?_⟩, fun _ => rfl⟩ hS ?_
  rotate_left
  · intro w' hSw
    obtain ⟨r1, r2, r3, r4, r5⟩ := HCL.out w' hSw
    go_simp
    try with_reducible rfl
  simp only [Act.put, List.setIfInBounds_toArray, List.set_cons_zero, List.set_cons_succ]
  refine wpAnyS_one (i := 8) rfl (by kernel_rfl) (fun K hK => ?_)
  rw [if_pos (by rfl)]
  gi_wp2
  refine ⟨trivial, (callsIn_wide.2 HLM.out).mono ?_⟩
  rintro e w5 ⟨rfl, hw5⟩
  have g5 : w4.grownBy w5 none := by rw [hw5]; exact gb_alloc (gb_alloc (gb_drew (gb_refl _ _)) _) _
  refine hK _ _ g5 ?_
  clear hK
  refine wpAnyS_done (by kernel_rfl) ?_ _
  refine HK2.out _ _ ?_
  clear HK2
  have z5 : w5.heap.size = w4.heap.size + 2 := by rw [hw5]; simp
  have kP : w5.heap[w4.heap.size + 1]? = some (atObj p) := by rw [hw5]; exact alloc_new _ _ _ (by simp)
  have kM : w5.cell? ⟨w4.heap.size, 0, none⟩ = some (.slice sa fams.length cap) := by
    rw [hw5]
    exact gb_cell (gb_alloc (gb_refl _ none) _) (alloc_cell w4.drew (.slice sa fams.length cap) 105) (by simp)
  have HK5 : Hid (Kept [rb] w w5) := HKE.out.trans (Kept.of_none g5 _)
  have hne : ∀ b, b < w.heap.size → b ≠ rb → w5.heap[b]? = w.heap[b]? := fun b hb hn => HK5.out.block b hb (by simpa using hn)
  have hsl5 : PtrSl w5 (.slice sa fams.length cap) (fams.map GF.b) := hsl.frame HK5.out.size fun b hb => hne b (hsl.lt b hb) (fun e => hfar.2.1 (by rw [← e]; exact hb))
  have hat5 : ∀ g ∈ fams, GF.At w5 g := fun g hg => (hat g hg).frame fun b hb => hne b ((hat g hg).lt b hb) (fun e => hfar.2.2 g hg (by rw [← e]; exact hb))
  have ht5 : Tab w5 := ht.same (hne 0 ht.lt (fun e => hfar.1 e.symm))
  have HIT : Hid (Iter Tryz.prog 129 #[.pointer (some ⟨w4.heap.size + 1, 0, none⟩), .pointer (some ⟨w4.heap.size, 0, none⟩)] (itEnc (itFrom (famT fams) p)) (itFrom (famT fams) p).length _ w5) := mom_iter (w4.heap.size + 1) w4.heap.size m p _ fams w5 kP kM hsl5 hat5 hok hm ht5 hpl
  rw [hits] at HIT
  have k2' := (g5.block _ (lt_of k2) (by simp)).trans k2
  have k3' := (g5.block _ (lt_of k3) (by simp)).trans k3
  have k4' := (g5.block _ (lt_of k4) (by simp)).trans k4
  have k5' := (g5.block _ (lt_of k5) (by simp)).trans k5
  have k6' := (g5.block _ (lt_of k6) (by simp)).trans k6
  have kr' := (g5.block _ (lt_of kr) (by simp)).trans kr
  have own5 := own4.kept g5 (ownNe _)
  have hs3 : w.heap.size + 5 ≤ w3.heap.size := by omega
  have HRF : Hid (∀ b, (b = w4.heap.size + 1 ∨ b = w4.heap.size ∨ b = 0 ∨ b ∈ slBlk (.slice sa fams.length cap) ∨ ∃ g ∈ fams, b ∈ g.foot) → b < w5.heap.size ∧ b ∉ [rb, w.heap.size + 2, w.heap.size + 3, w.heap.size + 4, w3.heap.size]) := by
    intro b hb
    have hold : b < w.heap.size → b ≠ rb → b < w5.heap.size ∧ b ∉ [rb, w.heap.size + 2, w.heap.size + 3, w.heap.size + 4, w3.heap.size] := fun h1 h2 => ⟨by omega, by simp; omega⟩
    rcases hb with e | e | e | hb | ⟨g, hg, hb⟩
    · exact ⟨by omega, by simp; omega⟩
    · exact ⟨by omega, by simp; omega⟩
    · exact hold (by have := ht.lt; omega) (by rw [e]; exact fun e => hfar.1 e.symm)
    · exact hold (hsl.lt b hb) (fun e => hfar.2.1 (by rw [← e]; exact hb))
    · exact hold ((hat g hg).lt b hb) (fun e => hfar.2.2 g hg (by rw [← e]; exact hb))
  have HI0 : Hid (PgI w.heap.size w3.heap.size rb most (.slice sa fams.length cap) p its 0 w5) := ⟨Nat.zero_le _, k6', by simpa [strs] using own5, kr', k2', k3', k4', k5'⟩
  have HR1 : Hid (∀ w' (h : most < its.length), w'.ownsRow w.heap.size 9 1 (.slice (some ⟨w.heap.size + 4, 0, none⟩) most most) most (strs ((its.take most).map (·.2))) → w'.heap[rb]? = some (rdObj (.slice sa fams.length cap) its[most].1 0) → Kept [rb] w w' → R (.returned (.tuple #[.slice (some ⟨w.heap.size + 4, 0, none⟩) most most, .bool true])) w') := hR1
  have HR2 : Hid (∀ w', its.length ≤ most → w'.ownsRow w.heap.size 9 1 (.slice (some ⟨w.heap.size + 4, 0, none⟩) its.length most) its.length (strs (its.map (·.2))) → w'.heap[rb]? = some (rdObj (.slice sa fams.length cap) p 0) → Kept [rb] w w' → R (.returned (.tuple #[.slice (some ⟨w.heap.size + 4, 0, none⟩) its.length most, .bool false])) w') := hR2
  have HZ : Hid (w3.heap.size + 3 = w5.heap.size) := by show _ = _; omega
  clear hR1 hR2 k2 k3 k4 k5 k6 kr k2' k3' k4' k5' k6' kr' own5 own4 kP kM hsl5 hat5 ht5 hsl hat hok ht hpl hw5 g5 hne z5 z4 z3 z2 z1 hits HCL HLM HR
  have hi0 := hi
  clear hi
  gi_wp2
  refine range_out (n := 3) (gf := 129) rfl (fun args w => by simp [go_sem]) HIT.out (fun k _ => rfl) (fun b hb hr => by have := (HRF.out b hr).1; omega) [rb, w.heap.size + 2, w.heap.size + 3, w.heap.size + 4, w3.heap.size]
    (fun b hb => ⟨by have := HZ.out; simp at hb; omega, fun hr => (HRF.out b hr).2 hb⟩)
    (fun k A => PgI w.heap.size w3.heap.size rb most (.slice sa fams.length cap) p its k A) (fun c k A => c = .ret ∧ ∃ h : most < its.length, PgX w.heap.size rb most (.slice sa fams.length cap) its[most].1 its A)
    (fun k A B' h hb => h.below hb (by have := HZ.out; omega) (by have := HZ.out; omega)) (fun c k A B' h hb => ⟨h.1, h.2.1, h.2.2.below hb (by have := HZ.out; omega) (by have := HZ.out; omega)⟩) HI0.out
    (fun k a' A => ∃ b7, AxP w.heap.size (w.heap.size + 1) (w.heap.size + 1 + 1) (w.heap.size + 1 + 1 + 1) w3.heap.size b7 (its.getD k (⟨0, 0, 0⟩, [])).2 a' ∧ A.heap[b7]? = some (atObj (its.getD k (⟨0, 0, 0⟩, [])).1) ∧ b7 ∉ [rb, w.heap.size + 2, w.heap.size + 3, w.heap.size + 4, w3.heap.size]) ?_ ?_ ?_ ?_ ?_
  · rintro l k a' A o r ⟨b7, h1, h2, h3⟩ hl
    refine ⟨b7, h1, ?_, h3⟩
    rw [World.putObj_heap_other (fun e => by rw [e, hl] at h2; simp [atObj] at h2)]
    exact h2
  · intro l₂ k W K hk hi hK
    have hb7 : W.heap.size ∉ [rb, w.heap.size + 2, w.heap.size + 3, w.heap.size + 4, w3.heap.size] := by
      have := lt_of hi.hr
      have := lt_of hi.h4
      have := lt_of hi.h5
      have := lt_of hi.h6
      have := own_lt hi.row (w.heap.size + 4) (by simp [Value.ownBlock])
      simp; omega
    unfold itEnc encL plV
    generalize its.getD k (⟨0, 0, 0⟩, []) = it at hK ⊢
    clear hi
    gi_wp2
    exact hK _ _ (gb_alloc (gb_refl _ _) _) ⟨W.heap.size, ⟨_, _, _, _, _, _, _, _, _, _, _, _, _, _, _, _, _, _, _, _, _, _, _, _, _, _, _, _, _, _, _, _, rfl⟩, alloc_new _ _ _ rfl, hb7⟩
  · rintro l₂ k a' W hle _ hk hi ⟨b7, ⟨t0, t1, t9, t10, t11, t12, t13, t14, t15, t16, t17, t18, t19, t20, t21, t22, t23, t24, t25, t26, t27, t28, t29, t30, t31, t32, t33, t34, t35, t36, t37, t38, rfl⟩, h7, hn7⟩
    have hgk : its.getD k (⟨0, 0, 0⟩, []) = its[k] := by rw [List.getD_eq_getElem?_getD, List.getElem?_eq_getElem hk]; rfl
    rw [hgk] at h7
    have hln : (its.getD k (⟨0, 0, 0⟩, [])).2 = its[k].2 := by rw [hgk]
    rw [hln]
    obtain ⟨ln, hlnE⟩ : ∃ ln, its[k].2 = ln := ⟨_, rfl⟩
    obtain ⟨q, hqE⟩ : ∃ q, its[k].1 = q := ⟨_, rfl⟩
    rw [hlnE]
    rw [hqE] at h7
    have HLE : Hid (its[k].2 = ln) := hlnE
    have HQE : Hid (its[k].1 = q) := hqE
    have HI : Hid (PgI w.heap.size w3.heap.size rb most (.slice sa fams.length cap) p its k W) := hi
    have H7 : Hid (W.heap[b7]? = some (atObj q)) := h7
    have c6 : W.cell? ⟨w3.heap.size, 0, none⟩ = some (.slice (some ⟨w.heap.size + 4, 0, none⟩) k most) := by unfold World.cell?; simp only [hi.h6]; rfl
    have c3 : W.cell? ⟨w.heap.size + 1, 0, none⟩ = some (.int .i64 (most : Int)) := by unfold World.cell?; simp only [hi.h3]; rfl
    have hkm := hi.le
    simp only [List.mem_cons, List.not_mem_nil, or_false, not_or] at hn7
    have hrlt := lt_of hi.hr
    have hd1 : rb ≠ w3.heap.size ∧ rb ≠ w.heap.size + 2 ∧ rb ≠ w.heap.size + 3 ∧ rb ≠ w.heap.size + 4 ∧ rb ≠ w.heap.size := by omega
    clear hgk hln hlnE hqE h7
    refine wpIn_block ?_
    refine wpIn_seq_k fun K1 hK1 => ?_
    have HK1 : Hid (∀ a w, _ → K1 a w) := hK1
    clear hK1
    by_cases hlt : k < most
    · have hli : ((k : Int) == (most : Int)) = false := by simp; omega
      have hli' : ¬ (k : Int) = (most : Int) := by omega
      clear hi
      gi_wp2
      refine HK1.out _ _ ?_
      clear HK1 c3
      have hownA := HI.out.row.alloc (.cells #[.string (B ln)] 9)
      have hrest : ∀ w7 : World, (W.alloc (.cells #[.string (B ln)] 9)).grownBy w7 (some (w.heap.size + 4)) → W.grownBy w7 (some (w.heap.size + 4)) ∧ w7.heap[w3.heap.size]? = some (.cells #[.slice (some ⟨w.heap.size + 4, 0, none⟩) k most] 32) ∧ w7.cell? ⟨w3.heap.size, 0, none⟩ = some (.slice (some ⟨w.heap.size + 4, 0, none⟩) k most) ∧ w7.frozen? ⟨w3.heap.size, 0, none⟩ = false := fun w7 g7 => by
        have G7 : W.grownBy w7 (some (w.heap.size + 4)) := gb_trans (gb_alloc (gb_refl W _) _) g7
        have h67 := (G7.block _ (lt_of HI.out.h6) (by simp; omega)).trans HI.out.h6
        exact ⟨G7, h67, by unfold World.cell?; simp only [h67]; rfl, by unfold World.frozen?; simp only [h67]; simp⟩
      have HRE : Hid (∀ w7 : World, (W.alloc (.cells #[.string (B ln)] 9)).grownBy w7 (some (w.heap.size + 4)) → W.grownBy w7 (some (w.heap.size + 4)) ∧ w7.heap[w3.heap.size]? = some (.cells #[.slice (some ⟨w.heap.size + 4, 0, none⟩) k most] 32) ∧ w7.cell? ⟨w3.heap.size, 0, none⟩ = some (.slice (some ⟨w.heap.size + 4, 0, none⟩) k most) ∧ w7.frozen? ⟨w3.heap.size, 0, none⟩ = false) := hrest
      have HOA : Hid ((W.alloc (.cells #[.string (B ln)] 9)).ownsRow w.heap.size 9 1 (.slice (some ⟨w.heap.size + 4, 0, none⟩) k most) k (strs ((its.take k).map (·.2)))) := hownA
      clear hrest hownA
      gi_wp2_with (gi_at_builtin; refine wpListIn_append_fits _ rfl _ _ 32 rfl w.heap.size 9 i0 1 Tryz.underlying32 hi0 hz1 (w.heap.size + 4) k most _ rfl (by exact HOA.out) ⟨W.heap.size, 0, none⟩ 1 1 [.string (B ln)] rfl rfl (cells_new W _ 9) (fun v hv => by simp at hv; subst hv; rfl) (by omega) ?_; intro w7 own7 g7; obtain ⟨G7, h67, d6, f6⟩ := HRE.out w7 g7)
      have HG7 : Hid (W.grownBy w7 (some (w.heap.size + 4))) := G7
      have H67 : Hid (w7.heap[w3.heap.size]? = some (.cells #[.slice (some ⟨w.heap.size + 4, 0, none⟩) k most] 32)) := h67
      have HO7 : Hid (w7.ownsRow w.heap.size 9 1 (.slice (some ⟨w.heap.size + 4, 0, none⟩) (k + 1) most) (k + 1) (strs ((its.take k).map (·.2)) ++ [.string (B ln)])) := own7
      have hk8 : Kept [rb, w.heap.size + 2, w.heap.size + 3, w.heap.size + 4, w3.heap.size] W (w7.setCell ⟨w3.heap.size, 0, none⟩ (.slice (some ⟨w.heap.size + 4, 0, none⟩) (k + 1) most)) := (Kept.of_some HG7.out _ (Or.inl (by simp))).trans (Kept.of_some (gb_setCell _ _ _ _) _ (Or.inl (by simp)))
      have hold : ∀ b, b < W.heap.size → b ≠ w.heap.size + 4 → b ≠ w3.heap.size → (w7.setCell ⟨w3.heap.size, 0, none⟩ (.slice (some ⟨w.heap.size + 4, 0, none⟩) (k + 1) most)).heap[b]? = W.heap[b]? := fun b hb h1 h2 =>
        (Below.heap_setCell _ _ _ _ (by show b ≠ w3.heap.size; exact h2)).trans (HG7.out.block b hb (by simpa using h1))
      refine ⟨hk8, by omega, ?_, ?_, (hold rb hrlt (by omega) (by omega)).trans HI.out.hr, (hold _ (lt_of HI.out.h2) (by omega) (by omega)).trans HI.out.h2, (hold _ (lt_of HI.out.h3) (by omega) (by omega)).trans HI.out.h3, (hold _ (lt_of HI.out.h4) (by omega) (by omega)).trans HI.out.h4, (hold _ (lt_of HI.out.h5) (by omega) (by omega)).trans HI.out.h5⟩
      · rw [text_set H67.out]; rfl
      · have e : strs ((its.take (k + 1)).map (·.2)) = strs ((its.take k).map (·.2)) ++ [.string (B ln)] := by
          rw [← HLE.out, List.take_add_one, List.getElem?_eq_getElem hk]
          simp only [strs, Option.toList_some, List.map_append, List.map_cons, List.map_nil]
        rw [e]
        exact own_frame HO7.out fun b hb => Below.heap_setCell _ _ _ _ (by
          have e : b = w.heap.size + 4 := by simpa [Value.ownBlock] using hb
          show b ≠ w3.heap.size
          omega)
    · obtain rfl : k = most := by omega
      have h2c : W.cell? ⟨w.heap.size, 0, none⟩ = some (.pointer (some ⟨rb, 0, none⟩)) := by unfold World.cell?; simp only [hi.h2]; rfl
      obtain ⟨t0, t1, t2⟩ := at_cells H7.out
      obtain ⟨_, r1, r2, r3, _⟩ := rd_cells hi.hr
      have q1 := rd_froz hi.hr 1
      have q2 := rd_froz hi.hr 2
      have q3 := rd_froz hi.hr 3
      have HR : Hid (W.heap[rb]? = some (rdObj (.slice sa fams.length cap) p 0)) := hi.hr
      clear hi
      refine wpIn_seq_k fun K2 hK2 => ?_
      have HK2 : Hid (∀ a w, _ → K2 a w) := hK2
      clear hK2
      gi_wp2
      refine HK2.out _ _ ?_
      clear HK2 c3
      refine wpIn_cond_true rfl ?_
      refine wpIn_seq_k fun K3 hK3 => ?_
      have HK3 : Hid (∀ a w, _ → K3 a w) := hK3
      clear hK3
      gi_wp2
      refine HK3.out _ _ ?_
      clear HK3
      obtain ⟨W8, hW8⟩ : ∃ W8, ((W.setCell ⟨rb, 1, none⟩ (.int .i64 (q.f : Int))).setCell ⟨rb, 2, none⟩ (.int .i64 (q.s : Int))).setCell ⟨rb, 3, none⟩ (.int .i64 (q.l : Int)) = W8 := ⟨_, rfl⟩
      rw [hW8]
      have g8 : W.grownBy W8 (some rb) := by rw [← hW8]; exact gb_s (gb_s (gb_setCell _ _ _ _))
      have hr8 : W8.heap[rb]? = some (rdObj (.slice sa fams.length cap) q 0) := by
        rw [← hW8, text_set (text_set (text_set HR.out _) _) _]; rfl
      have h68 := (g8.block _ (lt_of HI.out.h6) (by simp; omega)).trans HI.out.h6
      have h48 := (g8.block _ (lt_of HI.out.h4) (by simp; omega)).trans HI.out.h4
      have h58 := (g8.block _ (lt_of HI.out.h5) (by simp; omega)).trans HI.out.h5
      have own8 : W8.ownsRow w.heap.size 9 1 (.slice (some ⟨w.heap.size + 4, 0, none⟩) k k) k (strs ((its.take k).map (·.2))) := own_frame HI.out.row fun b hb => g8.block b (own_lt HI.out.row b hb) (by
        have e : b = w.heap.size + 4 := by simpa [Value.ownBlock] using hb
        simp; omega)
      have e6 : W8.cell? ⟨w3.heap.size, 0, none⟩ = some (.slice (some ⟨w.heap.size + 4, 0, none⟩) k k) := by unfold World.cell?; simp only [h68]; rfl
      have e4 : W8.cell? ⟨w.heap.size + 1 + 1, 0, none⟩ = some (.slice none 0 0) := by unfold World.cell?; simp only [h48]; rfl
      have e5 : W8.cell? ⟨w.heap.size + 1 + 1 + 1, 0, none⟩ = some (.bool false) := by unfold World.cell?; simp only [h58]; rfl
      have q4 : W8.frozen? ⟨w.heap.size + 1 + 1, 0, none⟩ = false := by unfold World.frozen?; simp only [h48]; simp
      have q5 : W8.frozen? ⟨w.heap.size + 1 + 1 + 1, 0, none⟩ = false := by unfold World.frozen?; simp only [h58]; simp
      have e5' := gb_cell (gb_setCell W8 (w.heap.size + 1 + 1) 0 (.slice (some ⟨w.heap.size + 4, 0, none⟩) k k)) e5 (by simp)
      have q5' := gb_froz (gb_setCell W8 (w.heap.size + 1 + 1) 0 (.slice (some ⟨w.heap.size + 4, 0, none⟩) k k)) (lt_of h58) q5 (by simp)
      have HG8 : Hid (W.grownBy W8 (some rb)) := g8
      have HR8 : Hid (W8.heap[rb]? = some (rdObj (.slice sa fams.length cap) q 0)) := hr8
      have H48 : Hid (W8.heap[w.heap.size + 1 + 1]? = some (.cells #[.slice none 0 0] 32)) := h48
      have H58 : Hid (W8.heap[w.heap.size + 1 + 1 + 1]? = some (.cells #[.bool false] 4)) := h58
      have HO8 : Hid (W8.ownsRow w.heap.size 9 1 (.slice (some ⟨w.heap.size + 4, 0, none⟩) k k) k (strs ((its.take k).map (·.2)))) := own8
      clear hW8 g8 hr8 h68 h48 h58 own8 r1 r2 r3 t0 t1 t2 q1 q2 q3 h2c c6
      gi_wp2
      obtain ⟨W9, hW9⟩ : ∃ W9, (W8.setCell ⟨w.heap.size + 1 + 1, 0, none⟩ (.slice (some ⟨w.heap.size + 4, 0, none⟩) k k)).setCell ⟨w.heap.size + 1 + 1 + 1, 0, none⟩ (.bool true) = W9 := ⟨_, rfl⟩
      rw [hW9]
      have hk9 : Kept [rb, w.heap.size + 2, w.heap.size + 3, w.heap.size + 4, w3.heap.size] W W9 := by
        rw [← hW9]
        exact ((Kept.of_some HG8.out _ (Or.inl (by simp))).trans (Kept.of_some (gb_setCell _ _ _ _) _ (Or.inl (by simp)))).trans (Kept.of_some (gb_setCell _ _ _ _) _ (Or.inl (by simp)))
      have hold : ∀ b, b ≠ w.heap.size + 2 → b ≠ w.heap.size + 3 → W9.heap[b]? = W8.heap[b]? := fun b h1 h2 => by
        rw [← hW9]
        exact (Below.heap_setCell _ _ _ _ (by show b ≠ w.heap.size + 1 + 1 + 1; exact h2)).trans (Below.heap_setCell _ _ _ _ (by show b ≠ w.heap.size + 1 + 1; exact h1))
      refine ⟨hk9, rfl, hk, own_frame HO8.out fun b hb => ?_, ?_, ?_, ?_⟩
      · have e : b = w.heap.size + 4 := by simpa [Value.ownBlock] using hb
        exact hold b (by omega) (by omega)
      · rw [hold rb (by omega) (by omega), HQE.out]; exact HR8.out
      · rw [← hW9, Below.heap_setCell _ _ _ _ (by show w.heap.size + 2 ≠ w.heap.size + 1 + 1 + 1; omega)]
        exact (text_set H48.out _).trans rfl
      · rw [← hW9]
        have := (Below.heap_setCell W8 ⟨w.heap.size + 1 + 1, 0, none⟩ (.slice (some ⟨w.heap.size + 4, 0, none⟩) k k) (w.heap.size + 1 + 1 + 1) (by show w.heap.size + 1 + 1 + 1 ≠ w.heap.size + 1 + 1; omega)).trans H58.out
        exact (text_set this _).trans rfl
  · intro D W hD hkW hi hdD
    refine HK1.out _ _ ?_
    clear HK1
    have hnm := hi.le
    have own8 := hi.row
    rw [List.take_length] at own8
    have e6 : W.cell? ⟨w3.heap.size, 0, none⟩ = some (.slice (some ⟨w.heap.size + 4, 0, none⟩) its.length most) := by unfold World.cell?; simp only [hi.h6]; rfl
    have e4 : W.cell? ⟨w.heap.size + 1 + 1, 0, none⟩ = some (.slice none 0 0) := by unfold World.cell?; simp only [hi.h4]; rfl
    have e5 : W.cell? ⟨w.heap.size + 1 + 1 + 1, 0, none⟩ = some (.bool false) := by unfold World.cell?; simp only [hi.h5]; rfl
    have q4 : W.frozen? ⟨w.heap.size + 1 + 1, 0, none⟩ = false := by unfold World.frozen?; simp only [hi.h4]; simp
    have q5 : W.frozen? ⟨w.heap.size + 1 + 1 + 1, 0, none⟩ = false := by unfold World.frozen?; simp only [hi.h5]; simp
    have e5' := gb_cell (gb_setCell W (w.heap.size + 1 + 1) 0 (.slice (some ⟨w.heap.size + 4, 0, none⟩) its.length most)) e5 (by simp)
    have q5' := gb_froz (gb_setCell W (w.heap.size + 1 + 1) 0 (.slice (some ⟨w.heap.size + 4, 0, none⟩) its.length most)) (lt_of hi.h5) q5 (by simp)
    have HI : Hid (PgI w.heap.size w3.heap.size rb most (.slice sa fams.length cap) p its its.length W) := hi
    have HO8 : Hid (W.ownsRow w.heap.size 9 1 (.slice (some ⟨w.heap.size + 4, 0, none⟩) its.length most) its.length (strs (its.map (·.2)))) := own8
    have HKW : Hid (Kept [rb, w.heap.size + 2, w.heap.size + 3, w.heap.size + 4, w3.heap.size] w5 W) := hkW
    have HDD : Hid (W.heap[D]? = some (.deferred (some []))) := hdD
    have hrlt := lt_of hi.hr
    clear hi own8 hkW hdD
    gi_wp2
    obtain ⟨W9, hW9⟩ : ∃ W9, (W.setCell ⟨w.heap.size + 1 + 1, 0, none⟩ (.slice (some ⟨w.heap.size + 4, 0, none⟩) its.length most)).setCell ⟨w.heap.size + 1 + 1 + 1, 0, none⟩ (.bool false) = W9 := ⟨_, rfl⟩
    rw [hW9]
    have hk9 : Kept [rb, w.heap.size + 2, w.heap.size + 3, w.heap.size + 4, w3.heap.size] w5 W9 := by
      rw [← hW9]
      exact (HKW.out.trans (Kept.of_some (gb_setCell _ _ _ _) _ (Or.inl (by simp)))).trans (Kept.of_some (gb_setCell _ _ _ _) _ (Or.inl (by simp)))
    have hold : ∀ b, b ≠ w.heap.size + 2 → b ≠ w.heap.size + 3 → W9.heap[b]? = W.heap[b]? := fun b h1 h2 => by
      rw [← hW9]
      exact (Below.heap_setCell _ _ _ _ (by show b ≠ w.heap.size + 1 + 1 + 1; exact h2)).trans (Below.heap_setCell _ _ _ _ (by show b ≠ w.heap.size + 1 + 1; exact h1))
    have h49 : W9.heap[w.heap.size + 1 + 1]? = some (.cells #[.slice (some ⟨w.heap.size + 4, 0, none⟩) its.length most] 32) := by
      rw [← hW9, Below.heap_setCell _ _ _ _ (by show w.heap.size + 1 + 1 ≠ w.heap.size + 1 + 1 + 1; omega)]
      exact (text_set HI.out.h4 _).trans rfl
    have h59 : W9.heap[w.heap.size + 1 + 1 + 1]? = some (.cells #[.bool false] 4) := by
      rw [← hW9]
      have := (Below.heap_setCell W ⟨w.heap.size + 1 + 1, 0, none⟩ (.slice (some ⟨w.heap.size + 4, 0, none⟩) its.length most) (w.heap.size + 1 + 1 + 1) (by show w.heap.size + 1 + 1 + 1 ≠ w.heap.size + 1 + 1; omega)).trans HI.out.h5
      exact (text_set this _).trans rfl
    have hz := HZ.out
    refine leaves_marks2 (n := w5.heap.size) (v := .tuple #[.slice (some ⟨w.heap.size + 4, 0, none⟩) its.length most, .bool false]) [D] W9 ⟨by simp, fun D' hD' => ?_⟩ fun B' hB => ⟨?_, ?_⟩
    · have e : D' = D := by simpa using hD'
      subst e
      exact ⟨hD, (hold D' (by omega) (by omega)).trans HDD.out⟩
    · have u4 : B'.cell? ⟨w.heap.size + 1 + 1, 0, none⟩ = some (.slice (some ⟨w.heap.size + 4, 0, none⟩) its.length most) := by unfold World.cell?; simp only [hB.block (w.heap.size + 1 + 1) (by omega), h49]; rfl
      have u5 : B'.cell? ⟨w.heap.size + 1 + 1 + 1, 0, none⟩ = some (.bool false) := by unfold World.cell?; simp only [hB.block (w.heap.size + 1 + 1 + 1) (by omega), h59]; rfl
      simp [results, Tryz.results61, go_sem, u4, u5]
    · have hs4 : ∀ b, b ∈ (Value.slice (some ⟨w.heap.size + 4, 0, none⟩) its.length most).ownBlock.toList → b = w.heap.size + 4 := fun b hb => by simpa [Value.ownBlock] using hb
      refine HR2.out B' hnm (own_frame HO8.out fun b hb => ?_) ?_ (HK5.out.then (kept_below hk9 hB (Nat.le_refl _)) ?_)
      · have := hs4 b hb
        exact (hB.block b (by omega)).trans (hold b (by omega) (by omega))
      · exact (hB.block rb (by omega)).trans ((hold rb (by omega) (by omega)).trans HI.out.hr)
      · intro x hx'
        simp only [List.mem_cons, List.not_mem_nil, or_false] at hx' ⊢
        omega
  · rintro D c k W hD hkW hk ⟨rfl, hlt, hx⟩ hdD
    gi_wp2
    have hz := HZ.out
    refine leaves_marks2 (n := w5.heap.size) (v := .tuple #[.slice (some ⟨w.heap.size + 4, 0, none⟩) most most, .bool true]) [D] W ⟨by simp, fun D' hD' => ?_⟩ fun B' hB => ⟨?_, ?_⟩
    · have e : D' = D := by simpa using hD'
      subst e
      exact ⟨hD, hdD⟩
    · have u4 : B'.cell? ⟨w.heap.size + 1 + 1, 0, none⟩ = some (.slice (some ⟨w.heap.size + 4, 0, none⟩) most most) := by unfold World.cell?; simp only [hB.block (w.heap.size + 1 + 1) (by omega), show W.heap[w.heap.size + 1 + 1]? = _ from hx.h4]; rfl
      have u5 : B'.cell? ⟨w.heap.size + 1 + 1 + 1, 0, none⟩ = some (.bool true) := by unfold World.cell?; simp only [hB.block (w.heap.size + 1 + 1 + 1) (by omega), show W.heap[w.heap.size + 1 + 1 + 1]? = _ from hx.h5]; rfl
      simp [results, Tryz.results61, go_sem, u4, u5]
    · have hs4 : ∀ b, b ∈ (Value.slice (some ⟨w.heap.size + 4, 0, none⟩) most most).ownBlock.toList → b = w.heap.size + 4 := fun b hb => by simpa [Value.ownBlock] using hb
      refine HR1.out B' hlt (own_frame hx.row fun b hb => hB.block b (by have := hs4 b hb; omega)) ((hB.block rb (by omega)).trans hx.hr) (HK5.out.then (kept_below hkW hB (Nat.le_refl _)) ?_)
      intro x hx'
      simp only [List.mem_cons, List.not_mem_nil, or_false] at hx' ⊢
      omega

end Go.Proofs.YtcfdemhokbddiaaGreatDoor
