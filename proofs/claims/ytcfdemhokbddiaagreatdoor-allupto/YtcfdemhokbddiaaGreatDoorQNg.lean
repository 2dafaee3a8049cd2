/-
  The two iterators within a moment's lines, in the form that a range over them takes; the lines of a moment as plain data; what its loops keep.
-/
import Derived.Test.YtcfdemhokbddiaaGreatDoorQNe
import Derived.Test.YtcfdemhokbddiaaGreatDoorQMa

namespace Go.Proofs.YtcfdemhokbddiaaGreatDoor
open Go.RowKit Go.Shelf

theorem values_iter (bV : Nat) (v : Value) (ps : List Nat) (w : World) (h1 : w.cell? ⟨bV, 0, none⟩ = some v) (hv : PtrSl w v ps) (hl : ps.length ≤ 100) :
    Iter Tryz.prog 166 #[.pointer (some ⟨bV, 0, none⟩)] (fun k => #[.pointer (some ⟨ps.getD k 0, 0, none⟩)]) ps.length (fun b => b = bV ∨ b ∈ slBlk v) w := by
  intro l L J Jx W hb hL hJ hJx hY h0
  have hc : W.cell? ⟨bV, 0, none⟩ = some v := by
    rw [World.cell?_of_block (a := ⟨bV, 0, none⟩) (hb.block bV (World.block_lt_of_cell? _ _ h1))]; exact h1
  exact values1_any l bV v ps L J Jx W hc (hv.frame hb.size fun b hb' => hb.block b (hv.lt b hb')) hl (fun b hb' hm => (hL b hb').2 (Or.inr hm)) hY h0

theorem lines_iter (bf bF bC f ag c ac fr m : Nat) (nm : List UInt8) (kind : Int) (lv sv : Value) (ls : List Int) (x : Cnt) (w : World)
    (h1 : w.cell? ⟨bf, 0, none⟩ = some (.int .i64 (fr : Int))) (h2 : w.cell? ⟨bF, 0, none⟩ = some (.pointer (some ⟨f, 0, none⟩))) (h3 : w.cell? ⟨bC, 0, none⟩ = some (.pointer (some ⟨c, 0, none⟩)))
    (hf : w.heap[f]? = some (famObj ag nm kind lv sv)) (hc : w.heap[c]? = some (cntObj ac x)) (hlv : w.ownsRow 0 3 1 lv ls.length (ints ls)) (hx : CntOk m x) (hm : m ≤ 4611686018427387904) (hlb : ∀ y ∈ ls, -1000000000 ≤ y ∧ y ≤ 1000000000) (hl4 : ls.length ≤ 4) (ht : Tab w) (hfr : fr ≤ ls.length) :
    Iter Tryz.prog 159 #[.pointer (some ⟨bf, 0, none⟩), .pointer (some ⟨bF, 0, none⟩), .pointer (some ⟨bC, 0, none⟩)] (fun k => #[.string (B (lineAt kind ls x (fr + k)))]) (ls.length + 1 - fr)
      (fun b => b = bf ∨ b = bF ∨ b = bC ∨ b = f ∨ b = c ∨ b ∈ lv.ownBlock.toList ∨ b = 0) w := by
  intro l L J Jx W hb hL hJ hJx hY h0
  have hce : ∀ b v, w.cell? ⟨b, 0, none⟩ = some v → W.cell? ⟨b, 0, none⟩ = some v := fun b v hv => by
    rw [World.cell?_of_block (a := ⟨b, 0, none⟩) (hb.block b (World.block_lt_of_cell? _ _ hv))]; exact hv
  exact lines1_any l bf bF bC f ag c ac fr m nm kind lv sv ls x L J Jx W (hce _ _ h1) (hce _ _ h2) (hce _ _ h3) ((hb.block f (lt_of hf)).trans hf) ((hb.block c (lt_of hc)).trans hc)
    (own_frame hlv fun b hb' => hb.block b (own_lt hlv b hb')) hx hm hlb hl4 (ht.same (hb.block 0 ht.lt)) hfr
    (fun b hb' => ⟨fun e => (hL b hb').2 (Or.inl e), fun e => (hL b hb').2 (Or.inr (Or.inl e)), fun e => (hL b hb').2 (Or.inr (Or.inr (Or.inl e))), fun e => (hL b hb').2 (Or.inr (Or.inr (Or.inr (Or.inl e)))), fun e => (hL b hb').2 (Or.inr (Or.inr (Or.inr (Or.inr (Or.inl e))))), fun e => (hL b hb').2 (Or.inr (Or.inr (Or.inr (Or.inr (Or.inr (Or.inl e)))))), fun e => (hL b hb').2 (Or.inr (Or.inr (Or.inr (Or.inr (Or.inr (Or.inr e))))))⟩)
    hJ hY h0 (fun b hb' => (hL b hb').1)

/-- A series' lines. -/
def serLines (kind : Int) (ls : List Int) (x : Cnt) : List (List UInt8) := (List.range (ls.length + 1)).map (lineAt kind ls x)
/-- The lines of families: each family's own line, then a list a series. -/
def momT (F : List Fam) : List (List UInt8 × List (List (List UInt8))) := F.map fun f => (titleP f.nm f.kind, f.ser.map (serLines f.kind f.ls))
def famT (F : List GF) : List (List UInt8 × List (List (List UInt8))) := momT (F.map GF.view)
theorem famT_len (F : List GF) : (famT F).length = F.length := by simp [famT, momT]
theorem famT_get {F : List GF} {i : Nat} (h : i < F.length) : (famT F)[i]'(by rw [famT_len]; exact h) = (titleP F[i].nm F[i].kind, F[i].ser.map fun c => serLines F[i].kind F[i].ls c.x) := by
  simp [famT, momT, GF.view]
theorem serLines_len (kind : Int) (ls : List Int) (x : Cnt) : (serLines kind ls x).length = ls.length + 1 := by simp [serLines]
theorem serLines_get (kind : Int) (ls : List Int) (x : Cnt) (i : Nat) (h : i < (serLines kind ls x).length) : (serLines kind ls x)[i] = lineAt kind ls x i := by simp [serLines]

theorem fam_title {F : List GF} {i : Nat} (h : i < F.length) : itFrom (famT F) ⟨i, 0, 0⟩ = (⟨i, 0, 0⟩, titleP F[i].nm F[i].kind) :: itFrom (famT F) ⟨i, 1, 0⟩ := by
  rw [itFrom_title (by rw [famT_len]; exact h), famT_get h]
theorem fam_line {F : List GF} {i s l : Nat} (h : i < F.length) (hs : s < F[i].ser.length) (hl : l ≤ F[i].ls.length) :
    itFrom (famT F) ⟨i, s + 1, l⟩ = (⟨i, s + 1, l⟩, lineAt F[i].kind F[i].ls F[i].ser[s].x l) :: itFrom (famT F) ⟨i, s + 1, l + 1⟩ := by
  have e := famT_get h
  have h' : i < (famT F).length := by rw [famT_len]; exact h
  have hs' : s < (famT F)[i].2.length := by rw [e]; simpa using hs
  have e2 : (famT F)[i].2[s] = serLines F[i].kind F[i].ls F[i].ser[s].x := by simp [e]
  have hl' : l < (famT F)[i].2[s].length := by rw [e2, serLines_len]; omega
  rw [itFrom_line h' hs' hl']
  simp only [e2, serLines_get]
theorem fam_next {F : List GF} {i s : Nat} (h : i < F.length) (hs : s < F[i].ser.length) : itFrom (famT F) ⟨i, s + 1, F[i].ls.length + 1⟩ = itFrom (famT F) ⟨i, s + 2, 0⟩ := by
  have e := famT_get h
  have h' : i < (famT F).length := by rw [famT_len]; exact h
  have hs' : s < (famT F)[i].2.length := by rw [e]; simpa using hs
  have e2 : (famT F)[i].2[s] = serLines F[i].kind F[i].ls F[i].ser[s].x := by simp [e]
  exact itFrom_next h' hs' (by rw [e2, serLines_len]; exact Nat.le_refl _)
theorem fam_over {F : List GF} {i : Nat} (h : i < F.length) : itFrom (famT F) ⟨i, F[i].ser.length + 1, 0⟩ = itFrom (famT F) ⟨i + 1, 0, 0⟩ := by
  have e := famT_get h
  have h' : i < (famT F).length := by rw [famT_len]; exact h
  exact itFrom_fam h' (by rw [e]; simp)

/-- A place at which the lines can be gone on: a family's own line, or one of a series of it; or the very end. -/
def PlOk (F : List GF) (p : Pl) : Prop := (p.f = F.length ∧ p.s = 0 ∧ p.l = 0) ∨ ∃ h : p.f < F.length, (p.s = 0 ∧ p.l = 0) ∨ (1 ≤ p.s ∧ p.s ≤ F[p.f].ser.length ∧ p.l ≤ F[p.f].ls.length)

def atObj (p : Pl) : Obj := .cells #[.int .i64 (p.f : Int), .int .i64 (p.s : Int), .int .i64 (p.l : Int)] 108
def plV (p : Pl) : Value := .agg #[.int .i64 (p.f : Int), .int .i64 (p.s : Int), .int .i64 (p.l : Int)]
def encL (x : Pl × List UInt8) : Array Value := #[plV x.1, .string (B x.2)]

/-- What the function that goes through a moment's lines knows all the while. -/
structure LCtx (l b3 b4 : Nat) (L : List Nat) (J Jx : Nat → World → Prop) (W2 : World) (fams : List GF) (its : List (Pl × List UInt8)) (m : Nat) : Prop where
  y : W2.heap[b3]? = some (.cells #[.func (.yield l) #[] #[]] 211)
  b34 : b3 < b4
  b4lt : b4 < W2.heap.size
  lL : ∀ b ∈ L, b < b3
  hJ : ∀ k A B, J k A → Below b3 A B → J k B
  hJx : ∀ k A B, Jx k A → Below b3 A B → Jx k B
  hY : ∀ k A (hk : k < its.length), J k A → YieldAt Fence.wide 0 Tryz.prog l (encL its[k]) A fun e B => Kept L A B ∧ ((e = .returned (.bool true) ∧ J (k + 1) B) ∨ (e = .returned (.bool false) ∧ Jx k B))
  each : ∀ g ∈ fams, GF.At W2 g
  ok : ∀ g ∈ fams, GF.Ok m g
  hm : m ≤ 4611686018427387904
  names : ∀ g ∈ fams, g.nm.length ≤ 12
  tab : Tab W2
  far : ∀ b ∈ b4 :: L, b ≠ 0 ∧ ∀ g ∈ fams, b ∉ g.foot

def PI (b4 : Nat) (L : List Nat) (J : Nat → World → Prop) (W2 : World) (fams : List GF) (its : List (Pl × List UInt8)) (p : Pl) (A : World) : Prop :=
  ∃ done, its = done ++ itFrom (famT fams) p ∧ J done.length A ∧ A.heap[b4]? = some (atObj p) ∧ Kept (b4 :: L) W2 A
def PX (b4 : Nat) (L : List Nat) (Jx : Nat → World → Prop) (W2 : World) (its : List (Pl × List UInt8)) (A : World) : Prop := (∃ k, k < its.length ∧ Jx k A) ∧ Kept (b4 :: L) W2 A

theorem kept_below {L : List Nat} {w A B : World} {n : Nat} (h : Kept L w A) (hb : Below n A B) (hn : w.heap.size ≤ n) : Kept L w B :=
  ⟨hb.os.trans h.os, hb.tape.trans h.tape, hb.output.trans h.output, Nat.le_trans h.size hb.size, fun k hk hm => (hb.block k (by omega)).trans (h.block k hk hm)⟩

section
variable {l b3 b4 m : Nat} {L : List Nat} {J Jx : Nat → World → Prop} {W2 : World} {fams : List GF} {its : List (Pl × List UInt8)}
theorem PI.below (hc : LCtx l b3 b4 L J Jx W2 fams its m) {p : Pl} {A B : World} {n : Nat} (h : PI b4 L J W2 fams its p A) (hn : W2.heap.size ≤ n) (hb : Below n A B) : PI b4 L J W2 fams its p B := by
  obtain ⟨done, h1, h2, h3, h4⟩ := h
  have := hc.b34
  have := hc.b4lt
  exact ⟨done, h1, hc.hJ _ _ _ h2 (hb.mono (by omega)), (hb.block b4 (by omega)).trans h3, kept_below h4 hb hn⟩
theorem PX.below (hc : LCtx l b3 b4 L J Jx W2 fams its m) {A B : World} {n : Nat} (h : PX b4 L Jx W2 its A) (hn : W2.heap.size ≤ n) (hb : Below n A B) : PX b4 L Jx W2 its B := by
  obtain ⟨⟨k, h1, h2⟩, h4⟩ := h
  have := hc.b34
  have := hc.b4lt
  exact ⟨⟨k, h1, hc.hJx _ _ _ h2 (hb.mono (by omega))⟩, kept_below h4 hb hn⟩
theorem LCtx.cell3 (hc : LCtx l b3 b4 L J Jx W2 fams its m) {A : World} (hk : Kept (b4 :: L) W2 A) : A.cell? ⟨b3, 0, none⟩ = some (.func (.yield l) #[] #[]) := by
  have h1 := (hk.block b3 (lt_of hc.y) (fun hm => by
    rcases List.mem_cons.1 hm with e | hm
    · have := hc.b34; omega
    · have := hc.lL _ hm; omega)).trans hc.y
  unfold World.cell?; simp only [h1]; rfl
theorem LCtx.fam (hc : LCtx l b3 b4 L J Jx W2 fams its m) {A : World} (hk : Kept (b4 :: L) W2 A) {g : GF} (hg : g ∈ fams) : GF.At A g :=
  (hc.each g hg).frame fun b hb => hk.block b ((hc.each g hg).lt b hb) (fun hm => (hc.far b hm).2 g hg hb)
theorem LCtx.tab' (hc : LCtx l b3 b4 L J Jx W2 fams its m) {A : World} (hk : Kept (b4 :: L) W2 A) : Tab A :=
  hc.tab.same (hk.block 0 hc.tab.lt (fun hm => (hc.far 0 hm).1 rfl))
theorem at_cells {A : World} {p : Pl} (h : A.heap[b4]? = some (atObj p)) : A.cell? ⟨b4, 0, none⟩ = some (.int .i64 (p.f : Int)) ∧ A.cell? ⟨b4, 1, none⟩ = some (.int .i64 (p.s : Int)) ∧ A.cell? ⟨b4, 2, none⟩ = some (.int .i64 (p.l : Int)) := by
  unfold World.cell?; simp only [h]; exact ⟨rfl, rfl, rfl⟩
theorem at_froz {A : World} {p : Pl} (h : A.heap[b4]? = some (atObj p)) (o : Nat) : A.frozen? ⟨b4, o, none⟩ = false := by
  unfold World.frozen?; simp only [h]; simp [atObj]
end

end Go.Proofs.YtcfdemhokbddiaaGreatDoor

/-
  A line of a series handed on, within the two ranges of a moment's lines.
-/
namespace Go.Proofs.YtcfdemhokbddiaaGreatDoor
open Go.RowKit Go.Shelf

attribute [local go_sem] Oper.semAt_some

def cFst : Code → Code
  | .seq a _ => a
  | c => c
def cSnd : Code → Code
  | .seq _ b => b
  | c => c
def cInn : Code → Code
  | .block _ c => c
  | .loop c => c
  | .rangeFunc _ _ _ b => b
  | c => c
def cX (c : Code) : Code := cInn (cInn (cSnd (cSnd (cSnd c))))
def cY (c : Code) : Code := cFst (cSnd (cSnd (cX c)))
def cR (c : Code) : Code := cInn (cSnd (cFst (cSnd (cSnd (cInn (cY c))))))
def cS (c : Code) : Code := cInn (cR c)
def cQ (c : Code) : Code := cInn (cSnd (cFst (cInn (cS c))))
def cU (c : Code) : Code := cInn (cQ c)

section
variable {l b3 b4 m : Nat} {L : List Nat} {J Jx : Nat → World → Prop} {W2 : World} {fams : List GF} {its : List (Pl × List UInt8)}

theorem PI.yield (hc : LCtx l b3 b4 L J Jx W2 fams its m) {p p' : Pl} {line : List UInt8} {A : World} (h : PI b4 L J W2 fams its p A) (hp : itFrom (famT fams) p = (p, line) :: itFrom (famT fams) p') {W : World} (hg : A.grownBy W none) (n : Nat) :
    ∃ done, its = done ++ itFrom (famT fams) p ∧ W.heap[b4]? = some (atObj p) ∧ Kept (b4 :: L) W2 W ∧ YieldAt Fence.wide n Tryz.prog l #[plV p, .string (B line)] W fun e B => Kept L W B ∧ ((e = .returned (.bool true) ∧ J (done.length + 1) B) ∨ (e = .returned (.bool false) ∧ Jx done.length B)) := by
  obtain ⟨done, h1, h2, h3, h4⟩ := h
  have hlt : done.length < its.length := by rw [h1, hp]; simp
  have hge : its[done.length] = (p, line) := by simp [h1, hp]
  have hj : J done.length W := hc.hJ _ _ _ h2 ⟨hg.os, hg.tape, hg.output, hg.size, fun b hb => hg.block b (by have := hc.b34; have := hc.b4lt; have := h4.size; omega) (by simp)⟩
  have := hc.hY done.length W hlt hj
  rw [hge] at this
  exact ⟨done, h1, (hg.block b4 (lt_of h3) (by simp)).trans h3, h4.trans (Kept.of_none hg _), yield_n this⟩

set_option maxRecDepth 100000 in
set_option maxHeartbeats 1000000 in
theorem lnU (hc : LCtx l b3 b4 L J Jx W2 fams its m) (l₁ n : Nat) (A : World) (p : Pl) (line : List UInt8) (hp : itFrom (famT fams) p = (p, line) :: itFrom (famT fams) ⟨p.f, p.s, p.l + 1⟩) (hl : p.l ≤ 100)
    (h : PI b4 L J W2 fams its p A) (ds : List Deferred) (t0 t1 t2 t5 t6 t7 t9 t10 t11 t12 t13 t14 t15 t16 t17 t18 t19 t20 t21 t22 t23 t24 t25 t26 t27 t28 t29 t30 t31 t32 t33 t34 t35 t36 t37 t38 t39 t40 t41 t42 t43 t44 t45 t46 t47 t48 t49 t50 t51 t52 t53 t54 t55 t56 t57 t58 t59 t60 t61 t62 t63 : Value) (Q : Exit → Act → World → Prop)
    (hQ1 : ∀ a B, Kept (b4 :: L) A B → PI b4 L J W2 fams its ⟨p.f, p.s, p.l + 1⟩ B → Q .normal a B) (hQ2 : ∀ a B, Kept (b4 :: L) A B → PX b4 L Jx W2 its B → Q .ret a B) :
    (cU (Tryz.f129.body.getD .skip)).wpIn (Fence.wide.inRound l₁) n Tryz.prog Q { tmps := #[t0, t1, t2, .pointer (some ⟨b3, 0, none⟩), .pointer (some ⟨b4, 0, none⟩), t5, t6, t7, .string (B line), t9, t10, t11, t12, t13, t14, t15, t16, t17, t18, t19, t20, t21, t22, t23, t24, t25, t26, t27, t28, t29, t30, t31, t32, t33, t34, t35, t36, t37, t38, t39, t40, t41, t42, t43, t44, t45, t46, t47, t48, t49, t50, t51, t52, t53, t54, t55, t56, t57, t58, t59, t60, t61, t62, t63], defers := ds } A := by
  have HC : Hid (LCtx l b3 b4 L J Jx W2 fams its m) := hc
  obtain ⟨done, e1, hat, hk, hy⟩ := h.yield hc hp (gb_refl A none) (n - 1)
  have y3 := hc.cell3 hk
  obtain ⟨a0, a1, a2⟩ := at_cells hat
  obtain ⟨fn, tmps, assign, body, hyr, hR⟩ := hy
  have HE : Hid (its = done ++ itFrom (famT fams) p) := e1
  have HP : Hid (itFrom (famT fams) p = (p, line) :: itFrom (famT fams) ⟨p.f, p.s, p.l + 1⟩) := hp
  have HAT : Hid (A.heap[b4]? = some (atObj p)) := hat
  have HK : Hid (Kept (b4 :: L) W2 A) := hk
  have HQ1 : Hid (∀ a B, Kept (b4 :: L) A B → PI b4 L J W2 fams its ⟨p.f, p.s, p.l + 1⟩ B → Q .normal a B) := hQ1
  have HQ2 : Hid (∀ a B, Kept (b4 :: L) A B → PX b4 L Jx W2 its B → Q .ret a B) := hQ2
  clear h hc hp e1 hat hk hQ1 hQ2
  unfold plV at hyr
  have hl' : (p.l : Int) ≤ 100 := by omega
  dsimp only [cU, cQ, cS, cR, cY, cX, cInn, cFst, cSnd, Tryz.f129, Option.getD]
  gi_wp2
  have hR' : RoundIn (Fence.wide.inRound l₁) (n - 1) Tryz.prog l fn tmps assign body A _ := hR
  refine ⟨fun h => (by cases h), hR'.mono ?_⟩
  clear hR
  rintro e C ⟨hkC, (⟨rfl, hj⟩ | ⟨rfl, hx⟩)⟩
  · have hatC := (hkC.block b4 (lt_of HAT.out) (fun hm => by have := HC.out.lL _ hm; have := HC.out.b34; omega)).trans HAT.out
    obtain ⟨_, _, d2⟩ := at_cells hatC
    have f2 := at_froz hatC 2
    have HKC : Hid (Kept L A C) := hkC
    have HATC : Hid (C.heap[b4]? = some (atObj p)) := hatC
    clear hkC hatC a0 a1 a2 y3 hyr hR'
    gi_wp2
    have hk1 : Kept (b4 :: L) A (C.setCell ⟨b4, 2, none⟩ (.int .i64 ((p.l : Int) + 1))) := (HKC.out.mono fun b hb => Or.inl (by simp [hb])).trans (Kept.of_some (gb_setCell _ _ _ _) _ (Or.inl (by simp)))
    refine HQ1.out _ _ hk1 ⟨done ++ [(p, line)], by rw [HE.out, HP.out]; simp, ?_, ?_, HK.out.trans hk1⟩
    · rw [List.length_append]
      refine HC.out.hJ _ _ _ hj ((Kept.of_some (gb_setCell C b4 2 _) [b4] (Or.inl (by simp))).below ?_ fun b hb => ?_)
      · have := HC.out.b34; have := HC.out.b4lt; have := HK.out.size; have := HKC.out.size; omega
      · have e : b = b4 := by simpa using hb
        have := HC.out.b34; omega
    · rw [text_set HATC.out]; rfl
  · have HKC : Hid (Kept L A C) := hkC
    clear hkC
    gi_wp2
    have hk1 : Kept (b4 :: L) A C := HKC.out.mono fun b hb => Or.inl (by simp [hb])
    refine HQ2.out _ _ hk1 ⟨⟨done.length, by rw [HE.out, HP.out]; simp, hx⟩, HK.out.trans hk1⟩
end

end Go.Proofs.YtcfdemhokbddiaaGreatDoor
