/-
  The lines of one series handed on, within the range over a family's series.
-/
import Derived.Test.YtcfdemhokbddiaaGreatDoorQNg

namespace Go.Proofs.YtcfdemhokbddiaaGreatDoor
open Go.RowKit Go.Shelf

attribute [local go_sem] Oper.semAt_some

/-- The frame of a round within a series' lines. -/
def AxU (b3 b4 : Nat) (line : List UInt8) (a' : Act) : Prop := ∃ t0 t1 t2 t5 t6 t7 t9 t10 t11 t12 t13 t14 t15 t16 t17 t18 t19 t20 t21 t22 t23 t24 t25 t26 t27 t28 t29 t30 t31 t32 t33 t34 t35 t36 t37 t38 t39 t40 t41 t42 t43 t44 t45 t46 t47 t48 t49 t50 t51 t52 t53 t54 t55 t56 t57 t58 t59 t60 t61 t62 t63 : Value, a' = { tmps := #[t0, t1, t2, .pointer (some ⟨b3, 0, none⟩), .pointer (some ⟨b4, 0, none⟩), t5, t6, t7, .string (B line), t9, t10, t11, t12, t13, t14, t15, t16, t17, t18, t19, t20, t21, t22, t23, t24, t25, t26, t27, t28, t29, t30, t31, t32, t33, t34, t35, t36, t37, t38, t39, t40, t41, t42, t43, t44, t45, t46, t47, t48, t49, t50, t51, t52, t53, t54, t55, t56, t57, t58, t59, t60, t61, t62, t63], defers := [] }

section
variable {l b3 b4 m : Nat} {L : List Nat} {J Jx : Nat → World → Prop} {W2 : World} {fams : List GF} {its : List (Pl × List UInt8)}

theorem PI.step (hc : LCtx l b3 b4 L J Jx W2 fams its m) {p p' : Pl} {A B : World} (h : PI b4 L J W2 fams its p A) (he : itFrom (famT fams) p = itFrom (famT fams) p') (hg : A.grownBy B (some b4)) (hat : B.heap[b4]? = some (atObj p')) : PI b4 L J W2 fams its p' B := by
  obtain ⟨done, h1, h2, h3, h4⟩ := h
  have hk : Kept [b4] A B := Kept.of_some hg _ (Or.inl (by simp))
  refine ⟨done, by rw [h1, he], hc.hJ _ _ _ h2 (hk.below ?_ fun b hb => ?_), hat, h4.trans (hk.mono fun b hb => Or.inl (by simpa using Or.inl (by simpa using hb)))⟩
  · have := hc.b34; have := hc.b4lt; have := h4.size; omega
  · have e : b = b4 := by simpa using hb
    have := hc.b34; omega

set_option maxRecDepth 100000 in
set_option maxHeartbeats 2000000 in
theorem lnS (hc : LCtx l b3 b4 L J Jx W2 fams its m) (l₁ n : Nat) (A : World) (fi s l0 b6 : Nat) (hfi : fi < fams.length) (g : GF) (hg : fams[fi] = g) (hs : s < g.ser.length) (hl0 : l0 ≤ g.ls.length)
    (hl1 : ∃ r, A.heap[l₁]? = some (.loop r)) (h : PI b4 L J W2 fams its ⟨fi, s + 1, l0⟩ A) (hb6 : A.cell? ⟨b6, 0, none⟩ = some (.pointer (some ⟨g.b, 0, none⟩))) (t0 t1 t2 t5 t8 t9 t10 t11 t12 t13 t14 t15 t16 t17 t18 t19 t20 t21 t22 t23 t24 t25 t26 t27 t28 t29 t30 t31 t32 t33 t34 t35 t36 t37 t38 t39 t40 t41 t42 t43 t44 t45 t46 t47 t48 t49 t50 t51 t52 t53 t54 t55 t56 t57 t58 t59 t60 t61 t62 t63 : Value) (Q : Exit → Act → World → Prop)
    (hQ1 : ∀ a B, Kept (b4 :: L) A B → PI b4 L J W2 fams its ⟨fi, s + 2, 0⟩ B → Q .normal a B) (hQ2 : ∀ a B, Kept (b4 :: L) A B → PX b4 L Jx W2 its B → Q .ret a B) :
    (cS (Tryz.f129.body.getD .skip)).wpIn (Fence.wide.inRound l₁) n Tryz.prog Q { tmps := #[t0, t1, t2, .pointer (some ⟨b3, 0, none⟩), .pointer (some ⟨b4, 0, none⟩), t5, .pointer (some ⟨b6, 0, none⟩), .pointer (some ⟨g.ser[s].b, 0, none⟩), t8, t9, t10, t11, t12, t13, t14, t15, t16, t17, t18, t19, t20, t21, t22, t23, t24, t25, t26, t27, t28, t29, t30, t31, t32, t33, t34, t35, t36, t37, t38, t39, t40, t41, t42, t43, t44, t45, t46, t47, t48, t49, t50, t51, t52, t53, t54, t55, t56, t57, t58, t59, t60, t61, t62, t63], defers := [] } A := by
  have hgm : g ∈ fams := by rw [← hg]; exact List.getElem_mem hfi
  have hgok := hc.ok g hgm
  obtain ⟨done, e1, hj, hat, hk⟩ := h
  have hgat := hc.fam hk hgm
  have htab := hc.tab' hk
  obtain ⟨a0, a1, a2⟩ := at_cells hat
  have hsl : s + 2 ≤ 30 := by have := hgok.len; omega
  have hcok := hgok.each _ (List.getElem_mem hs)
  obtain ⟨r₁, hl1⟩ := hl1
  have hl1lt := lt_of hl1
  obtain ⟨W3, hW3⟩ : ∃ W3, ((A.alloc (.cells #[.pointer (some ⟨g.b, 0, none⟩)] 112)).alloc (.cells #[.pointer (some ⟨g.ser[s].b, 0, none⟩)] 120)).alloc (.cells #[.int .i64 (l0 : Int)] 3) = W3 := ⟨_, rfl⟩
  have g3 : A.grownBy W3 none := by rw [← hW3]; exact gb_alloc (gb_alloc (gb_alloc (gb_refl _ _) _) _) _
  have z3 : W3.heap.size = A.heap.size + 3 := by rw [← hW3]; simp
  have x0 : W3.cell? ⟨A.heap.size, 0, none⟩ = some (.pointer (some ⟨g.b, 0, none⟩)) := by
    rw [← hW3]
    have h0 := alloc_cell A (.pointer (some ⟨g.b, 0, none⟩)) 112
    exact gb_cell (gb_alloc (gb_alloc (gb_refl _ none) _) _) h0 (by simp)
  have x1 : W3.cell? ⟨A.heap.size + 1, 0, none⟩ = some (.pointer (some ⟨g.ser[s].b, 0, none⟩)) := by
    rw [← hW3]
    have h0 := alloc_cell (A.alloc (.cells #[.pointer (some ⟨g.b, 0, none⟩)] 112)) (.pointer (some ⟨g.ser[s].b, 0, none⟩)) 120
    rw [World.size_alloc] at h0
    exact gb_cell (gb_alloc (gb_refl _ none) _) h0 (by simp)
  have x2 : W3.cell? ⟨A.heap.size + 2, 0, none⟩ = some (.int .i64 (l0 : Int)) := by
    rw [← hW3]
    have h0 := alloc_cell ((A.alloc (.cells #[.pointer (some ⟨g.b, 0, none⟩)] 112)).alloc (.cells #[.pointer (some ⟨g.ser[s].b, 0, none⟩)] 120)) (.int .i64 (l0 : Int)) 3
    rw [World.size_alloc, World.size_alloc] at h0
    exact h0
  have hgat3 : GF.At W3 g := hgat.frame fun b hb => g3.block b (hgat.lt b hb) (by simp)
  have HIT : Hid (Iter Tryz.prog 159 #[.pointer (some ⟨A.heap.size + 2, 0, none⟩), .pointer (some ⟨A.heap.size, 0, none⟩), .pointer (some ⟨A.heap.size + 1, 0, none⟩)] (fun k => #[.string (B (lineAt g.kind g.ls g.ser[s].x (l0 + k)))]) (g.ls.length + 1 - l0) _ W3) :=
    lines_iter (A.heap.size + 2) A.heap.size (A.heap.size + 1) g.b g.age g.ser[s].b g.ser[s].age l0 m g.nm g.kind g.lv g.sv g.ls g.ser[s].x W3 x2 x0 x1 hgat3.blk (hgat3.cnts _ (List.getElem_mem hs)) hgat3.lims hcok hc.hm hgok.lb hgok.lims.1 (htab.gb g3) hl0
  have hPI3 : PI b4 L J W2 fams its ⟨fi, s + 1, l0⟩ W3 := PI.below hc ⟨done, e1, hj, hat, hk⟩ (n := A.heap.size) hk.size ⟨g3.os, g3.tape, g3.output, g3.size, fun b hb => g3.block b hb (by simp)⟩
  have hl13 := (g3.block l₁ hl1lt (by simp)).trans hl1
  have hfar : ∀ b ∈ b4 :: L, b < A.heap.size := fun b hb => by
    have := hk.size; have := hc.b4lt
    rcases List.mem_cons.1 hb with rfl | hb
    · omega
    · have := hc.lL b hb; have := hc.b34; omega
  have hkey : (fams[fi]).ls = g.ls := by rw [hg]
  have HC : Hid (LCtx l b3 b4 L J Jx W2 fams its m) := hc
  have HPI3 : Hid (PI b4 L J W2 fams its ⟨fi, s + 1, l0⟩ W3) := hPI3
  have HL13 : Hid (W3.heap[l₁]? = some (.loop r₁)) := hl13
  have HG3 : Hid (A.grownBy W3 none) := g3
  have HZ3 : Hid (W3.heap.size = A.heap.size + 3) := z3
  have HFAR : Hid (∀ b ∈ b4 :: L, b < A.heap.size) := hfar
  have HKA : Hid (Kept (b4 :: L) W2 A) := hk
  have HLT : Hid (∀ b ∈ g.foot, b < A.heap.size) := hgat.lt
  have HT0 : Hid (0 < A.heap.size) := htab.lt
  have HLN : Hid (∀ k, k ≤ g.ls.length → itFrom (famT fams) ⟨fi, s + 1, k⟩ = (⟨fi, s + 1, k⟩, lineAt g.kind g.ls g.ser[s].x k) :: itFrom (famT fams) ⟨fi, s + 1, k + 1⟩) := fun k hk => by
    subst hg
    exact fam_line hfi hs hk
  have HNX : Hid (itFrom (famT fams) ⟨fi, s + 1, g.ls.length + 1⟩ = itFrom (famT fams) ⟨fi, s + 2, 0⟩) := by
    show _ = _
    subst hg
    exact fam_next hfi hs
  have hls4 := hgok.lims.1
  have HQ1 : Hid (∀ a B, Kept (b4 :: L) A B → PI b4 L J W2 fams its ⟨fi, s + 2, 0⟩ B → Q .normal a B) := hQ1
  have HQ2 : Hid (∀ a B, Kept (b4 :: L) A B → PX b4 L Jx W2 its B → Q .ret a B) := hQ2
  have HLF : Hid (Calls Tryz.prog 132 #[.pointer (some ⟨g.b, 0, none⟩), .pointer (some ⟨g.ser[s].b, 0, none⟩), .int .i64 (l0 : Int)] A fun e w' => e = .returned (.func (.func 159) #[] #[.pointer (some ⟨A.heap.size + 2, 0, none⟩), .pointer (some ⟨A.heap.size, 0, none⟩), .pointer (some ⟨A.heap.size + 1, 0, none⟩)]) ∧ w' = W3) := by
    rw [← hW3]; exact linesFrom_any g.b g.ser[s].b (l0 : Int) A
  have hlvf : ∀ b ∈ g.lv.ownBlock.toList, b ∈ g.foot := fun b hb => by simp only [GF.foot, List.mem_cons, List.mem_append]; exact Or.inr (Or.inl hb)
  have hcf : g.ser[s].b ∈ g.foot := by simp only [GF.foot, List.mem_cons, List.mem_append, List.mem_map]; exact Or.inr (Or.inr (Or.inr ⟨_, List.getElem_mem hs, rfl⟩))
  have hbf : g.b ∈ g.foot := by simp [GF.foot]
  have HRL : Hid (∀ b, (b = A.heap.size + 2 ∨ b = A.heap.size ∨ b = A.heap.size + 1 ∨ b = g.b ∨ b = g.ser[s].b ∨ b ∈ g.lv.ownBlock.toList ∨ b = 0) → b < W3.heap.size ∧ b ∉ b4 :: L) := by
    intro b hb
    have hlt : b ∈ g.foot → b < W3.heap.size ∧ b ∉ b4 :: L := fun hf => ⟨by have := hgat.lt b hf; omega, fun hm => (hc.far b hm).2 g hgm hf⟩
    rcases hb with e | e | e | e | e | hb | e
    · exact ⟨by omega, fun hm => by have := hfar b hm; omega⟩
    · exact ⟨by omega, fun hm => by have := hfar b hm; omega⟩
    · exact ⟨by omega, fun hm => by have := hfar b hm; omega⟩
    · exact hlt (by rw [e]; exact hbf)
    · exact hlt (by rw [e]; exact hcf)
    · exact hlt (hlvf b hb)
    · exact ⟨by have := htab.lt; omega, fun hm => (hc.far b hm).1 e⟩
  generalize g.ser[s].b = cb at *
  generalize g.b = gb at *
  clear hc hgok e1 hj hat hk hgat htab hcok hl1 hW3 g3 z3 x0 x1 x2 hgat3 hPI3 hl13 hfar hQ1 hQ2 hlvf hcf hbf hkey hl1lt
  dsimp only [cU, cQ, cS, cR, cY, cX, cInn, cFst, cSnd, Tryz.f129, Option.getD]
  gi_wp2
  refine ⟨trivial, fun h => (by cases h), (CallsIn.inRound l₁ (callsIn_wide.2 HLF.out)).mono ?_⟩
  rintro e w3 ⟨rfl, rfl⟩
  clear a0 a1 a2 hb6
  gi_wp2
  refine range_in (n := n) (gf := 159) HL13.out rfl (fun args w => by simp [go_sem]) HIT.out (fun k _ => rfl) (fun b hb hr => by have := (HRL.out b hr).1; omega) (b4 :: L)
    (fun b hb => ⟨by have := HFAR.out b hb; have := HZ3.out; omega, fun hr => (HRL.out b hr).2 hb⟩)
    (fun k B => PI b4 L J W2 fams its ⟨fi, s + 1, l0 + k⟩ B) (fun c _ B => c = .ret ∧ PX b4 L Jx W2 its B)
    (fun k A' B' h hb => PI.below HC.out h (by have := HKA.out.size; have := HZ3.out; omega) hb) (fun c k A' B' h hb => ⟨h.1, PX.below HC.out h.2 (by have := HKA.out.size; have := HZ3.out; omega) hb⟩) HPI3.out
    (fun k a' _ => AxU b3 b4 (lineAt g.kind g.ls g.ser[s].x (l0 + k)) a') (fun _ _ _ _ _ _ h _ => h) ?_ ?_ ?_ ?_
  · intro l₂ k W K hk hi hK
    gi_wp2
    exact hK _ _ (gb_refl _ _) ⟨_, _, _, _, _, _, _, _, _, _, _, _, _, _, _, _, _, _, _, _, _, _, _, _, _, _, _, _, _, _, _, _, _, _, _, _, _, _, _, _, _, _, _, _, _, _, _, _, _, _, _, _, _, _, _, _, _, _, _, _, _, rfl⟩
  · rintro l₂ k a' W hle hr hk hi ⟨t0, t1, t2, t5, t6, t7, t9, t10, t11, t12, t13, t14, t15, t16, t17, t18, t19, t20, t21, t22, t23, t24, t25, t26, t27, t28, t29, t30, t31, t32, t33, t34, t35, t36, t37, t38, t39, t40, t41, t42, t43, t44, t45, t46, t47, t48, t49, t50, t51, t52, t53, t54, t55, t56, t57, t58, t59, t60, t61, t62, t63, rfl⟩
    refine lnU HC.out l₂ n W ⟨fi, s + 1, l0 + k⟩ _ (HLN.out (l0 + k) (by omega)) (by show l0 + k ≤ 100; omega) hi [] t0 t1 t2 t5 t6 t7 t9 t10 t11 t12 t13 t14 t15 t16 t17 t18 t19 t20 t21 t22 t23 t24 t25 t26 t27 t28 t29 t30 t31 t32 t33 t34 t35 t36 t37 t38 t39 t40 t41 t42 t43 t44 t45 t46 t47 t48 t49 t50 t51 t52 t53 t54 t55 t56 t57 t58 t59 t60 t61 t62 t63 _ ?_ ?_
    · intro a C hkC hpi
      exact ⟨hkC, hpi⟩
    · intro a C hkC hpx
      exact ⟨hkC, rfl, hpx⟩
  · intro W hkW hi
    have hi2 : PI b4 L J W2 fams its ⟨fi, s + 1, g.ls.length + 1⟩ W := by
      have e : l0 + (g.ls.length + 1 - l0) = g.ls.length + 1 := by omega
      rw [e] at hi; exact hi
    have HI : Hid (PI b4 L J W2 fams its ⟨fi, s + 1, g.ls.length + 1⟩ W) := hi2
    obtain ⟨done', _, _, hat, _⟩ := hi2
    obtain ⟨d0, d1, d2⟩ := at_cells hat
    have f1 := at_froz hat 1
    have f2 := at_froz hat 2
    have hd1 : ((s + 1 : Nat) : Int) = (s : Int) + 1 := by omega
    simp only [hd1] at d1
    have HAT : Hid (W.heap[b4]? = some (atObj ⟨fi, s + 1, g.ls.length + 1⟩)) := hat
    have HKW : Hid (Kept (b4 :: L) w3 W) := hkW
    clear hat hkW hi
    gi_wp2
    have hg1 := gb_s (o := 2) (v := .int .i64 0) (gb_setCell W b4 1 (.int .i64 ((s : Int) + 1 + 1)))
    have hat2 : ((W.setCell ⟨b4, 1, none⟩ (.int .i64 ((s : Int) + 1 + 1))).setCell ⟨b4, 2, none⟩ (.int .i64 0)).heap[b4]? = some (atObj ⟨fi, s + 2, 0⟩) := by
      rw [text_set (text_set HAT.out _) _]
      have e : ((s + 2 : Nat) : Int) = (s : Int) + 1 + 1 := by omega
      simp [atObj, e]
    exact HQ1.out _ _ (((Kept.of_none HG3.out _).trans HKW.out).trans (Kept.of_some hg1 _ (Or.inl (by simp)))) (HI.out.step HC.out HNX.out hg1 hat2)
  · rintro c k W hkW hk ⟨rfl, hx⟩
    gi_wp2
    exact HQ2.out _ _ ((Kept.of_none HG3.out _).trans hkW) hx
end

end Go.Proofs.YtcfdemhokbddiaaGreatDoor

/-
  A family's series gone through, behind its own line; on to the next family.
-/
namespace Go.Proofs.YtcfdemhokbddiaaGreatDoor
open Go.RowKit Go.Shelf

attribute [local go_sem] Oper.semAt_some

/-- The frame of a round within a family's series. -/
def AxS (b3 b4 b6 c : Nat) (a' : Act) : Prop := ∃ t0 t1 t2 t5 t8 t9 t10 t11 t12 t13 t14 t15 t16 t17 t18 t19 t20 t21 t22 t23 t24 t25 t26 t27 t28 t29 t30 t31 t32 t33 t34 t35 t36 t37 t38 t39 t40 t41 t42 t43 t44 t45 t46 t47 t48 t49 t50 t51 t52 t53 t54 t55 t56 t57 t58 t59 t60 t61 t62 t63 : Value, a' = { tmps := #[t0, t1, t2, .pointer (some ⟨b3, 0, none⟩), .pointer (some ⟨b4, 0, none⟩), t5, .pointer (some ⟨b6, 0, none⟩), .pointer (some ⟨c, 0, none⟩), t8, t9, t10, t11, t12, t13, t14, t15, t16, t17, t18, t19, t20, t21, t22, t23, t24, t25, t26, t27, t28, t29, t30, t31, t32, t33, t34, t35, t36, t37, t38, t39, t40, t41, t42, t43, t44, t45, t46, t47, t48, t49, t50, t51, t52, t53, t54, t55, t56, t57, t58, t59, t60, t61, t62, t63], defers := [] }
def dsOf (Ds : List Nat) : List Deferred := Ds.map fun D => { target := .collected D, args := #[] }
/-- The frame ahead of a family, behind it. -/
def AxY (b3 b4 : Nat) (sl sn si : Value) (Ds : List Nat) (a' : Act) : Prop := ∃ t0 t1 t2 t5 t6 t7 t8 t9 t10 t11 t12 t13 t17 t18 t19 t20 t21 t22 t23 t24 t25 t26 t27 t28 t29 t30 t31 t32 t33 t34 t35 t36 t37 t38 t39 t40 t41 t42 t43 t44 t45 t46 t47 t48 t49 t50 t51 t52 t53 t54 t55 t56 t57 t58 t59 t60 t61 t62 t63 : Value, a' = { tmps := #[t0, t1, t2, .pointer (some ⟨b3, 0, none⟩), .pointer (some ⟨b4, 0, none⟩), t5, t6, t7, t8, t9, t10, t11, t12, t13, sl, sn, si, t17, t18, t19, t20, t21, t22, t23, t24, t25, t26, t27, t28, t29, t30, t31, t32, t33, t34, t35, t36, t37, t38, t39, t40, t41, t42, t43, t44, t45, t46, t47, t48, t49, t50, t51, t52, t53, t54, t55, t56, t57, t58, t59, t60, t61, t62, t63], defers := dsOf Ds }
/-- The marks of the ranges that were gone through. -/
def DefOk (n : Nat) (B : World) (Ds : List Nat) : Prop := Ds.Nodup ∧ ∀ D ∈ Ds, n ≤ D ∧ B.heap[D]? = some (.deferred (some []))
theorem DefOk.kept {n : Nat} {A B : World} {Ds L : List Nat} (h : DefOk n A Ds) (hk : Kept L A B) (hL : ∀ b ∈ L, b < n) : DefOk n B Ds :=
  ⟨h.1, fun D hD => ⟨(h.2 D hD).1, (hk.block D (lt_of (h.2 D hD).2) (fun hm => by have := hL D hm; have := (h.2 D hD).1; omega)).trans (h.2 D hD).2⟩⟩

section
variable {l b3 b4 m : Nat} {L : List Nat} {J Jx : Nat → World → Prop} {W2 : World} {fams : List GF} {its : List (Pl × List UInt8)}

theorem LCtx.llt (hc : LCtx l b3 b4 L J Jx W2 fams its m) : ∀ b ∈ b4 :: L, b < W2.heap.size := fun b hb => by
  have := hc.b4lt
  rcases List.mem_cons.1 hb with rfl | hb
  · omega
  · have := hc.lL b hb; have := hc.b34; omega

def cZ (c : Code) : Code := cSnd (cSnd (cInn (cY c)))

set_option maxRecDepth 100000 in
set_option maxHeartbeats 2000000 in
theorem lnZ (hc : LCtx l b3 b4 L J Jx W2 fams its m) (n : Nat) (A : World) (fi s l0 b6 : Nat) (hfi : fi < fams.length) (g : GF) (hg : fams[fi] = g) (hs : s ≤ g.ser.length) (hl0 : l0 ≤ g.ls.length) (hl00 : s = g.ser.length → l0 = 0) (hfb : fi ≤ 100)
    (h : PI b4 L J W2 fams its ⟨fi, s + 1, l0⟩ A) (hb6 : A.cell? ⟨b6, 0, none⟩ = some (.pointer (some ⟨g.b, 0, none⟩))) (hb6n : W2.heap.size ≤ b6) (sl sn si : Value) (Ds : List Nat) (hDs : DefOk W2.heap.size A Ds) (t0 t1 t2 t5 t7 t8 t9 t10 t11 t12 t13 t17 t18 t19 t20 t21 t22 t23 t24 t25 t26 t27 t28 t29 t30 t31 t32 t33 t34 t35 t36 t37 t38 t39 t40 t41 t42 t43 t44 t45 t46 t47 t48 t49 t50 t51 t52 t53 t54 t55 t56 t57 t58 t59 t60 t61 t62 t63 : Value) (Q : Exit → Act → World → Prop)
    (hQ1 : ∀ a B Ds', AxY b3 b4 sl sn si Ds' a → Kept (b4 :: L) A B → DefOk W2.heap.size B Ds' → PI b4 L J W2 fams its ⟨fi + 1, 0, 0⟩ B → Q .normal a B) (hQ2 : ∀ a B Ds', a.defers = dsOf Ds' → DefOk W2.heap.size B Ds' → PX b4 L Jx W2 its B → Q .ret a B) :
    (cZ (Tryz.f129.body.getD .skip)).wpIn Fence.wide n Tryz.prog Q { tmps := #[t0, t1, t2, .pointer (some ⟨b3, 0, none⟩), .pointer (some ⟨b4, 0, none⟩), t5, .pointer (some ⟨b6, 0, none⟩), t7, t8, t9, t10, t11, t12, t13, sl, sn, si, t17, t18, t19, t20, t21, t22, t23, t24, t25, t26, t27, t28, t29, t30, t31, t32, t33, t34, t35, t36, t37, t38, t39, t40, t41, t42, t43, t44, t45, t46, t47, t48, t49, t50, t51, t52, t53, t54, t55, t56, t57, t58, t59, t60, t61, t62, t63], defers := dsOf Ds } A := by
  have hgm : g ∈ fams := by rw [← hg]; exact List.getElem_mem hfi
  have hgok := hc.ok g hgm
  have HPI : Hid (PI b4 L J W2 fams its ⟨fi, s + 1, l0⟩ A) := h
  obtain ⟨done, e1, hj, hat, hk⟩ := h
  have hgat := hc.fam hk hgm
  obtain ⟨a0, a1, a2⟩ := at_cells hat
  have hd1 : ((s + 1 : Nat) : Int) = (s : Int) + 1 := by omega
  simp only [hd1] at a1
  have hlen := hgok.len
  have hsl : s ≤ 24 := by omega
  have hb6l : b6 < A.heap.size := World.block_lt_of_cell? _ _ hb6
  have HSF : Hid (Calls Tryz.prog 131 #[.pointer (some ⟨g.b, 0, none⟩), .int .i64 (s : Int)] A _) := seriesFrom_any g.b g.age s g.nm g.kind g.lv g.sv (g.ser.map GC.b) A hgat.blk (by simpa using hgat.rows) (by simpa using hs) (by simp; omega)
  have HSV : Hid (∀ b ∈ g.sv.ownBlock.toList, b ∈ g.foot) := fun b hb => by simp only [GF.foot, List.mem_cons, List.mem_append]; exact Or.inr (Or.inr (Or.inl hb))
  have HC : Hid (LCtx l b3 b4 L J Jx W2 fams its m) := hc
  have HKA : Hid (Kept (b4 :: L) W2 A) := hk
  have HLT : Hid (∀ b ∈ g.foot, b < A.heap.size) := hgat.lt
  have HFA : Hid (∀ b ∈ b4 :: L, b ∉ g.foot) := fun b hb => (hc.far b hb).2 g hgm
  have HNM : Hid (fams[fi] = g) := hg
  have HLLT := hc.llt
  have HQ1 : Hid (∀ a B Ds', AxY b3 b4 sl sn si Ds' a → Kept (b4 :: L) A B → DefOk W2.heap.size B Ds' → PI b4 L J W2 fams its ⟨fi + 1, 0, 0⟩ B → Q .normal a B) := hQ1
  have HQ2 : Hid (∀ a B Ds', a.defers = dsOf Ds' → DefOk W2.heap.size B Ds' → PX b4 L Jx W2 its B → Q .ret a B) := hQ2
  have HOV : Hid (itFrom (famT fams) ⟨fi, g.ser.length + 1, 0⟩ = itFrom (famT fams) ⟨fi + 1, 0, 0⟩) := by
    show _ = _
    subst hg
    exact fam_over hfi
  have HDS : Hid (DefOk W2.heap.size A Ds) := hDs
  generalize hgb : g.b = gb at *
  clear hc hgok e1 hj hat hk hgat hQ1 hQ2 hDs hg
  dsimp only [cZ, cY, cX, cInn, cFst, cSnd, Tryz.f129, Option.getD]
  gi_wp2
  refine ⟨trivial, fun h => (by cases h), (callsIn_wide.2 HSF.out).mono ?_⟩
  rintro e w3 ⟨v, rfl, x0, hv, hvb, z3, g3⟩
  have HIT : Hid (Iter Tryz.prog 166 #[.pointer (some ⟨A.heap.size, 0, none⟩)] (fun k => #[.pointer (some ⟨((g.ser.map GC.b).drop s).getD k 0, 0, none⟩)]) ((g.ser.map GC.b).drop s).length (fun b => b = A.heap.size ∨ b ∈ slBlk v) w3) := values_iter A.heap.size v ((g.ser.map GC.b).drop s) w3 x0 hv (by simp; omega)
  have hN : ((g.ser.map GC.b).drop s).length = g.ser.length - s := by simp
  rw [hN] at HIT
  obtain ⟨cb, hcbE⟩ : ∃ cb : Nat → Nat, (fun k => ((g.ser.map GC.b).drop s).getD k 0) = cb := ⟨_, rfl⟩
  have hcbE' : ∀ k, ((g.ser.map GC.b).drop s).getD k 0 = cb k := fun k => congrFun hcbE k
  have HIT2 : Hid (Iter Tryz.prog 166 #[.pointer (some ⟨A.heap.size, 0, none⟩)] (fun k => #[.pointer (some ⟨cb k, 0, none⟩)]) (g.ser.length - s) (fun b => b = A.heap.size ∨ b ∈ slBlk v) w3) := by
    have := HIT.out
    simp only [hcbE'] at this
    exact this
  have HCB : Hid (∀ k (h : s + k < g.ser.length), cb k = g.ser[s + k].b) := fun k h => by
    rw [← hcbE']
    simp [List.getD_eq_getElem?_getD, h]
  clear hcbE hcbE' HIT
  have HPI3 : Hid (PI b4 L J W2 fams its ⟨fi, s + 1, l0⟩ w3) := HPI.out.below HC.out (n := A.heap.size) HKA.out.size ⟨g3.os, g3.tape, g3.output, g3.size, fun b hb => g3.block b hb (by simp)⟩
  have HB63 : Hid (w3.cell? ⟨b6, 0, none⟩ = some (.pointer (some ⟨gb, 0, none⟩))) := gb_cell g3 hb6 (by simp)
  have HG3 : Hid (A.grownBy w3 none) := g3
  have HZ3 : Hid (A.heap.size < w3.heap.size) := z3
  have HVB : Hid (∀ b ∈ slBlk v, b ∈ g.sv.ownBlock.toList) := hvb
  have HD3 : Hid (DefOk W2.heap.size w3 Ds) := HDS.out.kept (Kept.of_none g3 []) (by simp)
  clear a0 a1 a2 hb6 x0 hv hvb g3 z3 hN
  gi_wp2
  refine range_out (n := n) (gf := 166) rfl (fun args w => by simp [go_sem]) HIT2.out (fun k _ => rfl) (fun b hb hr => by
      have := HZ3.out
      rcases hr with hr | hr
      · omega
      · have := HLT.out b (HSV.out b (HVB.out b hr)); omega) (b4 :: L)
    (fun b hb => ⟨by have := HLLT b hb; have := HKA.out.size; have := HZ3.out; omega, fun hr => by
      rcases hr with hr | hr
      · have := HLLT b hb; have := HKA.out.size; omega
      · exact HFA.out b hb (HSV.out b (HVB.out b hr))⟩)
    (fun k B => PI b4 L J W2 fams its ⟨fi, s + k + 1, if k = 0 then l0 else 0⟩ B ∧ B.cell? ⟨b6, 0, none⟩ = some (.pointer (some ⟨gb, 0, none⟩))) (fun c _ B => c = .ret ∧ PX b4 L Jx W2 its B)
    (fun k A' B' h hb => ⟨PI.below HC.out h.1 (by have := HKA.out.size; have := HZ3.out; omega) hb, by
      rw [World.cell?_of_block (a := ⟨b6, 0, none⟩) (hb.block b6 (by have := HZ3.out; omega))]; exact h.2⟩)
    (fun c k A' B' h hb => ⟨h.1, PX.below HC.out h.2 (by have := HKA.out.size; have := HZ3.out; omega) hb⟩) ⟨HPI3.out, HB63.out⟩
    (fun k a' _ => AxS b3 b4 b6 (cb k) a') (fun _ _ _ _ _ _ h _ => h) ?_ ?_ ?_ ?_
  · intro l₂ k W K hk hi hK
    gi_wp2
    exact hK _ _ (gb_refl _ _) ⟨_, _, _, _, _, _, _, _, _, _, _, _, _, _, _, _, _, _, _, _, _, _, _, _, _, _, _, _, _, _, _, _, _, _, _, _, _, _, _, _, _, _, _, _, _, _, _, _, _, _, _, _, _, _, _, _, _, _, _, _, rfl⟩
  · rintro l₂ k a' W hle hr hk hi ⟨t0, t1, t2, t5, t8, t9, t10, t11, t12, t13, t14, t15, t16, t17, t18, t19, t20, t21, t22, t23, t24, t25, t26, t27, t28, t29, t30, t31, t32, t33, t34, t35, t36, t37, t38, t39, t40, t41, t42, t43, t44, t45, t46, t47, t48, t49, t50, t51, t52, t53, t54, t55, t56, t57, t58, t59, t60, t61, t62, t63, rfl⟩
    have hsk : s + k < g.ser.length := by omega
    rw [HCB.out k hsk]
    refine lnS HC.out l₂ n W fi (s + k) (if k = 0 then l0 else 0) b6 hfi g HNM.out hsk (by split <;> omega) hr hi.1 (by rw [hgb]; exact hi.2) t0 t1 t2 t5 t8 t9 t10 t11 t12 t13 t14 t15 t16 t17 t18 t19 t20 t21 t22 t23 t24 t25 t26 t27 t28 t29 t30 t31 t32 t33 t34 t35 t36 t37 t38 t39 t40 t41 t42 t43 t44 t45 t46 t47 t48 t49 t50 t51 t52 t53 t54 t55 t56 t57 t58 t59 t60 t61 t62 t63 _ ?_ ?_
    · intro a C hkC hpi
      refine ⟨hkC, ?_, ?_⟩
      · rw [if_neg (by omega)]; exact hpi
      · have hb6' : b6 ∉ b4 :: L := fun hm => by have := HLLT b6 hm; omega
        rw [World.cell?_of_block (a := ⟨b6, 0, none⟩) (hkC.block b6 (World.block_lt_of_cell? _ _ hi.2) hb6')]
        exact hi.2
    · intro a C hkC hpx
      exact ⟨hkC, rfl, hpx⟩
  · intro D W hD hkW hi hdD
    have hi2 : PI b4 L J W2 fams its ⟨fi, g.ser.length + 1, 0⟩ W := by
      have e : s + (g.ser.length - s) + 1 = g.ser.length + 1 := by omega
      have e2 : (if g.ser.length - s = 0 then l0 else 0) = 0 := by
        split
        · exact hl00 (by omega)
        · rfl
      have := hi.1
      rw [e, e2] at this; exact this
    have HI : Hid (PI b4 L J W2 fams its ⟨fi, g.ser.length + 1, 0⟩ W) := hi2
    obtain ⟨done', _, _, hat, _⟩ := hi2
    obtain ⟨d0, d1, d2⟩ := at_cells hat
    have f0 := at_froz hat 0
    have f1 := at_froz hat 1
    have f2 := at_froz hat 2
    have HAT : Hid (W.heap[b4]? = some (atObj ⟨fi, g.ser.length + 1, 0⟩)) := hat
    have HKW : Hid (Kept (b4 :: L) w3 W) := hkW
    have HDD : Hid (DefOk W2.heap.size W (D :: Ds)) := by
      have h1 := HD3.out.kept hkW HLLT
      refine ⟨List.nodup_cons.2 ⟨fun hm => ?_, h1.1⟩, fun D' hD' => ?_⟩
      · have := lt_of (HD3.out.2 D hm).2; omega
      · rcases List.mem_cons.1 hD' with rfl | hD'
        · exact ⟨by have := HKA.out.size; have := HZ3.out; omega, hdD⟩
        · exact h1.2 D' hD'
    clear hat hkW hi hdD
    gi_wp2
    have hg1 := gb_s (o := 2) (v := .int .i64 0) (gb_s (o := 1) (v := .int .i64 0) (gb_setCell W b4 0 (.int .i64 ((fi : Int) + 1))))
    have hat2 : (((W.setCell ⟨b4, 0, none⟩ (.int .i64 ((fi : Int) + 1))).setCell ⟨b4, 1, none⟩ (.int .i64 0)).setCell ⟨b4, 2, none⟩ (.int .i64 0)).heap[b4]? = some (atObj ⟨fi + 1, 0, 0⟩) := by
      rw [text_set (text_set (text_set HAT.out _) _) _]
      simp [atObj]
    have hk1 : Kept (b4 :: L) W (((W.setCell ⟨b4, 0, none⟩ (.int .i64 ((fi : Int) + 1))).setCell ⟨b4, 1, none⟩ (.int .i64 0)).setCell ⟨b4, 2, none⟩ (.int .i64 0)) := Kept.of_some hg1 _ (Or.inl (by simp))
    exact HQ1.out _ _ (D :: Ds) ⟨_, _, _, _, _, _, _, _, _, _, _, _, _, _, _, _, _, _, _, _, _, _, _, _, _, _, _, _, _, _, _, _, _, _, _, _, _, _, _, _, _, _, _, _, _, _, _, _, _, _, _, _, _, _, _, _, _, _, _, rfl⟩ (((Kept.of_none HG3.out _).trans HKW.out).trans hk1) (HDD.out.kept hk1 HLLT) (HI.out.step HC.out HOV.out hg1 hat2)
  · rintro D c k W hD hkW hk ⟨rfl, hx⟩ hdD
    have HDD : Hid (DefOk W2.heap.size W (D :: Ds)) := by
      have h1 := HD3.out.kept hkW HLLT
      refine ⟨List.nodup_cons.2 ⟨fun hm => ?_, h1.1⟩, fun D' hD' => ?_⟩
      · have := lt_of (HD3.out.2 D hm).2; omega
      · rcases List.mem_cons.1 hD' with rfl | hD'
        · exact ⟨by have := HKA.out.size; have := HZ3.out; omega, hdD⟩
        · exact h1.2 D' hD'
    gi_wp2
    exact HQ2.out _ _ (D :: Ds) rfl HDD.out hx
end

end Go.Proofs.YtcfdemhokbddiaaGreatDoor
