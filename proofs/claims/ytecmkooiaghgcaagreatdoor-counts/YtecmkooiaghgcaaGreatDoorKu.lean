/-
  The document's Family, walked.
-/
import Derived.Test.YtecmkooiaghgcaaGreatDoorKt

namespace Go.Proofs.YtecmkooiaghgcaaGreatDoor
open Go.RowKit

theorem opt_nodup (o : Option Nat) : o.toList.Nodup := by cases o <;> simp
theorem rb_nodup {r : RB} (h : r.own.Nodup) : (∀ b ∈ r.fv.ownBlock.toList, b ≠ r.b) ∧ (∀ b ∈ r.sv.ownBlock.toList, b ≠ r.b ∧ b ∉ r.fv.ownBlock.toList) ∧
    (∀ f ∈ r.fams, ∀ b ∈ f.lv.ownBlock.toList, b ≠ r.b ∧ b ∉ r.fv.ownBlock.toList ∧ b ∉ r.sv.ownBlock.toList) ∧
    (∀ x ∈ r.ser, ∀ b ∈ x.nv.ownBlock.toList, b ≠ r.b ∧ b ∉ r.fv.ownBlock.toList ∧ b ∉ r.sv.ownBlock.toList ∧ ∀ f ∈ r.fams, b ∉ f.lv.ownBlock.toList) := by
  simp only [RB.own, List.nodup_cons, List.nodup_append, List.mem_append, List.mem_flatMap] at h
  obtain ⟨h1, h2, ⟨h3, ⟨h4, h5, h6⟩, h7⟩, h8⟩ := h
  refine ⟨fun b hb e => h1 (Or.inl (e ▸ hb)), fun b hb => ⟨fun e => h1 (Or.inr (Or.inl (e ▸ hb))), fun hf => h8 b hf b (Or.inl hb) rfl⟩, fun f hf b hb => ⟨fun e => h1 (Or.inr (Or.inr (Or.inl ⟨f, hf, e ▸ hb⟩))), fun hv => h8 b hv b (Or.inr (Or.inl ⟨f, hf, hb⟩)) rfl, fun hv => h7 b hv b (Or.inl ⟨f, hf, hb⟩) rfl⟩,
    fun x hx b hb => ⟨fun e => h1 (Or.inr (Or.inr (Or.inr ⟨x, hx, e ▸ hb⟩))), fun hv => h8 b hv b (Or.inr (Or.inr ⟨x, hx, hb⟩)) rfl, fun hv => h7 b hv b (Or.inr ⟨x, hx, hb⟩) rfl, fun f hf hv => h6 b ⟨f, hf, hv⟩ b ⟨x, hx, hb⟩ rfl⟩⟩

/-- The document's board with one family more. -/
theorem rmade_out {m : Nat} {r : RB} {w w2 w3 : World} (h : RB.At w r) (ho : RB.Ok m r) (nm : List UInt8) (kind : Int) (xs : List Int) (hx4 : xs.length ≤ 4) (h8 : r.fams.length < 8)
    (lv : Value) (hlv : w2.ownsRow w.heap.size 3 1 lv xs.length (ints xs)) (g2 : w.grownBy w2 none)
    (fv' : Value) (o : Obj) (g3 : (w2.alloc o).grownBy w3 r.fv.ownBlock) (hfv : w3.ownsRow 0 83 3 fv' (r.fams.length + 1) (r.fams.flatMap rfCells ++ rfCells ⟨nm, kind, lv, xs⟩)) (hft : fv'.ownBlock = r.fv.ownBlock ∨ fv'.ownBlock = some (w2.alloc o).heap.size) :
    ROut m r { r with fv := fv', fams := r.fams ++ [⟨nm, kind, lv, xs⟩] } w (w3.setCell ⟨r.b, 0, none⟩ fv') := by
  have ga := gb_alloc g2 o
  have hrl := lt_of h.blk
  obtain ⟨n1, n2, n3, n4⟩ := rb_nodup h.nodup
  have hlt := h.lt
  have hsz : (w2.alloc o).heap.size = w2.heap.size + 1 := by simp
  have hnotfv : ∀ b, b < w.heap.size → b ∉ r.fv.ownBlock.toList → w3.heap[b]? = w.heap[b]? := fun b hb hn => by
    rw [g3.block b (by have := g2.size; omega) (fun e => hn (by rw [← e]; simp)), ga.block b hb (by simp)]
  have hsame : ∀ b, b < w.heap.size → b ≠ r.b → b ∉ r.fv.ownBlock.toList → (w3.setCell ⟨r.b, 0, none⟩ fv').heap[b]? = w.heap[b]? := fun b hb hne hn => by
    rw [Below.heap_setCell _ _ _ _ (by show b ≠ r.b; exact hne)]; exact hnotfv b hb hn
  have hlvlt : ∀ b ∈ lv.ownBlock.toList, w.heap.size ≤ b ∧ b < w2.heap.size := fun b hb => by
    have hb' : lv.ownBlock = some b := by simpa using hb
    exact hlv.lt b hb'
  have hfvlt : ∀ b ∈ r.fv.ownBlock.toList, b < w.heap.size := own_lt h.frows
  have hfv'ne : ∀ b ∈ fv'.ownBlock.toList, b ≠ r.b := fun b hb => by
    rcases hft with e | e
    · rw [e] at hb; exact n1 b hb
    · rw [e] at hb
      have : b = (w2.alloc o).heap.size := by simpa using hb
      have := g2.size; omega
  have hr0 := hnotfv r.b hrl (fun hm => n1 r.b hm rfl)
  refine ⟨⟨?_, ?_, ?_, ?_, ?_, ?_⟩, ⟨?_, ho.slen, ho.each, ?_⟩, rfl, rfl, ?_, ?_⟩
  · rw [text_set (hr0.trans h.blk)]; simp
  · have := own_frame hfv (w' := w3.setCell ⟨r.b, 0, none⟩ fv') (fun b hb => by rw [Below.heap_setCell _ _ _ _ (by show b ≠ r.b; exact hfv'ne b hb)])
    simpa using this
  · exact own_frame h.srows fun b hb => hsame b (own_lt h.srows b hb) (n2 b hb).1 (n2 b hb).2
  · intro f hf
    simp only [List.mem_append, List.mem_cons, List.not_mem_nil, or_false] at hf
    rcases hf with hf | rfl
    · exact own_frame (h.lims f hf) fun b hb => hsame b (own_lt (h.lims f hf) b hb) (n3 f hf b hb).1 (n3 f hf b hb).2.1
    · refine own_base0 (own_frame hlv fun b hb => ?_)
      obtain ⟨q1, q2⟩ := hlvlt b hb
      rw [Below.heap_setCell _ _ _ _ (by show b ≠ r.b; omega), g3.block b (by omega) (fun e => by
        have := hfvlt b (by rw [← e]; simp)
        omega)]
      rw [Below.heap_alloc _ _ _ q2]
  · intro x hx
    exact own_frame (h.nums x hx) fun b hb => hsame b (own_lt (h.nums x hx) b hb) (n4 x hx b hb).1 (n4 x hx b hb).2.1
  · have e0 : r.own = (r.b :: (r.fv.ownBlock.toList ++ (r.sv.ownBlock.toList ++ r.fams.flatMap (fun f => f.lv.ownBlock.toList)))) ++ ([] ++ r.ser.flatMap (fun x => x.nv.ownBlock.toList)) := by simp [RB.own]
    have hn := h.nodup
    rw [e0] at hn
    have hs1 := nodup_swap (G' := lv.ownBlock.toList) (n := w.heap.size) hn (opt_nodup _) (fun b hb => Or.inr (hlvlt b hb).1) (fun b hb => hlt b (by rw [e0]; simpa using hb))
    have e1 : (r.b :: (r.fv.ownBlock.toList ++ (r.sv.ownBlock.toList ++ r.fams.flatMap (fun f => f.lv.ownBlock.toList)))) ++ (lv.ownBlock.toList ++ r.ser.flatMap (fun x => x.nv.ownBlock.toList)) = [r.b] ++ (r.fv.ownBlock.toList ++ (r.sv.ownBlock.toList ++ (r.fams.flatMap (fun f => f.lv.ownBlock.toList) ++ (lv.ownBlock.toList ++ r.ser.flatMap (fun x => x.nv.ownBlock.toList))))) := by simp
    rw [e1] at hs1
    have e2 : ({ r with fv := fv', fams := r.fams ++ [⟨nm, kind, lv, xs⟩] } : RB).own = [r.b] ++ (fv'.ownBlock.toList ++ (r.sv.ownBlock.toList ++ (r.fams.flatMap (fun f => f.lv.ownBlock.toList) ++ (lv.ownBlock.toList ++ r.ser.flatMap (fun x => x.nv.ownBlock.toList))))) := by simp [RB.own]
    rw [e2]
    refine nodup_swap (n := (w2.alloc o).heap.size) hs1 (opt_nodup _) (fun b hb => ?_) (fun b hb => ?_)
    · rcases hft with e | e
      · rw [e] at hb; exact Or.inl hb
      · rw [e] at hb
        have : b = (w2.alloc o).heap.size := by simpa using hb
        exact Or.inr (by omega)
    · have hold : ∀ b ∈ r.own, b < (w2.alloc o).heap.size := fun b hb => by have := hlt b hb; have := g2.size; omega
      simp only [List.mem_append] at hb
      rcases hb with hb | hb | hb | hb | hb
      · exact hold b (by simp [RB.own]; simp at hb; exact Or.inl hb)
      · exact hold b (by simp only [RB.own, List.mem_cons, List.mem_append]; exact Or.inr (Or.inr (Or.inl hb)))
      · exact hold b (by simp only [RB.own, List.mem_cons, List.mem_append]; exact Or.inr (Or.inr (Or.inr (Or.inl hb))))
      · have := (hlvlt b hb).2; omega
      · exact hold b (by simp only [RB.own, List.mem_cons, List.mem_append]; exact Or.inr (Or.inr (Or.inr (Or.inr hb))))
  · simp; omega
  · intro f hf
    simp only [List.mem_append, List.mem_cons, List.not_mem_nil, or_false] at hf
    rcases hf with hf | rfl
    · exact ho.flim f hf
    · exact hx4
  · refine ⟨g3.os.trans ga.os, g3.tape.trans ga.tape, g3.output.trans ga.output, ?_, fun k hk hn => hsame k hk (fun e => hn (by rw [e]; simp [RB.own])) (fun hm => hn (by simp only [RB.own, List.mem_cons, List.mem_append]; exact Or.inr (Or.inl hm)))⟩
    have := g3.size
    have := ga.size
    simp at *; omega
  · intro b hb
    simp only [RB.own, List.mem_cons, List.mem_append, List.flatMap_append, List.flatMap_cons, List.flatMap_nil, List.append_nil] at hb ⊢
    rcases hb with hb | hb | hb | (hb | hb) | hb
    · exact Or.inl (Or.inl hb)
    · rcases hft with e | e
      · rw [e] at hb; exact Or.inl (Or.inr (Or.inl hb))
      · rw [e] at hb
        have : b = (w2.alloc o).heap.size := by simpa using hb
        have := g2.size
        exact Or.inr (by omega)
    · exact Or.inl (Or.inr (Or.inr (Or.inl hb)))
    · exact Or.inl (Or.inr (Or.inr (Or.inr (Or.inl hb))))
    · exact Or.inr (hlvlt b hb).1
    · exact Or.inl (Or.inr (Or.inr (Or.inr (Or.inr hb))))

theorem wpList_append_nil0 {P : Program} {w : World} {ops : Array Oper} {rest : List Oper} {o : Oper} {a : Act} {Q : Exit → Act → World → Prop} {s x : Operand} {t : TypeId} {v u r : Value} (hgd : o.guard = none)
    (ho : o.op = .call { callee := .builtin .append, args := #[s, x], argTypes := #[t, t] }) (hsx : a.eval s = v ∧ a.eval x = u)
    (hr : (Builtin.append_ #[t, t] o.type #[v, u]).run P w = .ok r w) (h : wpList P ops Q rest (a.put o.dst r) w) : wpList P ops Q (o :: rest) a w := by
  refine wpList_plain hgd fun K hK => ?_
  unfold Oper.wp
  simp [execOp, ho, resolve, invoke, builtin, hsx.1, hsx.2, hr, Result.andThen]
  exact hK _ _ h
theorem Tryz.info83 : (Tryz.prog.info? 83).map (fun i => (i.zero, i.size, i.bytes)) = some (some (.agg #[.string ⟨#[]⟩, .int .i64 0, .slice none 0 0]), 3, 48) := by kernel_rfl
theorem Tryz.info85 : (Tryz.prog.info? 85).map (fun i => (i.zero, i.size, i.bytes)) = some (some (.agg #[.string ⟨#[]⟩, .string ⟨#[]⟩, .slice none 0 0]), 3, 56) := by kernel_rfl

set_option maxRecDepth 100000 in
set_option maxHeartbeats 2000000 in
theorem refFam_any (r : RB) (nm : List UInt8) (kind : Int) (v : Value) (xs : List Int) (m : Nat) (w : World) (h : RB.At w r) (ho : RB.Ok m r) (hv : IntSl w v xs) (hm : xs.length ≤ 9223372036854775807) :
    Calls Tryz.prog 14 #[.pointer (some ⟨r.b, 0, none⟩), .string (B nm), .int .i64 kind, v] w fun e w' => ∃ r' code, e = .returned (.int .i64 code) ∧ ROut m r r' w w' ∧ RFamOut r.view nm kind xs code r'.view := by
  have HH : Hid (RB.At w r) := h
  have HO : Hid (RB.Ok m r) := ho
  have HV : Hid (IntSl w v xs) := hv
  obtain ⟨sa, ca, rfl⟩ := intSl_shape hv
  have hIN := refIsName_any (B nm) w
  rw [data_B] at hIN
  have HIN : Hid (Calls Tryz.prog 34 #[.string (B nm)] w _) := hIN
  have HLI : Hid (Calls Tryz.prog 35 #[.int .i64 kind, .slice sa xs.length ca] w _) := limited_any kind _ xs w hv hm
  have hfl := ho.flen
  have HFA : Hid (∀ q, Calls Tryz.prog 36 #[.pointer (some ⟨r.b, 0, none⟩), .string (B nm)] (w.drewN q) _) := fun q => refFamily_any r nm (w.drewN q) (h.gb (gb_drewN _ _ _)) (by omega)
  have HFL : Hid (fitB kind xs = (decide (1 ≤ kind ∧ kind ≤ 3) && limB kind xs)) := fit_lim kind xs
  clear h ho hv hIN
  go_enter Tryz.func14, Tryz.ntmps14
  go_wp2_with fail
  refine HIN.out.mono ?_
  rintro e w1 ⟨rfl, rfl⟩
  go_wp2_with fail
  refine HLI.out.mono ?_
  rintro e w2 ⟨rfl, q, rfl⟩
  go_wp2_with fail
  refine (HFA.out q).mono ?_
  rintro e w3 ⟨rfl, code, rfl, hlook⟩
  have HLK : Hid (LookOut r.fams RF.nm nm code) := hlook
  clear hlook HIN HLI HFA
  cases hname : isNameB nm with
  | false =>
    have HN : Hid (isNameB nm = false) := hname
    clear hname
    go_wp2
    go_ret
    exact ⟨r, _, rfl, .same HH.out HO.out (gb_drewN _ _ _), Or.inl ⟨HN.out, rfl, rfl⟩⟩
  | true =>
    have HN : Hid (isNameB nm = true) := hname
    clear hname
    cases hfit : fitB kind xs with
    | false =>
      have HF : Hid (fitB kind xs = false) := hfit
      have hcase : kind < 1 ∨ (¬ kind < 1 ∧ 3 < kind) ∨ (¬ kind < 1 ∧ ¬ 3 < kind ∧ limB kind xs = false) := by
        rw [HFL.out] at hfit
        by_cases a : kind < 1
        · exact Or.inl a
        · by_cases b : 3 < kind
          · exact Or.inr (Or.inl ⟨a, b⟩)
          · rw [decide_eq_true (⟨by omega, by omega⟩ : 1 ≤ kind ∧ kind ≤ 3)] at hfit
            exact Or.inr (Or.inr ⟨a, b, by simpa using hfit⟩)
      clear hfit
      rcases hcase with a | ⟨a, b⟩ | ⟨a, b, c⟩
      · go_wp2
        go_ret
        exact ⟨r, _, rfl, .same HH.out HO.out (gb_drewN _ _ _), Or.inr (Or.inl ⟨HN.out, HF.out, rfl, rfl⟩)⟩
      · go_wp2
        go_ret
        exact ⟨r, _, rfl, .same HH.out HO.out (gb_drewN _ _ _), Or.inr (Or.inl ⟨HN.out, HF.out, rfl, rfl⟩)⟩
      · rw [c]
        clear c
        go_wp2
        go_ret
        exact ⟨r, _, rfl, .same HH.out HO.out (gb_drewN _ _ _), Or.inr (Or.inl ⟨HN.out, HF.out, rfl, rfl⟩)⟩
    | true =>
      have HF : Hid (fitB kind xs = true) := hfit
      have hx4 := (fit_facts hfit).2.1
      have hcase : ¬ kind < 1 ∧ ¬ 3 < kind ∧ limB kind xs = true := by
        rw [HFL.out, Bool.and_eq_true, decide_eq_true_eq] at hfit
        exact ⟨by omega, by omega, hfit.2⟩
      obtain ⟨a, b, c⟩ := hcase
      rw [c]
      clear c hfit HFL
      rcases HLK.out with ⟨hno, rfl⟩ | ⟨A, f, B', e1, e2, _, rfl⟩
      · have HNO : Hid (∀ f ∈ r.view.fams, f.1 ≠ nm) := by
          intro f hf
          simp only [RB.view, List.mem_map] at hf
          obtain ⟨g, hg, rfl⟩ := hf
          exact hno g hg
        clear hno HLK
        have hat := HH.out.gb (gb_drewN w1 q none)
        obtain ⟨c0, c1, z0, z1⟩ := rb_cells hat
        obtain ⟨fa, fc, hfv, _, _⟩ := own_shape3 hat.frows
        have HFV : Hid (r.fv = .slice fa r.fams.length fc) := hfv
        rw [hfv] at c0
        by_cases h8 : r.fams.length = 8
        · have h8' : ((r.fams.length : Int) == 8) = true := by simp [h8]
          have HV8 : Hid (r.view.fams.length = 8) := by show _ = _; simp [RB.view, h8]
          clear h8 hat hfv
          go_wp2
          go_ret
          exact ⟨r, _, rfl, .same HH.out HO.out (gb_drewN _ _ _), Or.inr (Or.inr (Or.inr (Or.inl ⟨HN.out, HF.out, HNO.out, HV8.out, rfl, rfl⟩)))⟩
        · have h8' : ((r.fams.length : Int) == 8) = false := by simp; omega
          have h8n : r.fams.length < 8 := by omega
          have HV8 : Hid (r.view.fams.length < 8) := by show _ < _; simp [RB.view]; omega
          have hrows := hat.frows
          rw [hfv] at hrows
          have hbl : r.b < (w1.drewN q).heap.size := lt_of hat.blk
          have HVQ : Hid (IntSl (w1.drewN q) (.slice sa xs.length ca) xs) := HV.out.gb (gb_drewN _ _ _)
          obtain ⟨W, hW⟩ : ∃ W, w1.drewN q = W := ⟨_, rfl⟩
          have GW : w1.grownBy W none := by rw [← hW]; exact gb_drewN _ _ _
          rw [hW] at hrows hbl HVQ c0 z0 hat ⊢
          have HAT : Hid (RB.At W r) := hat
          obtain ⟨n1, _⟩ := rb_nodup hat.nodup
          have hnb : some r.b ≠ r.fv.ownBlock := fun e => n1 r.b (by rw [← e]; simp) rfl
          rw [hfv] at hnb
          obtain ⟨i3, hi3, hz30, hz31, hz32⟩ := info_parts Tryz.info3
          obtain ⟨i8, hi8, hz80, hz81, hz82⟩ := info_parts Tryz.info83
          have HI3 : Hid (Tryz.prog.info? 3 = some i3 ∧ i3.zero = some (.int .i64 0) ∧ i3.size = 1 ∧ i3.bytes = 8) := ⟨hi3, hz30, hz31, hz32⟩
          have HI8 : Hid (Tryz.prog.info? 83 = some i8 ∧ i8.zero = some (.agg #[.string ⟨#[]⟩, .int .i64 0, .slice none 0 0]) ∧ i8.size = 3 ∧ i8.bytes = 48) := ⟨hi8, hz80, hz81, hz82⟩
          clear hi3 hz30 hz31 hz32 hi8 hz80 hz81 hz82 hW hat hfv n1 h8
          have fin : Hid (∀ (la : Option Addr) (lc : Nat) (w2 w3 : World) (fv' : Value), w2.ownsRow W.heap.size 3 1 (.slice la xs.length lc) xs.length (ints xs) → W.grownBy w2 none → (w2.alloc (.cells #[.string (B nm), .int .i64 kind, .slice la xs.length lc] 83)).grownBy w3 (Value.ownBlock (.slice fa r.fams.length fc)) →
              w3.ownsRow 0 83 3 fv' (r.fams.length + 1) (r.fams.flatMap rfCells ++ rfCells ⟨nm, kind, .slice la xs.length lc, xs⟩) → (fv'.ownBlock = Value.ownBlock (.slice fa r.fams.length fc) ∨ fv'.ownBlock = some (w2.alloc (.cells #[.string (B nm), .int .i64 kind, .slice la xs.length lc] 83)).heap.size) →
              ∃ r' code, (0 : Int) = code ∧ ROut m r r' w1 (w3.setCell ⟨r.b, 0, none⟩ fv') ∧ RFamOut r.view nm kind xs code r'.view) := by
            intro la lc w2 w3 fv' k1 k2 k3 k4 k5
            rw [← HFV.out] at k3 k5
            have hmade := rmade_out HAT.out HO.out nm kind xs hx4 h8n (.slice la xs.length lc) k1 k2 fv' _ k3 k4 k5
            exact ⟨_, 0, rfl, .from GW hmade, Or.inr (Or.inr (Or.inr (Or.inr ⟨HN.out, HF.out, HNO.out, HV8.out, rfl, by simp [RB.view]⟩)))⟩
          clear HAT GW HNO HV8 HN HF
          cases sa with
          | none =>
            have HX : Hid (xs = []) := by
              obtain ⟨sa', ca', e1, _, e2⟩ := HVQ.out
              simp at e1
              rcases e2 with e2 | ⟨b1, o1, e2, _⟩
              · exact e2
              · rw [e2] at e1; simp at e1
            obtain rfl : xs = [] := HX.out
            have hs0 : ∀ ty c, (Builtin.append_ #[28, 28] ty #[.slice none 0 0, .slice none 0 c]).run Tryz.prog W = .ok (.slice none 0 0) W := by
              intro ty c
              simp [Builtin.append_, run_underlying Tryz.underlying28, sizeOf, typeInfo, HI3.out.1, Builtin.lenOf, Builtin.firstCells]
            have own2 : W.ownsRow W.heap.size 3 1 (.slice none 0 0) 0 (ints []) := World.ownsRow_nil _ _ _ _
            have hg2 : W.grownBy W none := gb_refl _ _
            have bn := alloc_new W (.cells #[.string (B nm), .int .i64 kind, .slice none 0 0] 83) _ rfl
            clear HVQ HX
            go_wp2_with (at_builtin; first
              | (refine wpList_append_nil0 rfl rfl ⟨rfl, rfl⟩ (hs0 _ _) ?_)
              | (refine wpList_append_foot _ rfl _ _ 65 rfl 83 i8 (.agg #[.string ⟨#[]⟩, .int .i64 0, .slice none 0 0]) 3 48 Tryz.underlying65 HI8.out.1 HI8.out.2.1 HI8.out.2.2.1 HI8.out.2.2.2 rfl (by decide) (.slice fa r.fams.length fc) r.fams.length (r.fams.flatMap rfCells) rfl (by exact (hrows.kept hg2 (ownNe _)).alloc _) ⟨W.heap.size, 0, none⟩ 1 1 (by omega) (rfCells ⟨nm, kind, .slice none 0 0, []⟩) rfl rfl (cells_blk _ bn) (fun v hv => by simp [rfCells] at hv; rcases hv with rfl | rfl | rfl <;> rfl) (by unfold maxLen; omega) (by omega) ?_; intro fv' w3 own3 g3 hft; obtain ⟨xa, xc, rfl, _, _⟩ := own_shape3 own3; have z3 := gb_froz g3 (by simp; omega) (gb_froz (gb_alloc hg2 _) hbl z0 (by simp)) hnb; have c3 := gb_cell g3 (gb_cell (gb_alloc (gb_refl W none) _) c0 (by simp)) hnb))
            go_ret
            obtain ⟨r', code, k0, k1, k2⟩ := fin.out none 0 W w3 _ own2 hg2 g3 own3 hft
            exact ⟨r', code, by rw [← k0]; rfl, k1, k2⟩
          | some ad =>
            have HC : Hid (∀ j u, (ints xs)[j]? = some u → W.cell? (ad.add j) = some u) := by
              intro j u hj
              obtain ⟨sa', ca', e1, _, e2⟩ := HVQ.out
              simp at e1
              rcases e2 with e2 | ⟨b1, o1, e2, hI⟩
              · subst e2; simp [ints] at hj
              · rw [e2] at e1
                have e3 : ad = ⟨b1, o1, none⟩ := by simpa using e1.1
                subst e3
                have hjl : j < xs.length := by
                  have := (List.getElem?_eq_some_iff.1 hj).1
                  simpa [ints] using this
                rw [Addr.add_lit, hI j hjl]
                simp [ints, hjl] at hj
                rw [hj]
            have HL : Hid ((ints xs).length = xs.length * 1) := by show _ = _; simp [ints]
            clear HVQ
            go_wp2_with (at_builtin; first
              | (refine wpList_append_own _ rfl _ _ 28 rfl W.heap.size 3 i3 (.int .i64 0) 1 8 Tryz.underlying28 HI3.out.1 HI3.out.2.1 HI3.out.2.2.1 HI3.out.2.2.2 rfl (by decide) (.slice none 0 0) 0 [] rfl (World.ownsRow_nil _ _ _ _) ad xs.length ca (ints xs) rfl HL.out HC.out (ints_one _) (by unfold maxLen; omega) (by omega) (Nat.le_refl _) ?_; intro lv w2 own2 g2 _; rw [Nat.zero_add, List.nil_append] at own2; obtain ⟨la, lc, rfl, _, _⟩ := own_shape1 own2; have c0' := gb_cell g2 c0 (by simp [Value.ownBlock]); have hg2 : W.grownBy w2 none := g2; have bn := alloc_new w2 (.cells #[.string (B nm), .int .i64 kind, .slice la xs.length lc] 83) _ rfl)
              | (refine wpList_append_foot _ rfl _ _ 65 rfl 83 i8 (.agg #[.string ⟨#[]⟩, .int .i64 0, .slice none 0 0]) 3 48 Tryz.underlying65 HI8.out.1 HI8.out.2.1 HI8.out.2.2.1 HI8.out.2.2.2 rfl (by decide) (.slice fa r.fams.length fc) r.fams.length (r.fams.flatMap rfCells) rfl (by exact (hrows.kept hg2 (ownNe _)).alloc _) ⟨w2.heap.size, 0, none⟩ 1 1 (by omega) (rfCells ⟨nm, kind, .slice la xs.length lc, xs⟩) rfl rfl (cells_blk _ bn) (fun v hv => by simp [rfCells] at hv; rcases hv with rfl | rfl | rfl <;> rfl) (by unfold maxLen; omega) (by omega) ?_; intro fv' w3 own3 g3 hft; obtain ⟨xa, xc, rfl, _, _⟩ := own_shape3 own3; have z3 := gb_froz g3 (by have := hg2.size; simp; omega) (gb_froz (gb_alloc hg2 _) hbl z0 (by simp)) hnb; have c3 := gb_cell g3 (gb_cell (gb_alloc (gb_refl w2 none) _) c0' (by simp)) hnb))
            go_ret
            obtain ⟨r', code, k0, k1, k2⟩ := fin.out la lc w2 w3 _ own2 hg2 g3 own3 hft
            exact ⟨r', code, by rw [← k0]; rfl, k1, k2⟩
      · have hfm : f ∈ r.fams := by rw [e1]; simp
        have HFM : Hid (f ∈ r.fams ∧ f.nm = nm) := ⟨hfm, e2⟩
        have hat := HH.out
        obtain ⟨c0, c1, z0, z1⟩ := rb_cells hat
        obtain ⟨fa, fc, hfv, _, hfa⟩ := own_shape3 hat.frows
        have hal : A.length < r.fams.length := by rw [e1]; simp
        obtain ⟨ga, rfl⟩ : ∃ ga, fa = some ⟨ga, 0, none⟩ := by
          rcases hfa with ⟨_, h0, _⟩ | ⟨ga, h1, _⟩
          · omega
          · exact ⟨ga, h1⟩
        rw [hfv] at c0
        have hr := hat.frows
        rw [hfv] at hr
        have hget : r.fams[A.length]'hal = f := by simp [e1]
        have d2 := row3_cell hr (fun x => rfl) A.length hal 2 (by omega) f.lv (by rw [hget]; rfl)
        have d1 := row3_cell hr (fun x => rfl) A.length hal 1 (by omega) (.int .i64 f.kind) (by rw [hget]; rfl)
        have hlf := hat.lims f hfm
        obtain ⟨la, lc, hlv, _, _⟩ := own_shape1 hlf
        have HS : Hid (Calls Tryz.prog 37 #[f.lv, .slice sa xs.length ca] (w1.drewN q) _) := same_any _ _ f.ls xs (w1.drewN q) ((IntSl.of hlf).gb (gb_drewN _ _ _)) (HV.out.gb (gb_drewN _ _ _)) (by have := HO.out.flim f hfm; omega)
        rw [hlv] at d2 HS
        have hali : (A.length : Int) < (r.fams.length : Int) := by omega
        have hali0 : (0 : Int) ≤ (A.length : Int) := by omega
        clear hat hr hget hlf hlv hfv e1 e2 hfm HLK
        go_wp2_with fail
        refine HS.out.mono ?_
        rintro e w4 ⟨rfl, q4, rfl⟩
        by_cases hk : f.kind = kind
        · have hk' : (f.kind != kind) = false := by simpa using hk
          by_cases he : f.ls = xs
          · have HE : Hid (remP kind f.kind xs f.ls = 0) := if_pos ⟨hk.symm, he.symm⟩
            rw [decide_eq_true he]
            clear hk he
            go_wp2
            go_ret
            exact ⟨r, _, rfl, .same HH.out HO.out (by first | exact gb_drewN _ _ _ | exact gb_d (gb_drewN _ _ _)), Or.inr (Or.inr (Or.inl ⟨HN.out, HF.out, ⟨_, List.mem_map_of_mem HFM.out.1, HFM.out.2, HE.out.symm⟩, rfl⟩))⟩
          · have HE : Hid (remP kind f.kind xs f.ls = 5) := if_neg (fun h => he h.2.symm)
            rw [decide_eq_false he]
            clear hk he
            go_wp2
            go_ret
            exact ⟨r, _, rfl, .same HH.out HO.out (by first | exact gb_drewN _ _ _ | exact gb_d (gb_drewN _ _ _)), Or.inr (Or.inr (Or.inl ⟨HN.out, HF.out, ⟨_, List.mem_map_of_mem HFM.out.1, HFM.out.2, HE.out.symm⟩, rfl⟩))⟩
        · have hk' : (f.kind != kind) = true := by simpa using hk
          have HE : Hid (remP kind f.kind xs f.ls = 5) := if_neg (fun h => hk h.1.symm)
          clear hk
          go_wp2
          go_ret
          exact ⟨r, _, rfl, .same HH.out HO.out (by first | exact gb_drewN _ _ _ | exact gb_d (gb_drewN _ _ _)), Or.inr (Or.inr (Or.inl ⟨HN.out, HF.out, ⟨_, List.mem_map_of_mem HFM.out.1, HFM.out.2, HE.out.symm⟩, rfl⟩))⟩

end Go.Proofs.YtecmkooiaghgcaaGreatDoor
