/-
  order.Together at labels, where one label is laid into a sorted row that has none of its name.
-/
import Derived.Test.YtcfdemhokbddiaaGreatDoorQH
import Derived.Deep.RegionLaw

namespace Go.Proofs.YtcfdemhokbddiaaGreatDoor
open Go.RowKit

def insAt (ls : List Lab) (i : Nat) (x : Lab) : List Lab := ls.take i ++ x :: ls.drop i
theorem insAt_len (ls : List Lab) (i : Nat) (x : Lab) (h : i ≤ ls.length) : (insAt ls i x).length = ls.length + 1 := by
  simp [insAt]; omega
theorem labCells_app (a b : List Lab) : labCells (a ++ b) = labCells a ++ labCells b := by simp [labCells]
theorem labCells_take (ls : List Lab) (i : Nat) : (labCells ls).take (i * 3) = labCells (ls.take i) := by
  induction ls generalizing i with
  | nil => simp [labCells]
  | cons x ls ih =>
    cases i with
    | zero => simp [labCells]
    | succ i =>
      have e : labCells (x :: ls) = x.cells ++ labCells ls := by simp [labCells]
      have e2 : labCells (List.take (i + 1) (x :: ls)) = x.cells ++ labCells (ls.take i) := by simp [labCells]
      rw [e, e2, ← ih i, List.take_append, List.take_of_length_le (by simp [Lab.cells]; omega), show (i + 1) * 3 - x.cells.length = i * 3 from by simp [Lab.cells]; omega]
theorem labCells_drop (ls : List Lab) (i : Nat) : (labCells ls).drop (i * 3) = labCells (ls.drop i) := by
  induction ls generalizing i with
  | nil => simp [labCells]
  | cons x ls ih =>
    cases i with
    | zero => simp [labCells]
    | succ i =>
      have e : labCells (x :: ls) = x.cells ++ labCells ls := by simp [labCells]
      have e2 : labCells (List.drop (i + 1) (x :: ls)) = labCells (ls.drop i) := by simp
      rw [e, e2, ← ih i, List.drop_append, List.drop_of_length_le (by simp [Lab.cells]; omega), List.nil_append, show (i + 1) * 3 - x.cells.length = i * 3 from by simp [Lab.cells]; omega]

theorem labCells_one (ls : List Lab) : ∀ v ∈ labCells ls, v.oneCell' = true := by
  intro v hv
  simp only [labCells, List.mem_flatMap] at hv
  obtain ⟨x, _, hv⟩ := hv
  simp [Lab.cells] at hv; rcases hv with rfl | rfl | rfl <;> rfl

theorem own_open {w : World} {base g n cap : Nat} {xs : List Value} (h : w.ownsRow base 130 3 (.slice (some ⟨g, 0, none⟩) n cap) n xs) :
    ∃ cur, base ≤ g ∧ w.heap[g]? = some (.cells cur 130) ∧ n ≤ cap ∧ cap ≤ maxLen ∧ cur.size = cap * 3 ∧ cur.toList.take (n * 3) = xs := by
  rcases h.2 with ⟨h1, _⟩ | ⟨g', cap', cur, h1, h2, h3, h4, h5, h6, h7⟩
  · simp at h1
  · simp at h1; obtain ⟨rfl, rfl⟩ := h1; exact ⟨cur, h2, h3, h4, h5, h6, h7⟩


theorem cells_blk {w : World} {b : Nat} {T : TypeId} (xs : List Value) (h : w.heap[b]? = some (.cells xs.toArray T)) : ∀ j u, xs[j]? = some u → w.cell? ((⟨b, 0, none⟩ : Addr).add j) = some u := by
  intro j u hj
  rw [Addr.add_lit]
  simp [World.cell?, h, hj]
theorem cells_new (w : World) (xs : List Value) (T : TypeId) : ∀ j u, xs[j]? = some u → (w.alloc (.cells xs.toArray T)).cell? ((⟨w.heap.size, 0, none⟩ : Addr).add j) = some u :=
  cells_blk (T := T) xs (by show (w.heap.push _)[w.heap.size]? = _; simp)

theorem gb_new {a b c : World} {g : Nat} (h : a.grownBy b none) (k : b.grownBy c (some g)) (hg : a.heap.size ≤ g) : a.grownBy c none :=
  ⟨k.os.trans h.os, k.tape.trans h.tape, k.output.trans h.output, Nat.le_trans h.size k.size, fun i hi hr => (k.block i (Nat.lt_of_lt_of_le hi h.size) (by simp; omega)).trans (h.block i hi hr)⟩

/-- append within the capacity of a row of one's own, as one step of a region that draws its order. -/
theorem step_append_own {P : Program} {ops : Array Oper} {o : Oper} {a : Act} {w : World} {K : Act → World → Prop} {Q : Exit → Act → World → Prop} {E : Prop}
    (hg : o.guard = none) (s x : Operand) (t : TypeId) (hop : o.op = Op.call { callee := Callee.builtin Builtin.append, args := #[s, x], argTypes := #[t, t] })
    (base : Nat) (e : TypeId) (i : TypeInfo) (size : Nat) (h1 : P.underlying t = some (.slice e)) (h2 : P.info? e = some i) (h4 : i.size = size)
    (g n cap : Nat) (xs : List Value) (hs : a.eval s = .slice (some ⟨g, 0, none⟩) n cap) (hown : w.ownsRow base e size (.slice (some ⟨g, 0, none⟩) n cap) n xs)
    (ad : Addr) (m c : Nat) (news : List Value) (hx : a.eval x = .slice (some ad) m c) (hn : news.length = m * size) (hc : ∀ j u, news[j]? = some u → w.cell? (ad.add j) = some u) (h1c : ∀ u ∈ news, u.oneCell' = true)
    (hroom : n + m ≤ cap)
    (hK : ∀ w', w'.ownsRow base e size (.slice (some ⟨g, 0, none⟩) (n + m) cap) (n + m) (xs ++ news) → w.grownBy w' (some g) → K (a.put o.dst (.slice (some ⟨g, 0, none⟩) (n + m) cap)) w') :
    if Region.wanted o (yielded ops a.tmps) = true then Oper.wp P o a w K Q else E := by
  have hw : Region.wanted o (yielded ops a.tmps) = true := by simp [Region.wanted, hg]
  rw [if_pos hw]
  obtain ⟨w', hrun, r1, r2⟩ := run_append_fits (P := P) w base t o.type e i size h1 h2 h4 g n cap xs hown ad m c news hn hc h1c hroom
  unfold Oper.wp
  simp [execOp, hop, resolve, invoke, builtin, hs, hx, hrun, Result.andThen]
  exact hK w' r1 r2

set_option maxRecDepth 100000 in
set_option maxHeartbeats 1000000 in
theorem together_any (g cap h off c2 base : Nat) (acc : List Lab) (x : Lab) (w : World) (hown : w.ownsRow base 130 3 (.slice (some ⟨g, 0, none⟩) acc.length cap) acc.length (labCells acc))
    (x0 : w.cell? ⟨h, off, none⟩ = some (.string (B x.name))) (x1 : w.cell? ⟨h, off + 1, none⟩ = some (.string (B x.val))) (x2 : w.cell? ⟨h, off + 2, none⟩ = some (.int .i64 (x.at_ : Int)))
    (hl : acc.length ≤ 3) (hsrt : Srt acc) (hf : fnd x.name acc = false) :
    Calls Tryz.prog 112 #[.slice (some ⟨g, 0, none⟩) acc.length cap, .slice (some ⟨h, off, none⟩) 1 c2, .func (.func 74) #[] #[]] w fun e w' => ∃ (g' : Nat),
      e = .returned (.slice (some ⟨g', 0, none⟩) (acc.length + 1) (acc.length + 1)) ∧ w'.ownsRow w.heap.size 130 3 (.slice (some ⟨g', 0, none⟩) (acc.length + 1) (acc.length + 1)) (acc.length + 1) (labCells (insAt acc (place x.name acc) x)) ∧ w.grownBy w' none := by
  obtain ⟨i0, hi, hz0, hz1, hz2⟩ := info_parts Tryz.info44
  have HI : Hid (Tryz.prog.info? 130 = some i0 ∧ i0.zero = some (.agg #[.string ⟨#[]⟩, .string ⟨#[]⟩, .int .i64 0]) ∧ i0.size = 3 ∧ i0.bytes = 40) := ⟨hi, hz0, hz1, hz2⟩
  have HS : Hid (Srt acc) := hsrt
  have HF : Hid (fnd x.name acc = false) := hf
  have hpl := place_le x.name acc
  clear hi hz0 hz1 hz2 hsrt hf
  go_enter Tryz.func112, Tryz.ntmps112
  go_wp2_with (at_make; refine wpList_make_own _ rfl _ _ 79 rfl w.heap.size 130 i0 (.agg #[.string ⟨#[]⟩, .string ⟨#[]⟩, .int .i64 0]) 3 Tryz.underlying79 HI.out.1 HI.out.2.1 HI.out.2.2.1 .i64 .i64 _ (acc.length + 1) rfl rfl (by go_num) (by rw [HI.out.2.2.2]; omega) (by unfold maxLen; omega) (Nat.le_refl _) ?_; intro w0 own0 g0)
  refine wp_loop_rounds 2 ?_
  rw [rounds_succ]
  have y0 := gb_cell g0 x0 (by simp)
  have y1 := gb_cell g0 x1 (by simp)
  have y2 := gb_cell g0 x2 (by simp)
  go_wp2_with fail
  refine (nameOf_any _ _ _ _).mono ?_
  rintro e w1 ⟨rfl, g1⟩
  go_wp2_with fail
  have ownA := ((hown.kept g0 (by right; simp [Value.ownBlock])).alloc (.cells #[.string (B x.name), .string (B x.val), .int .i64 (x.at_ : Int)] 130)).kept g1 (by right; simp [Value.ownBlock])
  refine (find_any g cap acc x.name base _ (by exact ownA) hl HS.out).mono ?_
  rintro e w2 ⟨rfl, g2⟩
  rw [HF.out]
  obtain ⟨cur, k1, k2, k3, k4, k5, k6⟩ := own_open hown
  obtain ⟨k, hk⟩ : ∃ k, place x.name acc = k := ⟨_, rfl⟩
  rw [hk] at hpl ⊢
  have HK : Hid (place x.name acc = k) := hk
  clear hk
  have own2 := (((own0.alloc (.cells #[.string (B x.name), .string (B x.val), .int .i64 (x.at_ : Int)] 130)).kept g1 (by right; simp [Value.ownBlock])).kept g2 (by right; simp [Value.ownBlock]))
  have ownA2 := ownA.kept g2 (by right; simp [Value.ownBlock])
  have bx0 : (w0.alloc (.cells #[.string (B x.name), .string (B x.val), .int .i64 (x.at_ : Int)] 130)).heap[w0.heap.size]? = some (.cells #[.string (B x.name), .string (B x.val), .int .i64 (x.at_ : Int)] 130) := by
    show (w0.heap.push _)[w0.heap.size]? = _; simp
  have bx2 := (g2.block _ (Nat.lt_of_lt_of_le (by simp) g1.size) (by simp)).trans ((g1.block _ (by simp) (by simp)).trans bx0)
  have z0 : w2.cell? ⟨w0.heap.size, 0, none⟩ = some (.string (B x.name)) := by simp [World.cell?, bx2]
  have z1 : w2.cell? ⟨w0.heap.size, 1, none⟩ = some (.string (B x.val)) := by simp [World.cell?, bx2]
  have z2 : w2.cell? ⟨w0.heap.size, 2, none⟩ = some (.int .i64 (x.at_ : Int)) := by simp [World.cell?, bx2]
  have hgw2 : w.grownBy w2 none := gb_trans (gb_trans (gb_alloc g0 _) g1) g2
  have hne : w0.heap.size ≠ w.heap.size := by have := own0.lt _ rfl; omega
  have hgne : g < w.heap.size := lt_of k2
  have hb1 : (k : Int) ≤ (cap : Int) := by omega
  have hb2 : (k : Int) ≤ (acc.length : Int) := by omega
  have hA2 : ∀ j u, (labCells (acc.take k))[j]? = some u → w2.cell? ((⟨g, 0, none⟩ : Addr).add j) = some u := by
    intro j u hj
    rw [← labCells_take] at hj
    rw [List.getElem?_take] at hj
    split at hj
    · exact ownA2.cells (g := g) rfl j u hj
    · cases hj
  have HA2 : Hid (∀ j u, (labCells (acc.take k))[j]? = some u → w2.cell? ((⟨g, 0, none⟩ : Addr).add j) = some u) := hA2
  have hl2 : (labCells (acc.take k)).length = k * 3 := by rw [labCells_len]; simp; omega
  have HL2 : Hid ((labCells (acc.take k)).length = k * 3) := hl2
  clear hA2 hl2 ownA k2 k6 k5 bx0 bx2
  go_wp2_with fail
  have ga2 := gb_alloc (gb_refl w2 none) (.cells #[.string (B x.name), .string (B x.val), .int .i64 (x.at_ : Int)] 130)
  have own2a := own2.alloc (.cells #[.string (B x.name), .string (B x.val), .int .i64 (x.at_ : Int)] 130)
  have HA2a : Hid (∀ j u, (labCells (acc.take k))[j]? = some u → (w2.alloc (.cells #[.string (B x.name), .string (B x.val), .int .i64 (x.at_ : Int)] 130)).cell? ((⟨g, 0, none⟩ : Addr).add j) = some u) := fun j u hj => by
    have h := HA2.out j u hj
    rw [Addr.add_lit] at h ⊢
    exact gb_cell ga2 h (by simp)
  have bn : (w2.alloc (.cells #[.string (B x.name), .string (B x.val), .int .i64 (x.at_ : Int)] 130)).heap[w2.heap.size]? = some (.cells #[.string (B x.name), .string (B x.val), .int .i64 (x.at_ : Int)] 130) := by show (w2.heap.push _)[w2.heap.size]? = _; simp
  have hw2 : w.heap.size < w2.heap.size := by have := (own2.lt _ rfl).2; simpa using this
  go_region_law (first
    | (refine step_append_own rfl _ _ 79 rfl w.heap.size 130 i0 3 Tryz.underlying79 HI.out.1 HI.out.2.2.1 w.heap.size 0 (acc.length + 1) [] (by simp [Act.eval, Act.put]) (by first | exact own2 | exact own2a) ⟨g, 0, none⟩ k cap (labCells (acc.take k)) (by simp [Act.eval, Act.put]) HL2.out (by first | exact HA2.out | exact HA2a.out) (fun v hv => labCells_one _ v hv) (by omega) ?_; intro w3 own3 g3; have G3 : w.grownBy w3 none := (by first | exact gb_new (gb_d (q := 1) hgw2) g3 (Nat.le_refl _) | exact gb_new (gb_alloc (gb_d (q := 1) hgw2) _) g3 (Nat.le_refl _) | exact gb_new (gb_d (q := 1) (gb_trans hgw2 ga2)) g3 (Nat.le_refl _)); simp only [Nat.zero_add, List.nil_append] at own3; first | (have u0 := gb_cell g3 z0 (by simp; omega); have u1 := gb_cell g3 z1 (by simp; omega); have u2 := gb_cell g3 z2 (by simp; omega)) | (have bn3 := (g3.block _ (by simp) (by simp; omega)).trans bn))
    | (refine step_append_own rfl _ _ 79 rfl w.heap.size 130 i0 3 Tryz.underlying79 HI.out.1 HI.out.2.2.1 w.heap.size k (acc.length + 1) (labCells (acc.take k)) (by simp [Act.eval]) (by exact own3.alloc _) ⟨w3.heap.size, 0, none⟩ 1 1 x.cells (by simp [Act.eval]) rfl (cells_new w3 x.cells 130) (fun v hv => by simp [Lab.cells] at hv; rcases hv with rfl | rfl | rfl <;> rfl) (by omega) ?_; intro w4 own4 g4; have G4 := gb_new G3 (gb_trans (gb_alloc (gb_refl w3 (some w.heap.size)) (.cells #[.string (B x.name), .string (B x.val), .int .i64 (x.at_ : Int)] 130)) g4) (Nat.le_refl _))
    | (refine step_append_own rfl _ _ 79 rfl w.heap.size 130 i0 3 Tryz.underlying79 HI.out.1 HI.out.2.2.1 w.heap.size k (acc.length + 1) (labCells (acc.take k)) (by simp [Act.eval]) (by exact own3) ⟨w2.heap.size, 0, none⟩ 1 1 x.cells (by simp [Act.eval]) rfl (cells_blk x.cells bn3) (fun v hv => by simp [Lab.cells] at hv; rcases hv with rfl | rfl | rfl <;> rfl) (by omega) ?_; intro w4 own4 g4; have G4 := gb_new G3 g4 (Nat.le_refl _)))
  all_goals
    clear own2 own2a ga2 HA2 HA2a bn ownA2
    go_wp2_with fail
    all_goals
      have HC5 : Hid (∀ (ad : Addr), (ad = ⟨g, 0, none⟩ ∧ cap = k) ∨ ad = ⟨g, k * 3, none⟩ → ∀ j u, (labCells (acc.drop k))[j]? = some u → w4.cell? (ad.add j) = some u) := by
        rintro ad (⟨rfl, e⟩ | rfl) j u hj
        · rw [List.drop_of_length_le (by omega)] at hj; simp [labCells] at hj
        · rw [← labCells_drop, List.getElem?_drop] at hj
          have := (hown.kept G4 (by right; simp [Value.ownBlock])).cells (g := g) rfl _ u hj
          rw [Addr.add_lit] at this ⊢
          simpa using this
      have HL5 : Hid ((labCells (acc.drop k)).length = (acc.length - k) * 3) := by show _ = _; rw [labCells_len]; simp
      have HN : Hid (k + 1 + (acc.length - k) = acc.length + 1) := by show _ = _; omega
      have HV : Hid (labCells (acc.take k) ++ x.cells ++ labCells (acc.drop k) = labCells (insAt acc (place x.name acc) x)) := by
        show _ = _; rw [HK.out]; simp [insAt, labCells]
      clear hown
      rw [rounds_succ]
      go_wp2_with (at_builtin; refine wpList_append_fits _ rfl _ _ 79 rfl w.heap.size 130 i0 3 Tryz.underlying79 HI.out.1 HI.out.2.2.1 w.heap.size (k + 1) (acc.length + 1) _ rfl own4 _ (acc.length - k) _ (labCells (acc.drop k)) rfl HL5.out (HC5.out _ (by first | exact Or.inr rfl | exact Or.inl ⟨rfl, by assumption⟩)) (fun v hv => labCells_one _ v hv) (by omega) ?_; intro w5 own5 g5)
      go_ret
      rw [HN.out, HV.out] at own5
      exact ⟨w.heap.size, by rw [HN.out]; rfl, own5, gb_new G4 g5 (Nat.le_refl _)⟩

end Go.Proofs.YtcfdemhokbddiaaGreatDoor
