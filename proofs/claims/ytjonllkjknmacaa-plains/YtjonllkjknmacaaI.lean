/-
  slices.Insert of one label into a row of labels with room for it.
-/
import Derived.Test.YtjonllkjknmacaaH
import Derived.Lib.Overlaps
import Derived.Deep.RegionLaw
namespace Go.Proofs.Ytjonllkjknmacaa
open Go.RowKit

/-- copy within or into a row that is known whole, elements of whatever size. -/
theorem run_copy_rowN {P : Program} (w : World) (dT sT ty elem : TypeId) (g o dLen dCap : Nat) (a : Addr) (sLen sCap : Nat) (cur : Array Value) (t : TypeId) (cs : List Value) (n size : Nat)
    (hu : P.underlying dT = some (.slice elem)) (hs : (P.info? elem).map (·.size) = some size)
    (hg : w.heap[g]? = some (.cells cur t (0, 0))) (hn : n = Nat.min sLen dLen) (hcl : cs.length = n * size)
    (hsrc : ∀ j v, cs[j]? = some v → w.cell? (a.add j) = some v) (hfit : o + cs.length ≤ cur.size) (h1 : ∀ v ∈ cs, v.oneCell' = true) :
    (Builtin.copy_ #[dT, sT] ty #[.slice (some ⟨g, o, none⟩) dLen dCap, .slice (some a) sLen sCap]).run P w =
      .ok (goInt n) (w.setRow g (cur.toList.take o ++ cs ++ cur.toList.drop (o + cs.length)).toArray) := by
  have hl := run_loadCells_list (P := P) w a cs hsrc
  have hst := run_storeCells_at P g o t cs 0 cur w hg (by simpa using hfit) h1
  cases hq : P.info? elem with
  | none => simp [hq] at hs
  | some i =>
    have hi : i.size = size := by simpa [hq] using hs
    rw [hcl] at hl
    simp [Builtin.copy_, run_underlying hu, Builtin.lenOf, Builtin.firstCells, sizeOf, typeInfo, hq, hi, ← hn, hl, hst]

/-- The operation copy, where its run is known: as a step of a region that draws. -/
theorem copy_oper {P : Program} {w w' : World} {o : Oper} {a : Act} {K : Act → World → Prop} {Q : Exit → Act → World → Prop} {d s : Operand} {t t' : TypeId} {v u r : Value}
    (ho : o.op = .call { callee := .builtin .copy, args := #[d, s], argTypes := #[t, t'] }) (hd : a.eval d = v) (hs : a.eval s = u)
    (hr : (Builtin.copy_ #[t, t'] o.type #[v, u]).run P w = .ok r w') (h : K (a.put o.dst r) w') : o.wp P a w K Q := by
  unfold Oper.wp
  simp [execOp, ho, resolve, invoke, builtin, hd, hs, hr, Result.andThen]
  exact h
theorem copy_step {P : Program} {w w' : World} {ops : Array Oper} {o : Oper} {a : Act} {K : Act → World → Prop} {Q : Exit → Act → World → Prop} {E : Prop} {d s : Operand} {t t' : TypeId} {v u r : Value} (hgd : o.guard = none)
    (ho : o.op = .call { callee := .builtin .copy, args := #[d, s], argTypes := #[t, t'] }) (hd : a.eval d = v) (hs : a.eval s = u)
    (hr : (Builtin.copy_ #[t, t'] o.type #[v, u]).run P w = .ok r w') (h : K (a.put o.dst r) w') : if Region.wanted o (yielded ops a.tmps) = true then Oper.wp P o a w K Q else E := by
  rw [if_pos (by simp [Region.wanted, hgd])]
  exact copy_oper ho hd hs hr h

theorem Try.size44 : (Try.prog.info? 44).map (·.size) = some 3 := by kernel_rfl
theorem Try.sizeOf44 (w : World) : (Go.sizeOf 44).run Try.prog w = .ok 3 w := by kernel_rfl

/-- The row behind the first copy, and behind the second. -/
def shifted (L : List Value) (i n : Nat) : List Value := L.take ((i + 1) * 3) ++ (L.drop (i * 3)).take ((n - i) * 3) ++ L.drop ((i + 1) * 3 + (n - i) * 3)
def laid (L : List Value) (i : Nat) (x : Lab) : List Value := L.take (i * 3) ++ x.cells ++ L.drop (i * 3 + 3)

set_option maxRecDepth 100000 in
set_option maxHeartbeats 1000000 in
theorem insert_mid (g cap n i vb : Nat) (cur : Array Value) (x : Lab) (w : World) (hg : w.heap[g]? = some (.cells cur 44)) (hv : w.heap[vb]? = some (.cells x.cells.toArray 44)) (hne : vb ≠ g)
    (hi : i < n) (hroom : n + 1 ≤ cap) (hcs : cur.size = cap * 3) (hc3 : cap ≤ 3) (h1 : ∀ v ∈ (cur.toList.drop (i * 3)).take ((n - i) * 3), v.oneCell' = true) :
    Calls Try.prog 23 #[.slice (some ⟨g, 0, none⟩) n cap, .int .i64 (i : Int), .slice (some ⟨vb, 0, none⟩) 1 1] w fun e w' =>
      e = .returned (.slice (some ⟨g, 0, none⟩) (n + 1) cap) ∧ w'.heap[g]? = some (.cells (laid (shifted cur.toList i n) i x).toArray 44) ∧ w.grownBy w' (some g) := by
  have hz1 : ((1 : Int) == 0) = false := by decide
  have hz2 : ((i : Int) == (n : Int)) = false := by simp; omega
  have hz3 : ¬ (cap : Int) < (n : Int) + 1 := by omega
  have hcl : cur.toList.length = cap * 3 := by simpa using hcs
  have hlen1 : ((cur.toList.drop (i * 3)).take ((n - i) * 3)).length = (n - i) * 3 := by rw [List.length_take, List.length_drop, hcl]; omega
  have hov : ∀ off lb cb, (callFunc 33 #[.slice (some ⟨vb, 0, none⟩) 1 1, .slice (some ⟨g, off, none⟩) lb cb]).run Try.prog w = .ok (.value (.bool false)) w := fun off lb cb => by
    rw [run_callFunc_extern Try.func33 (by kernel_rfl) (by kernel_rfl) (by kernel_rfl) (e := Extern.SlicesOverlaps.overlaps #[29, 29] #[4]) (by kernel_rfl),
      Lib.run_overlaps_apart w 29 4 44 Try.underlying29 3 Try.sizeOf44 ⟨vb, 0, none⟩ ⟨g, off, none⟩ 1 1 lb cb hne 44 44 3 (cap * 3) (by simp [World.shape?, hv, Lab.cells]) (by simp [World.shape?, hg, hcs]) (by omega) (by simp [World.frozen?, hv]) (by simp [World.frozen?, hv])]
    rfl
  have hcp1 : ∀ ty dc sc q, (Builtin.copy_ #[29, 29] ty #[.slice (some ⟨g, (i + 1) * 3, none⟩) (n - i) dc, .slice (some ⟨g, i * 3, none⟩) (n + 1 - i) sc]).run Try.prog (w.drewN q) = .ok (goInt ((n - i : Nat) : Int)) ((w.drewN q).setRow g (shifted cur.toList i n).toArray) := fun ty dc sc q => by
    rw [run_copy_rowN (w.drewN q) 29 29 ty 44 g ((i + 1) * 3) (n - i) dc ⟨g, i * 3, none⟩ (n + 1 - i) sc cur 44 ((cur.toList.drop (i * 3)).take ((n - i) * 3)) (n - i) 3 Try.underlying29 Try.size44 hg (by simp only [Nat.min_def]; split <;> omega) hlen1 ?_ (by rw [hlen1, hcs]; omega) h1]
    · rw [hlen1]; rfl
    · intro j v hj
      rw [List.getElem?_take] at hj
      split at hj
      · rw [List.getElem?_drop] at hj
        rw [Addr.add_lit]
        simp [World.cell?, hg]
        simpa using hj
      · cases hj
  have hsl : (shifted cur.toList i n).length = cap * 3 := by
    unfold shifted; rw [List.length_append, List.length_append, hlen1, List.length_take, List.length_drop, hcl]; omega
  have hcp2 : ∀ ty dc q, (Builtin.copy_ #[29, 29] ty #[.slice (some ⟨g, i * 3, none⟩) (n + 1 - i) dc, .slice (some ⟨vb, 0, none⟩) 1 1]).run Try.prog ((w.drewN q).setRow g (shifted cur.toList i n).toArray) =
      .ok (goInt 1) (((w.drewN q).setRow g (shifted cur.toList i n).toArray).setRow g (laid (shifted cur.toList i n) i x).toArray) := fun ty dc q => by
    rw [run_copy_rowN ((w.drewN q).setRow g (shifted cur.toList i n).toArray) 29 29 ty 44 g (i * 3) (n + 1 - i) dc ⟨vb, 0, none⟩ 1 1 (shifted cur.toList i n).toArray 44 x.cells 1 3 Try.underlying29 Try.size44 (setRow_heap (w.drewN q) g cur _ 44 _ hg) (by simp only [Nat.min_def]; split <;> omega) rfl ?_ (by simp [hsl, Lab.cells]; omega) (fun v hv => by simp [Lab.cells] at hv; rcases hv with rfl | rfl | rfl <;> rfl)]
    · rfl
    · intro j v hj
      rw [Addr.add_lit]
      have : ((w.drewN q).setRow g (shifted cur.toList i n).toArray).heap[vb]? = some (.cells x.cells.toArray 44) := by
        rw [setRow_other _ _ _ _ hne]; exact hv
      simp [World.cell?, this]
      simpa using hj
  have HC1 : Hid (∀ ty dc sc q, _) := hcp1
  have HC2 : Hid (∀ ty dc q, _) := hcp2
  clear hcp1 hcp2 hsl hlen1 hcl h1
  go_enter Try.func23, Try.ntmps23
  go_wp2_with (simp only [hov])
  have hw1 : IntKind.i64.wrap ((i : Int) + 1) = (i : Int) + 1 := by rw [IntKind.wrap_i64]; omega
  have hb1 : (0 : Int) ≤ (i : Int) + 1 := by omega
  have hb5 : (i : Int) + 1 ≤ (n : Int) + 1 := by omega
  have htn : ((i : Int) + 1).toNat = i + 1 := by omega
  have hb2 : ¬ (cap = i + 1) := by omega
  have hb3 : (i : Int) ≤ (n : Int) + 1 := by omega
  have hb4 : ¬ (cap = i) := by omega
  go_region_law (refine copy_step rfl rfl (v := .slice (some ⟨g, (i + 1) * 3, none⟩) (n - i) (cap - (i + 1))) (u := .slice (some ⟨g, i * 3, none⟩) (n + 1 - i) (cap - i)) (by simp [Act.eval, Act.put]) (by simp [Act.eval, Act.put]) (HC1.out _ _ _ 1) ?_)
  clear hw1 hb1 hb5 htn hb2 hb3 hb4
  have hcc := fun dc => HC2.out 3 dc 1
  go_wp2_with (simp only [hcc])
  go_ret
  refine ⟨rfl, ?_, ?_⟩
  · exact setRow_heap _ g _ _ 44 _ (setRow_heap (w.drewN 1) g cur _ 44 _ hg)
  · refine ⟨rfl, rfl, rfl, by simp, fun k hk hne => ?_⟩
    have hkg : k ≠ g := fun e => hne (by rw [e])
    rw [setRow_other _ _ _ _ hkg, setRow_other _ _ _ _ hkg]; rfl

set_option maxRecDepth 100000 in
set_option maxHeartbeats 1000000 in
theorem insert_end (g cap vb base : Nat) (ls : List Lab) (x : Lab) (w : World) (hown : w.ownsRow base 44 3 (.slice (some ⟨g, 0, none⟩) ls.length cap) ls.length (labCells ls)) (hv : w.heap[vb]? = some (.cells x.cells.toArray 44))
    (hroom : ls.length + 1 ≤ cap) (hc3 : cap ≤ 3) :
    Calls Try.prog 23 #[.slice (some ⟨g, 0, none⟩) ls.length cap, .int .i64 (ls.length : Int), .slice (some ⟨vb, 0, none⟩) 1 1] w fun e w' =>
      e = .returned (.slice (some ⟨g, 0, none⟩) (ls.length + 1) cap) ∧ w'.ownsRow base 44 3 (.slice (some ⟨g, 0, none⟩) (ls.length + 1) cap) (ls.length + 1) (labCells ls ++ x.cells) ∧ w.grownBy w' (some g) := by
  have hz1 : ((1 : Int) == 0) = false := by decide
  have hnc : ls.length < cap := by omega
  obtain ⟨i0, hi, hz0, hz1', hz2⟩ := info_parts Try.info44
  have HI : Hid (Try.prog.info? 44 = some i0 ∧ i0.size = 3) := ⟨hi, hz1'⟩
  clear hi hz0 hz1' hz2
  have hx : ∀ j u, x.cells[j]? = some u → w.cell? ((⟨vb, 0, none⟩ : Addr).add j) = some u := fun j u hj => by
    rw [Addr.add_lit]; simp [World.cell?, hv]; simpa using hj
  have HX : Hid (∀ j u, _) := hx
  clear hx
  go_enter Try.func23, Try.ntmps23
  go_wp2_with (at_builtin; refine wpList_append_fits _ rfl _ _ 29 rfl base 44 i0 3 Try.underlying29 HI.out.1 HI.out.2 g ls.length cap (labCells ls) rfl hown ⟨vb, 0, none⟩ 1 1 x.cells rfl rfl HX.out (fun v hv => by simp [Lab.cells] at hv; rcases hv with rfl | rfl | rfl <;> rfl) hroom ?_; intro w1 own1 g1)
  go_ret
  exact ⟨rfl, own1, g1⟩

def insAt (ls : List Lab) (i : Nat) (x : Lab) : List Lab := ls.take i ++ x :: ls.drop i
theorem insAt_len (ls : List Lab) (i : Nat) (x : Lab) (h : i ≤ ls.length) : (insAt ls i x).length = ls.length + 1 := by
  simp [insAt]; omega
theorem labCells_app (a b : List Lab) : labCells (a ++ b) = labCells a ++ labCells b := by simp [labCells]
theorem labCells_take (ls : List Lab) (i : Nat) : (labCells ls).take (i * 3) = labCells (ls.take i) := by
  induction ls generalizing i with
  | nil => simp [labCells]
  | cons x ls ih =>
    cases i with
    | zero => simp [labCells]
    | succ i =>
      have e : labCells (x :: ls) = x.cells ++ labCells ls := by simp [labCells]
      have e2 : labCells (List.take (i + 1) (x :: ls)) = x.cells ++ labCells (ls.take i) := by simp [labCells]
      rw [e, e2, ← ih i, List.take_append, List.take_of_length_le (by simp [Lab.cells]; omega), show (i + 1) * 3 - x.cells.length = i * 3 from by simp [Lab.cells]; omega]
theorem labCells_drop (ls : List Lab) (i : Nat) : (labCells ls).drop (i * 3) = labCells (ls.drop i) := by
  induction ls generalizing i with
  | nil => simp [labCells]
  | cons x ls ih =>
    cases i with
    | zero => simp [labCells]
    | succ i =>
      have e : labCells (x :: ls) = x.cells ++ labCells ls := by simp [labCells]
      have e2 : labCells (List.drop (i + 1) (x :: ls)) = labCells (ls.drop i) := by simp
      rw [e, e2, ← ih i, List.drop_append, List.drop_of_length_le (by simp [Lab.cells]; omega), List.nil_append, show (i + 1) * 3 - x.cells.length = i * 3 from by simp [Lab.cells]; omega]

theorem labCells_one (ls : List Lab) : ∀ v ∈ labCells ls, v.oneCell' = true := by
  intro v hv
  simp only [labCells, List.mem_flatMap] at hv
  obtain ⟨x, _, hv⟩ := hv
  simp [Lab.cells] at hv; rcases hv with rfl | rfl | rfl <;> rfl

/-- The row that stands after both copies begins with the labels, the new one at its place. -/
theorem laid_take (L : List Value) (ls : List Lab) (x : Lab) (i cap : Nat) (hL : L.length = cap * 3) (hr : ls.length + 1 ≤ cap) (hi : i < ls.length) (ht : L.take (ls.length * 3) = labCells ls) :
    (laid (shifted L i ls.length) i x).take ((ls.length + 1) * 3) = labCells (insAt ls i x) := by
  obtain ⟨R, hR⟩ : ∃ R, L = labCells ls ++ R := ⟨L.drop (ls.length * 3), by rw [← ht, List.take_append_drop]⟩
  have hl := labCells_len ls
  have e1 : (L.drop (i * 3)).take ((ls.length - i) * 3) = labCells (ls.drop i) := by
    rw [hR, List.drop_append_of_le_length (by omega), labCells_drop, List.take_append_of_le_length (by rw [labCells_len]; simp), List.take_of_length_le (by rw [labCells_len]; simp)]
  have e2 : (L.take ((i + 1) * 3)).length = (i + 1) * 3 := by rw [List.length_take]; omega
  have e3 : (shifted L i ls.length).take (i * 3) = labCells (ls.take i) := by
    unfold shifted
    rw [List.append_assoc, List.take_append_of_le_length (by omega), List.take_take, show min (i * 3) ((i + 1) * 3) = i * 3 from by omega, hR, List.take_append_of_le_length (by omega), labCells_take]
  have e4 : (shifted L i ls.length).drop (i * 3 + 3) = labCells (ls.drop i) ++ L.drop ((i + 1) * 3 + (ls.length - i) * 3) := by
    unfold shifted
    rw [e1, List.append_assoc, show i * 3 + 3 = (L.take ((i + 1) * 3)).length from by omega, List.drop_left]
  unfold laid
  rw [e3, e4]
  have e5 : labCells (ls.take i) ++ x.cells ++ (labCells (ls.drop i) ++ L.drop ((i + 1) * 3 + (ls.length - i) * 3)) = labCells (insAt ls i x) ++ L.drop ((i + 1) * 3 + (ls.length - i) * 3) := by
    simp [insAt, labCells]
  rw [e5, show (ls.length + 1) * 3 = (labCells (insAt ls i x)).length from by rw [labCells_len, insAt_len _ _ _ (by omega)], List.take_left]

theorem laid_len (L : List Value) (n i cap : Nat) (x : Lab) (hL : L.length = cap * 3) (hr : n + 1 ≤ cap) (hi : i < n) : (laid (shifted L i n) i x).length = cap * 3 := by
  have e1 : ((L.drop (i * 3)).take ((n - i) * 3)).length = (n - i) * 3 := by rw [List.length_take, List.length_drop]; omega
  have e2 : (shifted L i n).length = cap * 3 := by
    unfold shifted; rw [List.length_append, List.length_append, e1, List.length_take, List.length_drop]; omega
  unfold laid
  rw [List.length_append, List.length_append, List.length_take, List.length_drop, e2]; simp [Lab.cells]; omega

theorem own_open {w : World} {base g n cap : Nat} {xs : List Value} (h : w.ownsRow base 44 3 (.slice (some ⟨g, 0, none⟩) n cap) n xs) :
    ∃ cur, base ≤ g ∧ w.heap[g]? = some (.cells cur 44) ∧ n ≤ cap ∧ cap ≤ maxLen ∧ cur.size = cap * 3 ∧ cur.toList.take (n * 3) = xs := by
  rcases h.2 with ⟨h1, _⟩ | ⟨g', cap', cur, h1, h2, h3, h4, h5, h6, h7⟩
  · simp at h1
  · simp at h1; obtain ⟨rfl, rfl⟩ := h1; exact ⟨cur, h2, h3, h4, h5, h6, h7⟩

theorem insert_any (g cap i vb base : Nat) (ls : List Lab) (x : Lab) (w : World) (hown : w.ownsRow base 44 3 (.slice (some ⟨g, 0, none⟩) ls.length cap) ls.length (labCells ls)) (hv : w.heap[vb]? = some (.cells x.cells.toArray 44)) (hne : vb ≠ g)
    (hi : i ≤ ls.length) (hroom : ls.length + 1 ≤ cap) (hc3 : cap ≤ 3) :
    Calls Try.prog 23 #[.slice (some ⟨g, 0, none⟩) ls.length cap, .int .i64 (i : Int), .slice (some ⟨vb, 0, none⟩) 1 1] w fun e w' =>
      e = .returned (.slice (some ⟨g, 0, none⟩) (ls.length + 1) cap) ∧ w'.ownsRow base 44 3 (.slice (some ⟨g, 0, none⟩) (ls.length + 1) cap) (ls.length + 1) (labCells (insAt ls i x)) ∧ w.grownBy w' (some g) := by
  by_cases h : i = ls.length
  · subst h
    refine (insert_end g cap vb base ls x w hown hv hroom hc3).mono ?_
    rintro e w' ⟨rfl, h1, h2⟩
    refine ⟨rfl, ?_, h2⟩
    have : labCells (insAt ls ls.length x) = labCells ls ++ x.cells := by simp [insAt, labCells]
    rw [this]; exact h1
  · obtain ⟨cur, k1, k2, k3, k4, k5, k6⟩ := own_open hown
    have hL : cur.toList.length = cap * 3 := by simpa using k5
    refine (insert_mid g cap ls.length i vb cur x w k2 hv hne (by omega) hroom k5 hc3 ?_).mono ?_
    · intro v hv
      refine labCells_one ls v ?_
      rw [← k6]
      obtain ⟨R, hR⟩ : ∃ R, cur.toList = labCells ls ++ R := ⟨cur.toList.drop (ls.length * 3), by rw [← k6, List.take_append_drop]⟩
      have hl := labCells_len ls
      have e1 : (cur.toList.drop (i * 3)).take ((ls.length - i) * 3) = labCells (ls.drop i) := by
        rw [hR, List.drop_append_of_le_length (by omega), labCells_drop, List.take_append_of_le_length (by rw [labCells_len]; simp), List.take_of_length_le (by rw [labCells_len]; simp)]
      rw [e1, ← labCells_drop] at hv
      rw [k6]; exact List.mem_of_mem_drop hv
    · rintro e w' ⟨rfl, h1, h2⟩
      refine ⟨rfl, ⟨by rw [labCells_len, insAt_len _ _ _ hi], Or.inr ⟨g, cap, _, rfl, k1, h1, hroom, k4, ?_, ?_⟩⟩, h2⟩
      · simpa using laid_len cur.toList ls.length i cap x hL hroom (by omega)
      · simpa using laid_take cur.toList ls x i cap hL hroom (by omega) k6

end Go.Proofs.Ytjonllkjknmacaa
