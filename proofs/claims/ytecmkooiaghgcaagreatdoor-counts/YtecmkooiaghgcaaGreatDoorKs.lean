/-
  The document's own board: its blocks; looking up a family, a series.
-/
import Derived.Test.YtecmkooiaghgcaaGreatDoorKr

namespace Go.Proofs.YtecmkooiaghgcaaGreatDoor
open Go.RowKit

structure RF where
  nm : List UInt8
  kind : Int
  lv : Value
  ls : List Int
structure RS where
  fam : List UInt8
  text : List UInt8
  nv : Value
  ns : List Int
structure RB where
  b : Nat
  fv : Value
  fams : List RF
  sv : Value
  ser : List RS
  rest : List Value
def rfCells (f : RF) : List Value := [.string (B f.nm), .int .i64 f.kind, f.lv]
def rsCells (x : RS) : List Value := [.string (B x.fam), .string (B x.text), x.nv]
def RB.own (r : RB) : List Nat := r.b :: (r.fv.ownBlock.toList ++ (r.sv.ownBlock.toList ++ (r.fams.flatMap (fun f => f.lv.ownBlock.toList) ++ r.ser.flatMap (fun x => x.nv.ownBlock.toList))))
structure RB.At (w : World) (r : RB) : Prop where
  blk : w.heap[r.b]? = some (.cells (r.fv :: r.sv :: r.rest).toArray 71)
  frows : w.ownsRow 0 83 3 r.fv r.fams.length (r.fams.flatMap rfCells)
  srows : w.ownsRow 0 85 3 r.sv r.ser.length (r.ser.flatMap rsCells)
  lims : ∀ f ∈ r.fams, w.ownsRow 0 3 1 f.lv f.ls.length (ints f.ls)
  nums : ∀ x ∈ r.ser, w.ownsRow 0 3 1 x.nv x.ns.length (ints x.ns)
  nodup : r.own.Nodup
structure RB.Ok (m : Nat) (r : RB) : Prop where
  flen : r.fams.length ≤ 8
  slen : r.ser.length ≤ 24
  each : ∀ x ∈ r.ser, x.ns.length ≤ m
  flim : ∀ f ∈ r.fams, f.ls.length ≤ 4

theorem RB.At.lt {w : World} {r : RB} (h : RB.At w r) : ∀ b ∈ r.own, b < w.heap.size := by
  intro b hb
  simp only [RB.own, List.mem_cons, List.mem_append, List.mem_flatMap] at hb
  rcases hb with rfl | hb | hb | ⟨f, hf, hb⟩ | ⟨x, hx, hb⟩
  · exact lt_of h.blk
  · exact own_lt h.frows b hb
  · exact own_lt h.srows b hb
  · exact own_lt (h.lims f hf) b hb
  · exact own_lt (h.nums x hx) b hb
theorem RB.At.frame {w w' : World} {r : RB} (h : RB.At w r) (hk : ∀ b ∈ r.own, w'.heap[b]? = w.heap[b]?) : RB.At w' r := by
  have hm : ∀ b, (b = r.b ∨ b ∈ r.fv.ownBlock.toList ∨ b ∈ r.sv.ownBlock.toList ∨ (∃ f ∈ r.fams, b ∈ f.lv.ownBlock.toList) ∨ (∃ x ∈ r.ser, b ∈ x.nv.ownBlock.toList)) → w'.heap[b]? = w.heap[b]? := fun b hb => hk b (by
    simp only [RB.own, List.mem_cons, List.mem_append, List.mem_flatMap]; exact hb)
  exact ⟨(hm _ (Or.inl rfl)).trans h.blk, own_frame h.frows fun b hb => hm b (Or.inr (Or.inl hb)), own_frame h.srows fun b hb => hm b (Or.inr (Or.inr (Or.inl hb))),
    fun f hf => own_frame (h.lims f hf) fun b hb => hm b (Or.inr (Or.inr (Or.inr (Or.inl ⟨f, hf, hb⟩)))), fun x hx => own_frame (h.nums x hx) fun b hb => hm b (Or.inr (Or.inr (Or.inr (Or.inr ⟨x, hx, hb⟩)))), h.nodup⟩
theorem RB.At.gb {w w' : World} {r : RB} (h : RB.At w r) (hg : w.grownBy w' none) : RB.At w' r := h.frame fun b hb => hg.block b (h.lt b hb) (by simp)
theorem RB.At.kept {w w' : World} {r : RB} {L : List Nat} (h : RB.At w r) (hk : Kept L w w') (hd : ∀ b ∈ r.own, b ∉ L) : RB.At w' r :=
  h.frame fun b hb => hk.block b (h.lt b hb) (hd b hb)

theorem rb_cells {w : World} {r : RB} (h : RB.At w r) : w.cell? ⟨r.b, 0, none⟩ = some r.fv ∧ w.cell? ⟨r.b, 1, none⟩ = some r.sv ∧ w.frozen? ⟨r.b, 0, none⟩ = false ∧ w.frozen? ⟨r.b, 1, none⟩ = false := by
  have hb := h.blk
  refine ⟨?_, ?_, ?_, ?_⟩
  · unfold World.cell?; simp only [hb]; rfl
  · unfold World.cell?; simp only [hb]; rfl
  · unfold World.frozen?; simp only [hb]; simp
  · unfold World.frozen?; simp only [hb]; simp
theorem own_shape3 {w : World} {base : Nat} {e : TypeId} {v : Value} {n : Nat} {xs : List Value} (h : w.ownsRow base e 3 v n xs) :
    ∃ sa sc, v = .slice sa n sc ∧ n ≤ sc ∧ ((sa = none ∧ n = 0 ∧ sc = 0) ∨ ∃ g, sa = some ⟨g, 0, none⟩ ∧ g < w.heap.size) := by
  rcases h.2 with ⟨rfl, rfl⟩ | ⟨g, cap, cur, rfl, _, hg, hn, _⟩
  · exact ⟨none, 0, rfl, Nat.le_refl _, Or.inl ⟨rfl, rfl, rfl⟩⟩
  · exact ⟨_, _, rfl, hn, Or.inr ⟨g, rfl, lt_of hg⟩⟩
theorem flat3_get {α : Type} (f : α → List Value) (hf : ∀ x, (f x).length = 3) (xs : List α) (k : Nat) (hk : k < xs.length) (j : Nat) (hj : j < 3) : (xs.flatMap f)[k * 3 + j]? = (f xs[k])[j]? := by
  induction xs generalizing k with
  | nil => simp at hk
  | cons x xs ih =>
    rw [List.flatMap_cons]
    cases k with
    | zero => rw [List.getElem?_append_left (by rw [hf]; omega)]; simp
    | succ k =>
      rw [List.getElem?_append_right (by rw [hf]; omega), hf, show (k + 1) * 3 + j - 3 = k * 3 + j from by omega]
      exact ih k (by simpa using hk)
theorem row3_cell {α : Type} {f : α → List Value} {w : World} {base : Nat} {e : TypeId} {g n cap : Nat} {xs : List α} (h : w.ownsRow base e 3 (.slice (some ⟨g, 0, none⟩) n cap) n (xs.flatMap f)) (hf : ∀ x, (f x).length = 3) (k : Nat) (hk : k < xs.length) (j : Nat) (hj : j < 3) (v : Value) (hv : (f xs[k])[j]? = some v) :
    w.cell? ⟨g, k * 3 + j, none⟩ = some v := by
  have := h.cells (g := g) rfl (k * 3 + j) v (by rw [flat3_get f hf xs k hk j hj]; exact hv)
  rw [Addr.add_lit] at this
  simpa using this

/-- Where a key stands first; -1: nowhere. -/
def LookOut {α : Type} (L : List α) (key : α → List UInt8) (nm : List UInt8) (code : Int) : Prop :=
  ((∀ f ∈ L, key f ≠ nm) ∧ code = -1) ∨ (∃ A f B', L = A ++ f :: B' ∧ key f = nm ∧ (∀ g ∈ A, key g ≠ nm) ∧ code = (A.length : Int))

set_option maxHeartbeats 400000 in
theorem refFamily_any (r : RB) (nm : List UInt8) (w : World) (h : RB.At w r) (hl : r.fams.length ≤ 100) :
    Calls Tryz.prog 36 #[.pointer (some ⟨r.b, 0, none⟩), .string (B nm)] w fun e w' => w' = w ∧ ∃ code, e = .returned (.int .i64 code) ∧ LookOut r.fams RF.nm nm code := by
  obtain ⟨c0, c1, z0, z1⟩ := rb_cells h
  obtain ⟨sa, sc, hfv, _, hsa⟩ := own_shape3 h.frows
  have HC : Hid (∀ ga, sa = some ⟨ga, 0, none⟩ → ∀ k (hk : k < r.fams.length), w.cell? ⟨ga, k * 3 + 0, none⟩ = some (.string (B (r.fams[k]).nm))) := by
    rintro ga rfl k hk
    have hr := h.frows
    rw [hfv] at hr
    exact row3_cell hr (fun x => rfl) k hk 0 (by omega) _ rfl
  rw [hfv] at c0
  have en := toList_B nm
  clear h hfv
  go_enter Tryz.func36, Tryz.ntmps36
  go_wp2_with fail
  go_loop [5] (fun i => ∃ k : Nat, i = .int .i64 (k : Int) ∧ k ≤ r.fams.length ∧ Hid (∀ j (h : j < r.fams.length), j < k → (r.fams[j]).nm ≠ nm)) (fun i => 100 - (intOf i).toNat)
  case atStart => exact ⟨0, rfl, by omega, fun j _ h => by omega⟩
  case round =>
    obtain ⟨k, rfl, hk, HJ⟩ := hrel
    by_cases hlt : k < r.fams.length
    · obtain ⟨ga, rfl⟩ : ∃ ga, sa = some ⟨ga, 0, none⟩ := by
        rcases hsa with ⟨_, h0, _⟩ | ⟨ga, h1, _⟩
        · omega
        · exact ⟨ga, h1⟩
      have d1 := HC.out ga rfl k hlt
      rw [Nat.add_zero] at d1
      have hki : (k : Int) < (r.fams.length : Int) := by omega
      by_cases he : (r.fams[k]).nm = nm
      · have HE : Hid (r.fams = r.fams.take k ++ r.fams[k] :: r.fams.drop (k + 1) ∧ (r.fams[k]).nm = nm ∧ (∀ g ∈ r.fams.take k, g.nm ≠ nm) ∧ (r.fams.take k).length = k) := by
          refine ⟨split_at _ _ hlt, he, fun g hg => ?_, by simp; omega⟩
          obtain ⟨j, hj, rfl⟩ := List.getElem_of_mem hg
          rw [List.length_take] at hj
          rw [List.getElem_take]
          exact HJ.out j (by omega) (by omega)
        rw [he] at d1
        clear he
        go_wp2
        go_ret
        obtain ⟨q1, q2, q3, q4⟩ := HE.out
        exact ⟨rfl, _, rfl, Or.inr ⟨_, _, _, q1, q2, q3, by rw [q4]⟩⟩
      · have HE : Hid ((r.fams[k]).nm ≠ nm) := he
        have ek := toList_B (r.fams[k]).nm
        have hb : ((r.fams[k]).nm == nm) = false := by simpa using he
        clear he
        obtain ⟨x, hx⟩ : ∃ x, (r.fams[k]).nm = x := ⟨_, rfl⟩
        rw [hx] at d1 ek hb
        clear hx
        go_wp2
        go_round
        case rel =>
          refine ⟨k + 1, by go_num, by omega, fun j h hj => ?_⟩
          by_cases e : j = k
          · subst e; exact HE.out
          · exact HJ.out j h (by omega)
        case measure => simp [intOf]; omega
    · have hki : ¬ (k : Int) < (r.fams.length : Int) := by omega
      have HE : Hid (∀ f ∈ r.fams, f.nm ≠ nm) := by
        intro f hf
        obtain ⟨j, hj, rfl⟩ := List.getElem_of_mem hf
        exact HJ.out j hj (by omega)
      go_wp2
      go_ret
      exact ⟨rfl, _, rfl, Or.inl ⟨HE.out, rfl⟩⟩

set_option maxHeartbeats 400000 in
theorem refSeries_any (r : RB) (nm : List UInt8) (w : World) (h : RB.At w r) (hl : r.ser.length ≤ 100) :
    Calls Tryz.prog 39 #[.pointer (some ⟨r.b, 0, none⟩), .string (B nm)] w fun e w' => w' = w ∧ ∃ code, e = .returned (.int .i64 code) ∧ LookOut r.ser RS.text nm code := by
  obtain ⟨c0, c1, z0, z1⟩ := rb_cells h
  obtain ⟨sa, sc, hfv, _, hsa⟩ := own_shape3 h.srows
  have HC : Hid (∀ ga, sa = some ⟨ga, 0, none⟩ → ∀ k (hk : k < r.ser.length), w.cell? ⟨ga, k * 3 + 1, none⟩ = some (.string (B (r.ser[k]).text))) := by
    rintro ga rfl k hk
    have hr := h.srows
    rw [hfv] at hr
    exact row3_cell hr (fun x => rfl) k hk 1 (by omega) _ rfl
  rw [hfv] at c1
  have en := toList_B nm
  clear h hfv
  go_enter Tryz.func39, Tryz.ntmps39
  go_wp2_with fail
  go_loop [5] (fun i => ∃ k : Nat, i = .int .i64 (k : Int) ∧ k ≤ r.ser.length ∧ Hid (∀ j (h : j < r.ser.length), j < k → (r.ser[j]).text ≠ nm)) (fun i => 100 - (intOf i).toNat)
  case atStart => exact ⟨0, rfl, by omega, fun j _ h => by omega⟩
  case round =>
    obtain ⟨k, rfl, hk, HJ⟩ := hrel
    by_cases hlt : k < r.ser.length
    · obtain ⟨ga, rfl⟩ : ∃ ga, sa = some ⟨ga, 0, none⟩ := by
        rcases hsa with ⟨_, h0, _⟩ | ⟨ga, h1, _⟩
        · omega
        · exact ⟨ga, h1⟩
      have d1 := HC.out ga rfl k hlt
      have hki : (k : Int) < (r.ser.length : Int) := by omega
      by_cases he : (r.ser[k]).text = nm
      · have HE : Hid (r.ser = r.ser.take k ++ r.ser[k] :: r.ser.drop (k + 1) ∧ (r.ser[k]).text = nm ∧ (∀ g ∈ r.ser.take k, g.text ≠ nm) ∧ (r.ser.take k).length = k) := by
          refine ⟨split_at _ _ hlt, he, fun g hg => ?_, by simp; omega⟩
          obtain ⟨j, hj, rfl⟩ := List.getElem_of_mem hg
          rw [List.length_take] at hj
          rw [List.getElem_take]
          exact HJ.out j (by omega) (by omega)
        rw [he] at d1
        clear he
        go_wp2
        go_ret
        obtain ⟨q1, q2, q3, q4⟩ := HE.out
        exact ⟨rfl, _, rfl, Or.inr ⟨_, _, _, q1, q2, q3, by rw [q4]⟩⟩
      · have HE : Hid ((r.ser[k]).text ≠ nm) := he
        have ek := toList_B (r.ser[k]).text
        have hb : ((r.ser[k]).text == nm) = false := by simpa using he
        clear he
        obtain ⟨x, hx⟩ : ∃ x, (r.ser[k]).text = x := ⟨_, rfl⟩
        rw [hx] at d1 ek hb
        clear hx
        go_wp2
        go_round
        case rel =>
          refine ⟨k + 1, by go_num, by omega, fun j h hj => ?_⟩
          by_cases e : j = k
          · subst e; exact HE.out
          · exact HJ.out j h (by omega)
        case measure => simp [intOf]; omega
    · have hki : ¬ (k : Int) < (r.ser.length : Int) := by omega
      have HE : Hid (∀ f ∈ r.ser, f.text ≠ nm) := by
        intro f hf
        obtain ⟨j, hj, rfl⟩ := List.getElem_of_mem hf
        exact HJ.out j hj (by omega)
      go_wp2
      go_ret
      exact ⟨rfl, _, rfl, Or.inl ⟨HE.out, rfl⟩⟩

end Go.Proofs.YtecmkooiaghgcaaGreatDoor
