/-
  The board's memory: which blocks it has and what each is to it (a label), which of them it may still turn, which it shares with its readings; and that a call which turns one family's own blocks leaves the rest as it was.
-/
import Derived.Test.YtcfdemhokbddiaaGreatDoorQKi
import Derived.Test.YtcfdemhokbddiaaGreatDoorQKj0
import Derived.Test.YtcfdemhokbddiaaGreatDoorQMa

namespace Go.Proofs.YtcfdemhokbddiaaGreatDoor
open Go.RowKit

theorem own_lt {w : World} {base : Nat} {e : TypeId} {s : Nat} {v : Value} {n : Nat} {xs : List Value} (h : w.ownsRow base e s v n xs) : ∀ b ∈ v.ownBlock.toList, b < w.heap.size := by
  intro b hb
  have hb' : v.ownBlock = some b := by simpa using hb
  exact (h.lt b hb').2
theorem own_frame {w w' : World} {base : Nat} {e : TypeId} {s : Nat} {v : Value} {n : Nat} {xs : List Value} (h : w.ownsRow base e s v n xs) (hk : ∀ b ∈ v.ownBlock.toList, w'.heap[b]? = w.heap[b]?) : w'.ownsRow base e s v n xs := by
  refine ⟨h.1, ?_⟩
  rcases h.2 with h2 | ⟨g, cap, cur, rfl, hb, hg, rest⟩
  · exact Or.inl h2
  · exact Or.inr ⟨g, cap, cur, rfl, hb, (hk g (by simp [Value.ownBlock])).trans hg, rest⟩
theorem own_base0 {w : World} {base : Nat} {e : TypeId} {s : Nat} {v : Value} {n : Nat} {xs : List Value} (h : w.ownsRow base e s v n xs) : w.ownsRow 0 e s v n xs := own_mono h (Nat.zero_le _)

/-- What a block is to the board: none of its own; shared, never turned again; the board itself; its list; a family's, that family's list of series, a series'; a reading's. -/
inductive Role where
  | out | shr | brd | lst
  | fam (n : List UInt8) | arr (n : List UInt8) | cnt (n p : List UInt8)
  | rd (i : Nat)
def Role.nm : Role → Option (List UInt8)
  | .fam n => some n
  | .arr n => some n
  | .cnt n _ => some n
  | _ => none

/-- A series in its block. -/
structure GC where
  b : Nat
  age : Nat
  x : Cnt
/-- A family in its block, its rows. -/
structure GF where
  b : Nat
  age : Nat
  nm : List UInt8
  kind : Int
  lv : Value
  ls : List Int
  sv : Value
  ser : List GC
def GF.foot (g : GF) : List Nat := g.b :: (g.lv.ownBlock.toList ++ (g.sv.ownBlock.toList ++ g.ser.map GC.b))
structure GF.At (w : World) (g : GF) : Prop where
  blk : w.heap[g.b]? = some (famObj g.age g.nm g.kind g.lv g.sv)
  lims : w.ownsRow 0 3 1 g.lv g.ls.length (ints g.ls)
  rows : w.ownsRow 0 120 1 g.sv g.ser.length (ptrs (g.ser.map GC.b))
  cnts : ∀ c ∈ g.ser, w.heap[c.b]? = some (cntObj c.age c.x)
theorem GF.At.lt {w : World} {g : GF} (h : GF.At w g) : ∀ b ∈ g.foot, b < w.heap.size := by
  intro b hb
  simp only [GF.foot, List.mem_cons, List.mem_append, List.mem_map] at hb
  rcases hb with rfl | hb | hb | ⟨c, hc, rfl⟩
  · exact lt_of h.blk
  · exact own_lt h.lims b hb
  · exact own_lt h.rows b hb
  · exact lt_of (h.cnts c hc)
theorem GF.At.frame {w w' : World} {g : GF} (h : GF.At w g) (hk : ∀ b ∈ g.foot, w'.heap[b]? = w.heap[b]?) : GF.At w' g := by
  refine ⟨(hk _ (by simp [GF.foot])).trans h.blk, own_frame h.lims fun b hb => hk b ?_, own_frame h.rows fun b hb => hk b ?_, fun c hc => (hk _ ?_).trans (h.cnts c hc)⟩
  · simp only [GF.foot, List.mem_cons, List.mem_append]; exact Or.inr (Or.inl hb)
  · simp only [GF.foot, List.mem_cons, List.mem_append]; exact Or.inr (Or.inr (Or.inl hb))
  · simp only [GF.foot, List.mem_cons, List.mem_append, List.mem_map]; exact Or.inr (Or.inr (Or.inr ⟨c, hc, rfl⟩))

/-- The labels of a family that may be turned. -/
structure GF.Lab (lab : Nat → Role) (A : Nat) (g : GF) : Prop where
  b : lab g.b = .fam g.nm
  lv : ∀ b ∈ g.lv.ownBlock.toList, lab b = .shr
  sv : ∀ b ∈ g.sv.ownBlock.toList, lab b = .arr g.nm
  cnt : ∀ c ∈ g.ser, lab c.b = if c.age = A then .cnt g.nm c.x.plain else .shr
/-- The labels of a family: it may be turned, if it is as old as the board; else it is shared. -/
def GF.Labd (lab : Nat → Role) (A : Nat) (g : GF) : Prop := if g.age = A then GF.Lab lab A g else ∀ b ∈ g.foot, lab b = .shr
theorem GF.Lab.nm {lab : Nat → Role} {A : Nat} {g : GF} (h : GF.Lab lab A g) : ∀ b ∈ g.foot, (lab b).nm = some g.nm ∨ lab b = .shr := by
  intro b hb
  simp only [GF.foot, List.mem_cons, List.mem_append, List.mem_map] at hb
  rcases hb with rfl | hb | hb | ⟨c, hc, rfl⟩
  · exact Or.inl (by rw [h.b]; rfl)
  · exact Or.inr (h.lv b hb)
  · exact Or.inl (by rw [h.sv b hb]; rfl)
  · rw [h.cnt c hc]
    split
    · exact Or.inl rfl
    · exact Or.inr rfl
theorem GF.Labd.nm {lab : Nat → Role} {A : Nat} {g : GF} (h : GF.Labd lab A g) : ∀ b ∈ g.foot, (lab b).nm = some g.nm ∨ lab b = .shr := by
  unfold GF.Labd at h
  split at h
  · exact h.nm
  · exact fun b hb => Or.inr (h b hb)
theorem GF.Labd.congr {lab lab' : Nat → Role} {A : Nat} {g : GF} (h : GF.Labd lab A g) (hk : ∀ b ∈ g.foot, lab' b = lab b) : GF.Labd lab' A g := by
  unfold GF.Labd at h ⊢
  have hb : g.b ∈ g.foot := by simp [GF.foot]
  have hl : ∀ b ∈ g.lv.ownBlock.toList, b ∈ g.foot := fun b hb => by simp only [GF.foot, List.mem_cons, List.mem_append]; exact Or.inr (Or.inl hb)
  have hs : ∀ b ∈ g.sv.ownBlock.toList, b ∈ g.foot := fun b hb => by simp only [GF.foot, List.mem_cons, List.mem_append]; exact Or.inr (Or.inr (Or.inl hb))
  have hc : ∀ c ∈ g.ser, c.b ∈ g.foot := fun c hc => by simp only [GF.foot, List.mem_cons, List.mem_append, List.mem_map]; exact Or.inr (Or.inr (Or.inr ⟨c, hc, rfl⟩))
  split at h
  · rename_i e
    rw [if_pos e]
    exact ⟨(hk _ hb).trans h.b, fun b hb => (hk b (hl b hb)).trans (h.lv b hb), fun b hb => (hk b (hs b hb)).trans (h.sv b hb), fun c hc' => (hk _ (hc c hc')).trans (h.cnt c hc')⟩
  · rename_i e
    rw [if_neg e]
    exact fun b hb => (hk b hb).trans (h b hb)

/-- A list of pointers that lies wherever it lies. -/
def PtrSl (w : World) (v : Value) (ps : List Nat) : Prop := ∃ sa cap, v = .slice sa ps.length cap ∧ ps.length ≤ cap ∧ (ps = [] ∨ ∃ b off, sa = some ⟨b, off, none⟩ ∧ b < w.heap.size ∧ ∀ k (h : k < ps.length), w.cell? ⟨b, off + k, none⟩ = some (.pointer (some ⟨ps[k], 0, none⟩)))
def slBlk : Value → List Nat
  | .slice (some a) n _ => if n = 0 then [] else [a.block]
  | _ => []
theorem PtrSl.lt {w : World} {v : Value} {ps : List Nat} (h : PtrSl w v ps) : ∀ b ∈ slBlk v, b < w.heap.size := by
  obtain ⟨sa, cap, rfl, _, hp⟩ := h
  intro b hb
  rcases hp with rfl | ⟨g, off, rfl, hg, _⟩
  · cases sa <;> simp [slBlk] at hb
  · simp only [slBlk] at hb
    split at hb
    · simp at hb
    · simp at hb; rw [hb]; exact hg
theorem PtrSl.frame {w w' : World} {v : Value} {ps : List Nat} (h : PtrSl w v ps) (hs : w.heap.size ≤ w'.heap.size) (hk : ∀ b ∈ slBlk v, w'.heap[b]? = w.heap[b]?) : PtrSl w' v ps := by
  obtain ⟨sa, cap, rfl, hc, hp⟩ := h
  refine ⟨sa, cap, rfl, hc, ?_⟩
  rcases hp with rfl | ⟨g, off, rfl, hg, hcell⟩
  · exact Or.inl rfl
  · refine Or.inr ⟨g, off, rfl, by omega, fun k hk' => ?_⟩
    have hb : w'.heap[g]? = w.heap[g]? := hk g (by simp only [slBlk]; rw [if_neg (by omega)]; simp)
    rw [World.cell?_of_block (a := ⟨g, off + k, none⟩) hb]
    exact hcell k hk'

/-- A reading in its block: the families of its moment, its place, how long it is idle. -/
structure GR where
  b : Nat
  fv : Value
  fams : List GF
  pl : Pl
  idle : Nat
def rdObj (fv : Value) (p : Pl) (idle : Nat) : Obj := .cells #[fv, .int .i64 (p.f : Int), .int .i64 (p.s : Int), .int .i64 (p.l : Int), .int .i64 (idle : Int)] 110
def GR.foot (r : GR) : List Nat := slBlk r.fv ++ r.fams.flatMap GF.foot
structure GR.At (w : World) (r : GR) : Prop where
  blk : w.heap[r.b]? = some (rdObj r.fv r.pl r.idle)
  rows : PtrSl w r.fv (r.fams.map GF.b)
  each : ∀ g ∈ r.fams, GF.At w g
theorem GR.At.lt {w : World} {r : GR} (h : GR.At w r) : ∀ b ∈ r.foot, b < w.heap.size := by
  intro b hb
  simp only [GR.foot, List.mem_append, List.mem_flatMap] at hb
  rcases hb with hb | ⟨g, hg, hb⟩
  · exact h.rows.lt b hb
  · exact (h.each g hg).lt b hb
theorem GR.At.frame {w w' : World} {r : GR} (h : GR.At w r) (hs : w.heap.size ≤ w'.heap.size) (hb : w'.heap[r.b]? = w.heap[r.b]?) (hk : ∀ b ∈ r.foot, w'.heap[b]? = w.heap[b]?) : GR.At w' r := by
  refine ⟨hb.trans h.blk, h.rows.frame hs fun b hb => hk b ?_, fun g hg => (h.each g hg).frame fun b hb => hk b ?_⟩
  · simp only [GR.foot, List.mem_append]; exact Or.inl hb
  · simp only [GR.foot, List.mem_append, List.mem_flatMap]; exact Or.inr ⟨g, hg, hb⟩

/-- A board in its block. -/
structure GT where
  b : Nat
  age : Nat
  lage : Nat
  fv : Value
  fams : List GF
  rds : List (Option GR)
  own : List Nat
  lab : Nat → Role
def rdPtr : Option GR → Value
  | some r => .pointer (some ⟨r.b, 0, none⟩)
  | none => .pointer none
def brdObj (age lage : Nat) (fv : Value) (rs : List Value) : Obj := .cells (#[.int .i64 (age : Int), .int .i64 (lage : Int), fv] ++ rs.toArray) 76
structure GT.At (w : World) (t : GT) : Prop where
  blk : w.heap[t.b]? = some (brdObj t.age t.lage t.fv (t.rds.map rdPtr))
  rows : w.ownsRow 0 112 1 t.fv t.fams.length (ptrs (t.fams.map GF.b))
  each : ∀ g ∈ t.fams, GF.At w g
  read : ∀ r, some r ∈ t.rds → GR.At w r
  labB : t.lab t.b = .brd
  labL : ∀ b ∈ t.fv.ownBlock.toList, t.lab b = if t.lage = t.age then .lst else .shr
  labF : ∀ g ∈ t.fams, GF.Labd t.lab t.age g
  labR : ∀ i r, t.rds[i]? = some (some r) → t.lab r.b = .rd i ∧ ∀ b ∈ r.foot, t.lab b = .shr
  dom : ∀ b, t.lab b ≠ .out → b ∈ t.own
  lt : ∀ b ∈ t.own, b < w.heap.size
  nodup : t.own.Nodup

theorem GT.At.labR' {w : World} {t : GT} (h : GT.At w t) {r : GR} (hr : some r ∈ t.rds) : (∃ i, t.lab r.b = .rd i) ∧ ∀ b ∈ r.foot, t.lab b = .shr := by
  obtain ⟨i, hi, e⟩ := List.getElem_of_mem hr
  have := h.labR i r (by rw [List.getElem?_eq_getElem hi, e])
  exact ⟨⟨i, this.1⟩, this.2⟩

/-- What the board reaches, lies among its own. -/
theorem GT.At.frame {w w' : World} {t : GT} (h : GT.At w t) (hs : w.heap.size ≤ w'.heap.size) (hk : ∀ b ∈ t.own, w'.heap[b]? = w.heap[b]?) : GT.At w' t := by
  have hd : ∀ b, t.lab b ≠ .out → w'.heap[b]? = w.heap[b]? := fun b hb => hk b (h.dom b hb)
  have hF : ∀ g ∈ t.fams, ∀ b ∈ g.foot, t.lab b ≠ .out := fun g hg b hb e => by
    rcases (h.labF g hg).nm b hb with h1 | h1 <;> rw [e] at h1 <;> cases h1
  refine ⟨(hd _ (by rw [h.labB]; simp)).trans h.blk, own_frame h.rows fun b hb => hd b ?_, fun g hg => (h.each g hg).frame fun b hb => hd b (hF g hg b hb), fun r hr => (h.read r hr).frame hs (hd _ ?_) (fun b hb => hd b ?_), h.labB, h.labL, h.labF, h.labR, h.dom, fun b hb => Nat.lt_of_lt_of_le (h.lt b hb) hs, h.nodup⟩
  · rw [h.labL b hb]; split <;> simp
  · obtain ⟨⟨i, e⟩, _⟩ := h.labR' hr
    rw [e]; simp
  · rw [(h.labR' hr).2 b hb]; simp
theorem GT.At.kept {w w' : World} {t : GT} {L : List Nat} (h : GT.At w t) (hk : Kept L w w') (hd : ∀ b ∈ t.own, b ∉ L) : GT.At w' t :=
  h.frame hk.size fun b hb => hk.block b (h.lt b hb) (hd b hb)
theorem GT.At.gb {w w' : World} {t : GT} (h : GT.At w t) (hg : w.grownBy w' none) : GT.At w' t := h.frame hg.size fun b hb => hg.block b (h.lt b hb) (by simp)

/-- The blocks that have come between two worlds. -/
def came (w w' : World) : List Nat := List.range' w.heap.size (w'.heap.size - w.heap.size)
theorem came_mem {w w' : World} {b : Nat} : b ∈ came w w' ↔ w.heap.size ≤ b ∧ b < w'.heap.size := by
  unfold came
  rw [List.mem_range'_1]
  omega
theorem own_came {w w' : World} {own : List Nat} (hn : own.Nodup) (hl : ∀ b ∈ own, b < w.heap.size) (hs : w.heap.size ≤ w'.heap.size) : (own ++ came w w').Nodup ∧ ∀ b ∈ own ++ came w w', b < w'.heap.size := by
  refine ⟨List.nodup_append.2 ⟨hn, List.nodup_range', fun a ha b hb e => ?_⟩, fun b hb => ?_⟩
  · subst e
    have := hl a ha
    have := (came_mem.1 hb).1
    omega
  · rw [List.mem_append] at hb
    rcases hb with hb | hb
    · have := hl b hb; omega
    · exact (came_mem.1 hb).2

/-- One family's own blocks are turned: the board stands, with that family turned. -/
theorem GT.upd {t : GT} {w w' : World} (h : GT.At w t) {A B : List GF} {g g' : GF} (e : t.fams = A ++ g :: B) (hdist : ∀ k, k ∈ A ∨ k ∈ B → k.nm ≠ g.nm) (hb : g'.b = g.b) (hnm : g'.nm = g.nm) (hage : g'.age = t.age)
    (hat : GF.At w' g') (lab' : Nat → Role) (hlab : GF.Lab lab' t.age g') (hold : ∀ k, k < w.heap.size → (t.lab k).nm ≠ some g.nm → lab' k = t.lab k) (hsame : ∀ k, k < w.heap.size → (t.lab k).nm ≠ some g.nm → w'.heap[k]? = w.heap[k]?)
    (hnew : ∀ k, lab' k ≠ .out → t.lab k ≠ .out ∨ (w.heap.size ≤ k ∧ k < w'.heap.size)) (hsz : w.heap.size ≤ w'.heap.size) :
    GT.At w' { t with fams := A ++ g' :: B, lab := lab', own := t.own ++ came w w' } := by
  have hin : ∀ b, t.lab b ≠ .out → b < w.heap.size := fun b hb => h.lt b (h.dom b hb)
  have hoth : ∀ k, k ∈ A ∨ k ∈ B → k ∈ t.fams := fun k hk => by
    rw [e]; simp only [List.mem_append, List.mem_cons]
    rcases hk with hk | hk
    · exact Or.inl hk
    · exact Or.inr (Or.inr hk)
  have hne : ∀ k, k ∈ A ∨ k ∈ B → ∀ b ∈ k.foot, b < w.heap.size ∧ (t.lab b).nm ≠ some g.nm := fun k hk b hb => by
    refine ⟨(h.each k (hoth k hk)).lt b hb, fun e' => ?_⟩
    rcases (h.labF k (hoth k hk)).nm b hb with h1 | h1
    · rw [h1] at e'
      exact hdist k hk (Option.some.inj e')
    · rw [h1] at e'; cases e'
  have hlB : t.b < w.heap.size := lt_of h.blk
  have hnB : (t.lab t.b).nm ≠ some g.nm := by rw [h.labB]; simp [Role.nm]
  have hlL : ∀ b ∈ t.fv.ownBlock.toList, b < w.heap.size ∧ (t.lab b).nm ≠ some g.nm := fun b hb => ⟨own_lt h.rows b hb, by rw [h.labL b hb]; split <;> simp [Role.nm]⟩
  have hrd : ∀ r, some r ∈ t.rds → r.b < w.heap.size ∧ (t.lab r.b).nm ≠ some g.nm := fun r hr => ⟨lt_of (h.read r hr).blk, by obtain ⟨⟨i, e⟩, _⟩ := h.labR' hr; rw [e]; simp [Role.nm]⟩
  have hrf : ∀ r, some r ∈ t.rds → ∀ b ∈ r.foot, b < w.heap.size ∧ (t.lab b).nm ≠ some g.nm := fun r hr b hb => ⟨(h.read r hr).lt b hb, by rw [(h.labR' hr).2 b hb]; simp [Role.nm]⟩
  obtain ⟨n1, n2⟩ := own_came (w' := w') h.nodup h.lt hsz
  have hrow := own_frame h.rows (w' := w') (fun b hb => hsame b (hlL b hb).1 (hlL b hb).2)
  rw [e] at hrow
  refine ⟨(hsame _ hlB hnB).trans h.blk, by simpa [hb] using hrow, ?_, ?_, (hold _ hlB hnB).trans h.labB, ?_, ?_, ?_, ?_, n2, n1⟩
  · intro k hk
    simp only [List.mem_append, List.mem_cons] at hk
    have hk' : ∀ k, k ∈ A ∨ k ∈ B → GF.At w' k := fun k hk => (h.each k (hoth k hk)).frame fun b hb => hsame b (hne k hk b hb).1 (hne k hk b hb).2
    rcases hk with hk | rfl | hk
    · exact hk' k (Or.inl hk)
    · exact hat
    · exact hk' k (Or.inr hk)
  · intro r hr
    exact (h.read r hr).frame hsz (hsame _ (hrd r hr).1 (hrd r hr).2) fun b hb => hsame b (hrf r hr b hb).1 (hrf r hr b hb).2
  · intro b hb
    exact (hold b (hlL b hb).1 (hlL b hb).2).trans (h.labL b hb)
  · intro k hk
    simp only [List.mem_append, List.mem_cons] at hk
    have hk' : ∀ k, k ∈ A ∨ k ∈ B → GF.Labd lab' t.age k := fun k hk => (h.labF k (hoth k hk)).congr fun b hb => hold b (hne k hk b hb).1 (hne k hk b hb).2
    rcases hk with hk | rfl | hk
    · exact hk' k (Or.inl hk)
    · show GF.Labd lab' t.age k
      unfold GF.Labd
      rw [if_pos hage]; exact hlab
    · exact hk' k (Or.inr hk)
  · intro i r hr
    have hm : some r ∈ t.rds := List.mem_of_getElem? hr
    obtain ⟨h1, h2⟩ := h.labR i r hr
    exact ⟨(hold _ (hrd r hm).1 (hrd r hm).2).trans h1, fun b hb => (hold b (hrf r hm b hb).1 (hrf r hm b hb).2).trans (h2 b hb)⟩
  · intro b hb
    rw [List.mem_append]
    rcases hnew b hb with h1 | h1
    · exact Or.inl (h.dom b h1)
    · exact Or.inr (came_mem.2 h1)

theorem keyedF {w : World} {t : GT} (h : GT.At w t) : Keyed w (t.fams.map GF.b) (t.fams.map GF.nm) := by
  refine ⟨by simp, fun k hk hk' => ?_⟩
  simp only [List.length_map] at hk
  simp only [List.getElem_map]
  exact (fam_cells (h.each _ (List.getElem_mem hk)).blk).1
theorem keyedC {w : World} {g : GF} (h : GF.At w g) : Keyed w (g.ser.map GC.b) (g.ser.map fun c => c.x.plain) := by
  refine ⟨by simp, fun k hk hk' => ?_⟩
  simp only [List.length_map] at hk
  simp only [List.getElem_map]
  exact (cnt_cells (h.cnts _ (List.getElem_mem hk))).1

theorem split_at {α : Type} (l : List α) (i : Nat) (h : i < l.length) : l = l.take i ++ l[i] :: l.drop (i + 1) := by
  rw [← List.drop_eq_getElem_cons h, List.take_append_drop]

end Go.Proofs.YtcfdemhokbddiaaGreatDoor
