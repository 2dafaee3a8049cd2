/-
  A board in someone's hands: it stands, and what a call does to it and to the rest of memory.
-/
import Derived.Test.YtcfdemhokbddiaaGreatDoorQOg

namespace Go.Proofs.YtcfdemhokbddiaaGreatDoor
open Go.RowKit

structure Bd (base m : Nat) (w : World) (t : GT) : Prop where
  at_ : GT.At w t
  ok : GT.Ok m t
  rd : RdOk t
  low : ∀ b ∈ t.own, base ≤ b
  tab : Tab w
  pos : 0 < base
  size : base ≤ w.heap.size
theorem Bd.mono {base m k : Nat} {w : World} {t : GT} (h : Bd base m w t) (hk : m ≤ k) : Bd base k w t := ⟨h.at_, h.ok.mono hk, h.rd, h.low, h.tab, h.pos, h.size⟩
theorem Bd.kept {base m : Nat} {w w' : World} {t : GT} {L : List Nat} (h : Bd base m w t) (hk : Kept L w w') (hL : ∀ b ∈ L, base ≤ b ∧ b ∉ t.own) : Bd base m w' t :=
  ⟨h.at_.kept hk fun b hb hm => (hL b hm).2 hb, h.ok, h.rd, h.low, h.tab.same (hk.block 0 h.tab.lt fun hm => by have := (hL 0 hm).1; have := h.pos; omega), h.pos, Nat.le_trans h.size hk.size⟩
theorem Bd.gb {base m : Nat} {w w' : World} {t : GT} (h : Bd base m w t) (hg : w.grownBy w' none) : Bd base m w' t := h.kept (L := []) (Kept.of_none hg _) (by simp)
theorem Bd.ne0 {base m : Nat} {w : World} {t : GT} (h : Bd base m w t) : ∀ b ∈ t.own, b ≠ 0 := fun b hb => by have := h.low b hb; have := h.pos; omega
theorem Bd.lt {base m : Nat} {w : World} {t : GT} (h : Bd base m w t) : ∀ b ∈ t.own, b < w.heap.size := h.at_.lt

/-- The board t has become t'. -/
structure Stp (base m : Nat) (t t' : GT) (w w' : World) : Prop where
  bd : Bd base m w' t'
  b : t'.b = t.b
  kept : Kept t.own w w'
  sub : ∀ x ∈ t'.own, x ∈ t.own ∨ w.heap.size ≤ x
theorem Stp.refl {base m : Nat} {t : GT} {w : World} (h : Bd base m w t) : Stp base m t t w w := ⟨h, rfl, Kept.refl _ _, fun _ hx => Or.inl hx⟩
theorem Stp.trans {base m k : Nat} {t t1 t2 : GT} {w w1 w2 : World} (h : Stp base m t t1 w w1) (g : Stp base k t1 t2 w1 w2) : Stp base k t t2 w w2 :=
  ⟨g.bd, g.b.trans h.b, h.kept.then g.kept h.sub, fun x hx => by
    rcases g.sub x hx with h1 | h1
    · exact h.sub x h1
    · exact Or.inr (Nat.le_trans h.kept.size h1)⟩
theorem Stp.to {base m : Nat} {t t' : GT} {w w1 w' : World} (h : Stp base m t t' w w1) (hg : w1.grownBy w' none) : Stp base m t t' w w' :=
  ⟨h.bd.gb hg, h.b, h.kept.trans (Kept.of_none hg _), h.sub⟩
theorem Stp.from {base m : Nat} {t t' : GT} {w w1 w' : World} (hg : w.grownBy w1 none) (h : Stp base m t t' w1 w') : Stp base m t t' w w' :=
  ⟨h.bd, h.b, (Kept.of_none hg _).trans h.kept, fun x hx => by
    rcases h.sub x hx with h1 | h1
    · exact Or.inl h1
    · exact Or.inr (Nat.le_trans hg.size h1)⟩
theorem Stp.mono {base m k : Nat} {t t' : GT} {w w' : World} (h : Stp base m t t' w w') (hk : m ≤ k) : Stp base k t t' w w' := ⟨h.bd.mono hk, h.b, h.kept, h.sub⟩
theorem Out.stp {base m k : Nat} {t t' : GT} {w w' : World} (h : Out k t t' w w') (hb : Bd base m w t) (hr : RdOk t') : Stp base k t t' w w' :=
  ⟨⟨h.at_, h.ok, hr, fun x hx => by
    rcases h.sub x hx with h1 | h1
    · exact hb.low x h1
    · have := hb.size; omega, hb.tab.same (h.kept.block 0 hb.tab.lt fun hm => hb.ne0 0 hm rfl), hb.pos, Nat.le_trans hb.size h.kept.size⟩, h.b, h.kept, h.sub⟩
/-- Another board, of other blocks, stands as it did. -/
theorem Bd.other {base m k : Nat} {w w' : World} {t t' c : GT} (h : Bd base m w c) (hs : Stp base k t t' w w') (hb : ∀ b ∈ t.own, base ≤ b) (hd : ∀ b ∈ t.own, b ∉ c.own) : Bd base m w' c ∧ ∀ b ∈ t'.own, b ∉ c.own :=
  ⟨h.kept hs.kept fun b hb' => ⟨hb b hb', hd b hb'⟩, fun b hb' hm => by
    rcases hs.sub b hb' with h1 | h1
    · exact hd b h1 hm
    · have := h.lt b hm; omega⟩

theorem rdOk_of {t t' : GT} (h : RdOk t) (e : t'.rds = t.rds) : RdOk t' := fun r hr => h r (by rw [← e]; exact hr)
theorem rview_of {t t' : GT} (e : t'.rds = t.rds) : t'.rview = t.rview := by unfold GT.rview; rw [e]

section
variable {base m : Nat} {t : GT} {w : World}
theorem cFamily (hb : Bd base m w t) (nm : List UInt8) (kind : Int) (v : Value) (xs : List Int) (hv : IntSl w v xs) (hx : xs.length ≤ 9223372036854775807) :
    Calls Tryz.prog 33 #[.pointer (some ⟨t.b, 0, none⟩), .string (B nm), .int .i64 kind, v] w fun e w' => ∃ t' code, e = .returned (.int .i64 code) ∧ Stp base m t t' w w' ∧ t'.rview = t.rview ∧ (code, t'.view) = famP t.view nm kind xs :=
  (bFamily_any t nm kind v xs m w hb.at_ hb.ok hv hx).mono fun _ _ ⟨t', code, h1, h2, h3, h4⟩ => ⟨t', code, h1, h2.stp hb (rdOk_of hb.rd h3), rview_of h3, h4⟩
theorem cChange (hb : Bd base m w t) (s : ByteArray) (n : Int) (hm : m ≤ 4611686018427387904) :
    Calls Tryz.prog 20 #[.pointer (some ⟨t.b, 0, none⟩), .string s, .int .i64 n] w fun e w' => ∃ t' code, e = .returned (.int .i64 code) ∧ Stp base (m + 1) t t' w w' ∧ t'.rview = t.rview ∧ (code, t'.view) = chgP t.view s.data.toList n :=
  (bChange_any t s n m w hb.at_ hb.ok hm).mono fun _ _ ⟨t', code, h1, h2, h3, h4⟩ => ⟨t', code, h1, h2.stp hb (rdOk_of hb.rd h3), rview_of h3, h4⟩
theorem cDrop (hb : Bd base m w t) (s : ByteArray) :
    Calls Tryz.prog 27 #[.pointer (some ⟨t.b, 0, none⟩), .string s] w fun e w' => ∃ t' code, e = .returned (.int .i64 code) ∧ Stp base m t t' w w' ∧ t'.rview = t.rview ∧ (code, t'.view) = drpP t.view s.data.toList :=
  (bDrop_any t s m w hb.at_ hb.ok).mono fun _ _ ⟨t', code, h1, h2, h3, h4⟩ => ⟨t', code, h1, h2.stp hb (rdOk_of hb.rd h3), rview_of h3, h4⟩
theorem cTick (hb : Bd base m w t) :
    Calls Tryz.prog 22 #[.pointer (some ⟨t.b, 0, none⟩)] w fun e w' => e = .returned (.tuple #[]) ∧ ∃ t', Stp base m t t' w w' ∧ t'.view = t.view ∧ t'.rview = tickP t.rview :=
  (bTick_any t m w hb.at_ hb.ok hb.rd).mono fun _ _ ⟨h1, t', h2, _, h3, h4, h5⟩ => ⟨h1, t', h2.stp hb h3, h4, h5⟩
theorem cPage (hb : Bd base m w t) (n k : Int) (hm : m ≤ 4611686018427387904) :
    Calls Tryz.prog 16 #[.pointer (some ⟨t.b, 0, none⟩), .int .i64 n, .int .i64 k] w fun e w' => ∃ t' v lines more c, e = .returned (.tuple #[v, .bool more, .int .i64 c]) ∧ Stp base m t t' w w' ∧ t'.own = t.own ∧ t'.view = t.view ∧ w'.ownsRow w.heap.size 9 1 v lines.length (strs lines) ∧ ((lines, more, c), t'.rview) = pageP t.rview n k :=
  (bPage_any t n k m w hb.at_ hb.ok hb.rd hm hb.tab hb.ne0).mono fun _ _ ⟨t', v, lines, more, c, h1, h2, h3, h4, h5, h6, h7⟩ => ⟨t', v, lines, more, c, h1, h2.stp hb h4, h3, h5, h6, h7⟩
theorem cOpen (hb : Bd base m w t) (s : ByteArray) (hm : m ≤ 4611686018427387904) :
    Calls Tryz.prog 15 #[.pointer (some ⟨t.b, 0, none⟩), .string s] w fun e w' => ∃ t' i c, e = .returned (.tuple #[.int .i64 i, .int .i64 c]) ∧ Stp base (m + 1) t t' w w' ∧ t'.view = t.view ∧ ((i, c), t'.rview) = openP t.view t.rview s.data.toList :=
  (bOpen_any t s m w hb.at_ hb.ok hb.rd hm).mono fun _ _ ⟨t', i, c, h1, h2, h3, h4, h5⟩ => ⟨t', i, c, h1, h2.stp hb h3, h4, h5⟩
end
theorem cNew (base : Nat) (w : World) (ht : Tab w) (hp : 0 < base) (hs : base ≤ w.heap.size) : Calls Tryz.prog 32 #[] w fun e w' => ∃ t, e = .returned (.pointer (some ⟨t.b, 0, none⟩)) ∧ w.grownBy w' none ∧ Bd base 0 w' t ∧ t.view = [] ∧ t.rview = [none, none, none] ∧ ∀ b ∈ t.own, w.heap.size ≤ b :=
  (bNew_any w).mono fun _ _ ⟨t, h1, h2, h3, h4, h5, h6, h7, h8, h9⟩ => ⟨t, h1, h3, ⟨h4, h5, h6, by rw [h9]; simpa using hs, ht.gb h3, hp, by omega⟩, h7, h8, by rw [h9]; simp⟩

/-- append of a row of texts onto a row of one's own. -/
theorem run_append_rows (w : World) (base base' : Nat) (v : Value) (n : Nat) (xs : List Value) (hv : w.ownsRow base 9 1 v n xs) (u : Value) (k : Nat) (ls : List (List UInt8)) (hu : w.ownsRow base' 9 1 u k (strs ls)) (hb : base ≤ w.heap.size) (hn : n + k ≤ 100000) :
    ∃ v' w', (Builtin.append_ #[32, 32] 32 #[v, u]).run Tryz.prog w = .ok v' w' ∧ w'.ownsRow base 9 1 v' (n + k) (xs ++ strs ls) ∧ w.grownBy w' v.ownBlock := by
  obtain ⟨i0, hi, hz0, hz1, hz2⟩ := info_parts Tryz.info9
  rcases hu.2 with ⟨rfl, rfl⟩ | ⟨g, cap, cur, rfl, _⟩
  · have e : strs ls = [] := List.eq_nil_of_length_eq_zero (by simpa using hu.1)
    rw [e, List.append_nil]
    exact ⟨v, w, run_append_owned_none w base 32 32 9 i0 1 Tryz.underlying32 hi v n xs hv, hv, gb_refl _ _⟩
  · obtain ⟨v', w', h1, h2, h3, _⟩ := run_append_own (P := Tryz.prog) w base 32 32 9 i0 (.string ⟨#[]⟩) 1 16 Tryz.underlying32 hi hz0 hz1 hz2 rfl (by omega) v n xs hv ⟨g, 0, none⟩ k cap (strs ls) hu.1 (fun j u hj => own_cells1 hu rfl j u hj) (fun u hu => by
      simp only [strs, List.mem_map] at hu
      obtain ⟨a, _, rfl⟩ := hu
      rfl) (by unfold maxLen; omega) (by omega) hb
    exact ⟨v', w', h1, h2, h3⟩
theorem wpList_append_rows (w : World) {ops : Array Oper} {rest : List Oper} {o : Oper} {a : Act} {Q : Exit → Act → World → Prop} (hg : o.guard = none) (s x : Operand) (hop : o.op = Op.call { callee := Callee.builtin Builtin.append, args := #[s, x], argTypes := #[32, 32] }) (hty : o.type = 32)
    (base base' : Nat) (v : Value) (n : Nat) (xs : List Value) (hs : a.eval s = v) (hv : w.ownsRow base 9 1 v n xs) (u : Value) (k : Nat) (ls : List (List UInt8)) (hx : a.eval x = u) (hu : w.ownsRow base' 9 1 u k (strs ls)) (hb : base ≤ w.heap.size) (hn : n + k ≤ 100000)
    (hK : ∀ v' w', w'.ownsRow base 9 1 v' (n + k) (xs ++ strs ls) → w.grownBy w' v.ownBlock → wpList Tryz.prog ops Q rest (a.put o.dst v') w') : wpList Tryz.prog ops Q (o :: rest) a w := by
  refine wpList_plain hg fun K hK' => ?_
  obtain ⟨v', w', hrun, r1, r2⟩ := run_append_rows w base base' v n xs hv u k ls hu hb hn
  unfold Oper.wp
  simp [execOp, hop, hty, resolve, invoke, builtin, hs, hx, hrun, Result.andThen]
  exact hK' _ _ (hK v' w' r1 r2)

end Go.Proofs.YtcfdemhokbddiaaGreatDoor

/-
  The keeps' small functions: pick, size, same, in.
-/
namespace Go.Proofs.YtcfdemhokbddiaaGreatDoor
open Go.RowKit

/-- Which of n numbers the raw number c speaks of. -/
def pickP (c n : Int) : Int := (if c < 0 then -(c + 1) else c) % n
theorem pickP_bound (c n : Int) (h : 0 < n) : 0 ≤ pickP c n ∧ pickP c n < n := ⟨Int.emod_nonneg _ (by omega), Int.emod_lt_of_pos _ h⟩
def I64 (c : Int) : Prop := -9223372036854775808 ≤ c ∧ c ≤ 9223372036854775807

set_option maxHeartbeats 400000 in
theorem kpick_any (c n : Int) (w : World) (hc : I64 c) (hn : 0 < n) (hn2 : n ≤ 100000) :
    Calls Tryz.prog 23 #[.int .i64 c, .int .i64 n] w fun e w' => e = .returned (.int .i64 (pickP c n)) ∧ w' = w := by
  obtain ⟨h1, h2⟩ := hc
  have hn0 : n ≠ 0 := by omega
  by_cases h : c < 0
  · have hE : pickP c n = -(c + 1).tmod n := by unfold pickP; rw [if_pos h, ← Int.neg_tmod, Int.tmod_eq_emod_of_nonneg (by omega)]
    have HE : Hid (pickP c n = -(c + 1).tmod n) := hE
    have hb1 : 0 ≤ -(c + 1).tmod n := by rw [← hE]; exact (pickP_bound c n hn).1
    have hb2 : -(c + 1).tmod n < n := by rw [← hE]; exact (pickP_bound c n hn).2
    clear hE
    go_enter Tryz.func23, Tryz.ntmps23
    go_wp2
    go_ret
    exact ⟨by rw [HE.out]; rfl, rfl⟩
  · have hE : pickP c n = c % n := by unfold pickP; rw [if_neg h]
    have HE : Hid (pickP c n = c % n) := hE
    have hb1 : 0 ≤ c % n := by rw [← hE]; exact (pickP_bound c n hn).1
    have hb2 : c % n < n := by rw [← hE]; exact (pickP_bound c n hn).2
    clear hE
    go_enter Tryz.func23, Tryz.ntmps23
    go_wp2
    go_ret
    exact ⟨by rw [HE.out]; rfl, rfl⟩

/-- Numbers that lie in a block that is none of L. -/
def FarI (L : List Nat) (w : World) (v : Value) (xs : List Int) : Prop := ∃ sa cap, v = .slice sa xs.length cap ∧ xs.length ≤ cap ∧ (∀ x ∈ xs, I64 x) ∧ (xs = [] ∨ ∃ b off, sa = some ⟨b, off, none⟩ ∧ b ∉ L ∧ b < w.heap.size ∧ IntsAt w b off xs)
theorem FarI.kept {L M : List Nat} {w w' : World} {v : Value} {xs : List Int} (h : FarI L w v xs) (hk : Kept M w w') (hM : ∀ b ∈ M, b ∈ L ∨ w.heap.size ≤ b) : FarI L w' v xs := by
  obtain ⟨sa, cap, h1, h2, h3, h4⟩ := h
  refine ⟨sa, cap, h1, h2, h3, ?_⟩
  rcases h4 with h4 | ⟨b, off, e, hb, hlt, hi⟩
  · exact Or.inl h4
  · refine Or.inr ⟨b, off, e, hb, Nat.lt_of_lt_of_le hlt hk.size, fun k hk' => ?_⟩
    rw [World.cell?_of_block (a := ⟨b, off + k, none⟩) (hk.block b hlt (fun hm => by
      rcases hM b hm with h | h
      · exact hb h
      · omega))]
    exact hi k hk'
theorem FarI.mono {L M : List Nat} {w : World} {v : Value} {xs : List Int} (h : FarI L w v xs) (hM : ∀ b ∈ M, b ∈ L ∨ w.heap.size ≤ b) : FarI M w v xs := by
  obtain ⟨sa, cap, h1, h2, h3, h4⟩ := h
  refine ⟨sa, cap, h1, h2, h3, ?_⟩
  rcases h4 with h4 | ⟨b, off, e, hb, hlt, hi⟩
  · exact Or.inl h4
  · exact Or.inr ⟨b, off, e, fun hm => by
      rcases hM b hm with h | h
      · exact hb h
      · omega, hlt, hi⟩

def sizeP (zs : List Int) (i : Nat) : Int := if zs = [] then 20 else 1 + pickP (zs.getD (i % zs.length) 0) 20
theorem sizeP_bound (zs : List Int) (i : Nat) : 1 ≤ sizeP zs i ∧ sizeP zs i ≤ 20 := by
  unfold sizeP
  split
  · omega
  · have := pickP_bound (zs.getD (i % zs.length) 0) 20 (by omega); omega

set_option maxHeartbeats 400000 in
theorem size_any (v : Value) (zs : List Int) (L : List Nat) (i : Nat) (w : World) (h : FarI L w v zs) (hi : i ≤ 9223372036854775807) (hl : zs.length ≤ 9223372036854775807) :
    Calls Tryz.prog 17 #[v, .int .i64 (i : Int)] w fun e w' => e = .returned (.int .i64 (sizeP zs i)) ∧ w' = w := by
  obtain ⟨sa, cap, rfl, hc, hx, hz⟩ := h
  by_cases he : zs = []
  · subst he
    have HE : Hid (sizeP [] i = 20) := rfl
    clear hz hx
    go_enter Tryz.func17, Tryz.ntmps17
    go_wp2
    go_ret
    exact ⟨by rw [HE.out]; rfl, rfl⟩
  · rcases hz with h | ⟨b, off, rfl, hb, hlt, hI⟩
    · exact absurd h he
    have hpos : 0 < zs.length := List.length_pos_iff.2 he
    have hpos' : (0 : Int) < (zs.length : Int) := by omega
    have hne : ((zs.length : Int) == 0) = false := by simp; omega
    obtain ⟨j, hj⟩ : ∃ j, i % zs.length = j := ⟨_, rfl⟩
    have hjl : j < zs.length := by rw [← hj]; exact Nat.mod_lt _ hpos
    have hmod : (i : Int).tmod (zs.length : Int) = (j : Int) := by rw [← hj, Int.tmod_eq_emod_of_nonneg (by omega)]; simp
    have hji : (j : Int) < (zs.length : Int) := by omega
    have cz := hI j hjl
    obtain ⟨z, hzE⟩ : ∃ z, zs[j] = z := ⟨_, rfl⟩
    rw [hzE] at cz
    have hzr : I64 z := hx z (by rw [← hzE]; exact List.getElem_mem hjl)
    have HE : Hid (sizeP zs i = 1 + pickP z 20) := by
      show _ = _
      unfold sizeP
      rw [if_neg he, hj, List.getD_eq_getElem?_getD, List.getElem?_eq_getElem hjl, hzE]; rfl
    have HP : Hid (Calls Tryz.prog 23 #[.int .i64 z, .int .i64 20] w _) := kpick_any z 20 w hzr (by omega) (by omega)
    obtain ⟨hp1, hp2⟩ := pickP_bound z 20 (by omega)
    have hn0 : (zs.length : Int) ≠ 0 := by omega
    clear hx hI hj hzE he hzr
    go_enter Tryz.func17, Tryz.ntmps17
    go_wp2_with fail
    refine HP.out.mono ?_
    rintro e w1 ⟨rfl, rfl⟩
    go_wp2
    go_ret
    exact ⟨by rw [HE.out]; rfl, rfl⟩

/-- Texts in a row, wherever it lies. -/
def StrAt (w : World) (v : Value) (ls : List (List UInt8)) : Prop := ∃ sa cap, v = .slice sa ls.length cap ∧ (ls = [] ∨ ∃ b, sa = some ⟨b, 0, none⟩ ∧ ∀ k (h : k < ls.length), w.cell? ⟨b, k, none⟩ = some (.string (B ls[k])))
theorem strAt_of {w : World} {base n : Nat} {v : Value} {ls : List (List UInt8)} (h : w.ownsRow base 9 1 v n (strs ls)) : n = ls.length ∧ StrAt w v ls := by
  have hn : n = ls.length := by have := h.1; simpa [strs] using this.symm
  subst hn
  refine ⟨rfl, ?_⟩
  rcases h.2 with ⟨rfl, h0⟩ | ⟨g, cap, cur, rfl, _⟩
  · exact ⟨none, 0, by rw [h0], Or.inl (List.eq_nil_of_length_eq_zero h0)⟩
  · refine ⟨some ⟨g, 0, none⟩, cap, rfl, Or.inr ⟨g, rfl, fun k hk => ?_⟩⟩
    have := own_cells1 h rfl k (.string (B ls[k])) (by simp [strs, hk])
    rw [Addr.add_lit] at this
    simpa using this

theorem B_list (a : List UInt8) : (B a).toList = a := by rw [ByteArray.toList_eq]; simp [B]
theorem B_inj {a b : List UInt8} (h : B a = B b) : a = b := by
  have := congrArg (fun x => x.data.toList) h
  simpa [B] using this

set_option maxRecDepth 100000 in
set_option maxHeartbeats 1000000 in
theorem same_any (v u : Value) (ls ks : List (List UInt8)) (w : World) (hv : StrAt w v ls) (hu : StrAt w u ks) (hl : ls.length ≤ 100000) :
    Calls Tryz.prog 19 #[v, u] w fun e w' => e = .returned (.bool (decide (ls = ks))) ∧ w.grownBy w' none := by
  obtain ⟨sa, sc, rfl, hsa⟩ := hv
  obtain ⟨ua, uc, rfl, hua⟩ := hu
  by_cases hlen : ls.length = ks.length
  · rw [← hlen]
    go_enter Tryz.func19, Tryz.ntmps19
    go_wp2_with fail
    go_loopw [5] (fun v wr => ∃ i : Nat, v = .int .i64 (i : Int) ∧ i ≤ ls.length ∧ Hid (w.grownBy wr none ∧ ls.take i = ks.take i)) (fun v _ => ls.length - (intOf v).toNat)
    case atStart => exact ⟨0, rfl, Nat.zero_le _, gb_refl _ _, by simp⟩
    case round =>
      obtain ⟨i, rfl, hi, HG⟩ := hrel
      by_cases hlt : i < ls.length
      · have hli : (i : Int) < (ls.length : Int) := by omega
        have hlk : i < ks.length := by omega
        obtain ⟨b, rfl, hb⟩ : ∃ b, sa = some ⟨b, 0, none⟩ ∧ ∀ k (h : k < ls.length), w.cell? ⟨b, k, none⟩ = some (.string (B ls[k])) := by
          rcases hsa with h | h
          · rw [h] at hlt; simp at hlt
          · exact h
        obtain ⟨c, rfl, hc⟩ : ∃ b, ua = some ⟨b, 0, none⟩ ∧ ∀ k (h : k < ks.length), w.cell? ⟨b, k, none⟩ = some (.string (B ks[k])) := by
          rcases hua with h | h
          · rw [h] at hlk; simp at hlk
          · exact h
        have x1 := gb_cell HG.out.1 (hb i hlt) (by simp)
        have x2 := gb_cell HG.out.1 (hc i hlk) (by simp)
        obtain ⟨p, hp⟩ : ∃ p, ls[i] = p := ⟨_, rfl⟩
        obtain ⟨q, hq⟩ : ∃ q, ks[i] = q := ⟨_, rfl⟩
        rw [hp] at x1
        rw [hq] at x2
        by_cases hpq : p = q
        · subst hpq
          have HG2 : Hid (ls.take (i + 1) = ks.take (i + 1)) := by
            show _ = _
            rw [List.take_add_one, List.take_add_one, HG.out.2, List.getElem?_eq_getElem hlt, List.getElem?_eq_getElem hlk, hp, hq]
          clear hp hq hb hc hsa hua
          go_wp2_with fail
          go_quiet (fail)
          go_wp2
          go_roundw
          case rel => exact ⟨i + 1, by go_num, by omega, gb_trans HG.out.1 (gb_drewN _ _ _), HG2.out⟩
          case measure => simp [intOf]; omega
        · have hbq : ((B p).toList == (B q).toList) = false := by rw [B_list, B_list]; simpa using hpq
          have HD : Hid (decide (ls = ks) = false) := decide_eq_false (fun e => hpq (by rw [← hp, ← hq]; simp [e]))
          clear hp hq hb hc hsa hua
          go_wp2_with fail
          go_quiet (fail)
          go_wp2
          go_ret
          exact ⟨by rw [HD.out]; rfl, gb_trans HG.out.1 (gb_drewN _ _ _)⟩
      · have hli : ¬ (i : Int) < (ls.length : Int) := by omega
        have HD : Hid (decide (ls = ks) = true) := decide_eq_true (by
          have := HG.out.2
          rw [List.take_of_length_le (by omega), List.take_of_length_le (by omega)] at this; exact this)
        clear hsa hua
        go_wp2
        go_ret
        exact ⟨by rw [HD.out]; rfl, HG.out.1⟩
  · have hne : ((ls.length : Int) != (ks.length : Int)) = true := by simp; omega
    have HD : Hid (decide (ls = ks) = false) := decide_eq_false (fun e => hlen (by rw [e]))
    clear hsa hua
    go_enter Tryz.func19, Tryz.ntmps19
    go_wp2
    go_ret
    exact ⟨by rw [HD.out]; rfl, gb_refl _ _⟩

set_option maxRecDepth 100000 in
set_option maxHeartbeats 1000000 in
theorem in_any (v : Value) (ls : List (List UInt8)) (x : List UInt8) (w : World) (hv : StrAt w v ls) (hl : ls.length ≤ 100000) (hx : x ∈ ls) :
    Calls Tryz.prog 21 #[v, .string (B x)] w fun e w' => e = .returned (.bool true) ∧ w' = w := by
  obtain ⟨sa, sc, rfl, hsa⟩ := hv
  go_enter Tryz.func21, Tryz.ntmps21
  go_wp2_with fail
  go_loopw [5] (fun v wr => ∃ i : Nat, v = .int .i64 (i : Int) ∧ i ≤ ls.length ∧ Hid (wr = w ∧ x ∉ ls.take i)) (fun v _ => ls.length - (intOf v).toNat)
  case atStart => exact ⟨0, rfl, Nat.zero_le _, rfl, by simp⟩
  case round =>
    obtain ⟨i, rfl, hi, HG⟩ := hrel
    obtain rfl := HG.out.1
    by_cases hlt : i < ls.length
    · have hli : (i : Int) < (ls.length : Int) := by omega
      obtain ⟨b, rfl, hb⟩ : ∃ b, sa = some ⟨b, 0, none⟩ ∧ ∀ k (h : k < ls.length), wr.cell? ⟨b, k, none⟩ = some (.string (B ls[k])) := by
        rcases hsa with h | h
        · rw [h] at hlt; simp at hlt
        · exact h
      have x1 := hb i hlt
      obtain ⟨p, hp⟩ : ∃ p, ls[i] = p := ⟨_, rfl⟩
      rw [hp] at x1
      by_cases hpq : p = x
      · subst hpq
        clear hp hb hsa
        go_wp2
        go_ret
        exact ⟨rfl, rfl⟩
      · have hbq : ((B p).toList == (B x).toList) = false := by rw [B_list, B_list]; simpa using hpq
        have HG2 : Hid (x ∉ ls.take (i + 1)) := by
          show ¬ _
          rw [List.take_add_one, List.getElem?_eq_getElem hlt, hp]
          simp only [Option.toList_some, List.mem_append, List.mem_singleton, not_or]
          exact ⟨HG.out.2, fun e => hpq e.symm⟩
        clear hp hb hsa
        go_wp2
        go_roundw
        case rel => exact ⟨i + 1, by go_num, by omega, by trivial, HG2.out⟩
        case measure => simp [intOf]; omega
    · have := HG.out.2
      rw [List.take_of_length_le (by omega)] at this
      exact absurd hx this

end Go.Proofs.YtcfdemhokbddiaaGreatDoor
