/-
  The reader's value whole: a loop that gathers bytes in a list of its own.
-/
import Derived.Test.YtcfdemhokbddiaaC
namespace Go.Proofs.Ytcfdemhokbddiaa
open Go.RowKit

theorem Try.info5 : (Try.prog.info? 5).map (fun i => (i.zero, i.size, i.bytes)) = some (some (.int .u8 0), 1, 1) := by kernel_rfl

theorem take_not (b : Nat) (s : ByteArray) (n : Nat) (c : Int) (w : World) (hb : w.heap[b]? = some (rdr s n)) (hn : n ≤ s.size) (hc : ∀ h : n < s.size, ((s[n]'h).toNat : Int) ≠ c) :
    Calls Try.prog 28 #[.pointer (some ⟨b, 0, none⟩), .int .u8 c] w fun e w' => e = .returned (.bool false) ∧ ∃ q, w' = w.drewN q := by
  by_cases h : n < s.size
  · exact take_no b s n c w hb h (by simpa using hc h)
  · exact take_end b s n c w hb (by omega)

theorem gb_row {a w w' : World} {b : Nat} {row : Option Nat} (h : a.grownBy w (some b)) (k : w.grownBy w' row) (hr : ∀ j, row = some j → a.heap.size ≤ j) : a.grownBy w' (some b) :=
  ⟨k.os.trans h.os, k.tape.trans h.tape, k.output.trans h.output, Nat.le_trans h.size k.size, fun i hi hne =>
    (k.block i (Nat.lt_of_lt_of_le hi h.size) (fun e => by have := hr i e.symm; omega)).trans (h.block i hi hne)⟩
theorem gb_alloc {a w : World} {r : Option Nat} (h : a.grownBy w r) (o : Obj) : a.grownBy (w.alloc o) r :=
  gb_trans h ⟨rfl, rfl, rfl, by simp, fun k hk _ => Below.heap_alloc _ _ _ hk⟩
theorem lt_of {w : World} {b : Nat} {o : Obj} (h : w.heap[b]? = some o) : b < w.heap.size := by
  rcases Nat.lt_or_ge b w.heap.size with h1 | h1
  · exact h1
  · rw [Array.getElem?_eq_none h1] at h; simp at h

/-- Bytes as cells. -/
def bcells (l : List UInt8) : List Value := l.map fun c => .int .u8 (c.toNat : Int)
theorem bcells_len (l : List UInt8) : (bcells l).length = l.length := by simp [bcells]

def prep (vs : List UInt8) (p : Option (List UInt8) × List UInt8) : Option (List UInt8) × List UInt8 := (p.1.map (vs ++ ·), p.2)
theorem prep_nil (p : Option (List UInt8) × List UInt8) : prep [] p = p := by
  obtain ⟨a, l⟩ := p; cases a <;> simp [prep]
theorem valP_quote (r : Nat) (c : UInt8) (l : List UInt8) (h : c.toNat = 34) : valP r (c :: l) = (some [], l) := by
  cases r <;> simp [valP, h]
theorem valP_full (l : List UInt8) (h : ∀ c ∈ l.head?, c.toNat ≠ 34) : valP 0 l = (none, l) := by
  cases l with
  | nil => simp [valP]
  | cons c l => simp at h; simp [valP, h]
theorem valP_none (r : Nat) (l l' : List UInt8) (h : ∀ c ∈ l.head?, c.toNat ≠ 34) (hv : vbP l = (none, l')) : valP (r + 1) l = (none, l') := by
  cases l with
  | nil => simp [vbP] at hv; simp [valP, hv]
  | cons c l => simp at h; simp [valP, h, hv]
theorem valP_some (r : Nat) (l l' : List UInt8) (x : UInt8) (h : ∀ c ∈ l.head?, c.toNat ≠ 34) (hv : vbP l = (some x, l')) : valP (r + 1) l = prep [x] (valP r l') := by
  cases l with
  | nil => simp [vbP] at hv
  | cons c l =>
    simp at h; simp only [valP, h, hv, if_false]
    rcases hq : valP r l' with ⟨o, l''⟩
    cases o <;> simp [prep]
theorem prep_prep (a b : List UInt8) (p : Option (List UInt8) × List UInt8) : prep a (prep b p) = prep (a ++ b) p := by
  obtain ⟨o, l⟩ := p; cases o <;> simp [prep]
theorem head_drop (s : ByteArray) (m : Nat) (p : Nat) (h : ∀ h : m < s.size, (s[m]'h).toNat ≠ p) : ∀ c ∈ (s.data.toList.drop m).head?, c.toNat ≠ p := by
  by_cases hm : m < s.size
  · rw [drop_cons s m hm]; simpa using h hm
  · rw [List.drop_of_length_le (by show s.size ≤ m; omega)]; simp

def z16 : Array Value := Array.replicate 16 (.int .u8 0)
theorem make16 (w : World) : (Instr.makeSlice 47 (.int .i64 0) (.int .i64 16)).run Try.prog w = .ok (.slice (some ⟨w.heap.size, 0, none⟩) 0 16) (w.alloc (.cells z16 5)) := by kernel_rfl

set_option maxHeartbeats 800000 in
theorem value_any (b : Nat) (s : ByteArray) (n : Nat) (w : World) (hb : w.heap[b]? = some (rdr s n)) (hn : n ≤ s.size) (hs : s.size ≤ 100) :
    Calls Try.prog 35 #[.pointer (some ⟨b, 0, none⟩)] w fun e w' => ∃ (m : Nat) (o : Option (List UInt8)), n ≤ m ∧ m ≤ s.size ∧ valP 16 (s.data.toList.drop n) = (o, s.data.toList.drop m) ∧
      e = .returned (.tuple #[.string ⟨(o.getD []).toArray⟩, .bool o.isSome]) ∧ w'.heap[b]? = some (rdr s m) ∧ w.grownBy w' (some b) := by
  have hmk := make16
  have hbl := lt_of hb
  obtain ⟨i0, hi, hz0, hz1, hz2⟩ := info_parts Try.info5
  have HI : Hid (Try.prog.info? 5 = some i0 ∧ i0.zero = some (.int .u8 0) ∧ i0.size = 1 ∧ i0.bytes = 1) := ⟨hi, hz0, hz1, hz2⟩
  clear hi hz0 hz1 hz2
  go_enter Try.func35, Try.ntmps35
  go_wp2
  go_loopw [4] (fun v wr => ∃ (m : Nat) (vs : List UInt8) (g cap : Nat), v = .slice (some ⟨g, 0, none⟩) vs.length cap ∧ wr.heap[b]? = some (rdr s m) ∧ wr.ownsRow w.heap.size 5 1 v vs.length (bcells vs) ∧ w.grownBy wr (some b) ∧
      n ≤ m ∧ m ≤ s.size ∧ vs.length ≤ 16 ∧ valP 16 (s.data.toList.drop n) = prep vs (valP (16 - vs.length) (s.data.toList.drop m)))
    (fun _ wr => 100 - posOf b wr)
  case atStart =>
    refine ⟨n, [], w.heap.size, 16, rfl, ?_, ?_, gb_alloc (gb_refl _ _) _, Nat.le_refl _, hn, by simp, by simp [prep_nil]⟩
    · rw [Below.heap_alloc _ _ _ hbl]; exact hb
    · exact World.ownsRow_made w z16 16 (Nat.le_refl _) (by decide) (by decide)
  case round =>
    obtain ⟨m, vs, g, cap, rfl, hm, hown, hg, h1, h2, h3, h4⟩ := hrel
    have H4 : Hid (valP 16 (s.data.toList.drop n) = prep vs (valP (16 - vs.length) (s.data.toList.drop m))) := h4
    clear h4 hmk
    by_cases hq : ∃ h : m < s.size, (s[m]'h).toNat = 34
    · obtain ⟨hlt, hq⟩ := hq
      have X : ((s[m].toNat : Int) != 34) = false := by simp [hq]
      have HE : Hid (valP (16 - vs.length) (s.data.toList.drop m) = (some [], s.data.toList.drop (m + 1))) := by
        rw [drop_cons s m hlt]; exact valP_quote _ _ _ hq
      clear hq
      go_wp2_with fail
      refine (take_yes b s m _ _ hm hlt hs X).mono ?_
      rintro e w1 ⟨rfl, q1, q2⟩
      have hown1 : w1.ownsRow w.heap.size 5 1 (.slice (some ⟨g, 0, none⟩) vs.length cap) vs.length (bcells vs) := hown.kept q2 (Or.inr (by
        have := hown.lt g rfl; intro e; simp [Value.ownBlock] at e; omega))
      have hcv : (convert 47 9 (.slice (some ⟨g, 0, none⟩) vs.length cap)).run Try.prog w1 = .ok (.string ⟨vs.toArray⟩) w1 :=
        run_convert_bytes_back w1 47 9 5 ⟨g, 0, none⟩ cap vs Try.underlying47 Try.underlying5 Try.underlying9 (fun j hj => by
          have := hown1.cells (g := g) rfl j (.int .u8 (vs[j].toNat : Int)) (by simp [bcells, hj])
          exact this)
      clear hown hown1
      go_wp2
      go_ret2
      refine ⟨m + 1, some vs, by omega, by omega, ?_, rfl, q1, gb_trans hg q2⟩
      rw [H4.out, HE.out]; simp [prep]
    · have hq' : ∀ h : m < s.size, ((s[m]'h).toNat : Int) ≠ 34 := fun h e => hq ⟨h, by omega⟩
      have hh := head_drop s m 34 (fun h e => hq ⟨h, e⟩)
      have HQ : Hid (∀ h : m < s.size, ((s[m]'h).toNat : Int) ≠ 34) := hq'
      have HH : Hid (∀ c ∈ (s.data.toList.drop m).head?, c.toNat ≠ 34) := hh
      clear hq hq' hh
      by_cases h16 : vs.length = 16
      · have X : ((vs.length : Int) == 16) = true := by simp [h16]
        have HL : Hid (vs.length = 16) := h16
        clear h16
        go_wp2_with fail
        refine (take_not b s m _ _ hm h2 HQ.out).mono ?_
        rintro e w1 ⟨rfl, q, rfl⟩
        go_wp2
        go_ret2
        refine ⟨m, none, h1, h2, ?_, rfl, hm, gb_d hg⟩
        rw [H4.out, HL.out, valP_full _ HH.out]; rfl
      · have X : ((vs.length : Int) == 16) = false := by simp; omega
        go_wp2_with fail
        refine (take_not b s m _ _ hm h2 HQ.out).mono ?_
        rintro e w1 ⟨rfl, q, rfl⟩
        go_wp2_with fail
        refine (valueByte_any b s m _ (by exact hm) h2 hs).mono ?_
        rintro e w1 ⟨m', o, a0, a1, a2, a3, rfl, a4, a5⟩
        have HA : Hid (vbP (s.data.toList.drop m) = (o, s.data.toList.drop m')) := a3
        have HK : Hid (16 - vs.length = (15 - vs.length) + 1) := by show _ = _; omega
        clear a3
        cases o with
        | none =>
          go_wp2
          go_ret2
          refine ⟨m', none, by omega, a2, ?_, rfl, a4, gb_trans (gb_d hg) a5⟩
          rw [H4.out, HK.out, valP_none _ _ _ HH.out HA.out]; rfl
        | some x =>
          simp only [Option.getD_some, Option.isSome_some] at a1 ⊢
          have a1' := a1 trivial
          have hown1 : w1.ownsRow w.heap.size 5 1 (.slice (some ⟨g, 0, none⟩) vs.length cap) vs.length (bcells vs) := World.ownsRow.kept (w := wr.drewN q) hown a5 (Or.inr (by
            have := hown.lt g rfl; intro e; simp [Value.ownBlock] at e; omega))
          have hsz : w.heap.size ≤ w1.heap.size := Nat.le_trans hg.size a5.size
          clear a1 hown
          go_wp2_with (at_builtin; refine wpList_append_own _ rfl _ _ 47 rfl w.heap.size 5 i0 (.int .u8 0) 1 1 Try.underlying47 HI.out.1 HI.out.2.1 HI.out.2.2.1 HI.out.2.2.2 rfl (by decide) _ _ _ rfl (hown1.alloc _) ⟨w1.heap.size, 0, none⟩ 1 1 [.int .u8 (x.toNat : Int)] rfl rfl (cell_one_new _ _ _) ?c2 ?c3 ?c4 ?c5 ?_)
          case c2 => intro u hu; simp at hu; subst hu; rfl
          case c3 => unfold maxLen; omega
          case c4 => omega
          case c5 => simp; omega
          intro v' w2 hown2 hgr _
          have hgr' : w1.grownBy w2 (some g) := ⟨hgr.os, hgr.tape, hgr.output, by have := hgr.size; simp at this; omega, fun k hk hne => by
            rw [hgr.block k (by simp; omega) hne, Below.heap_alloc _ _ _ hk]⟩
          have hgw := (hown1.lt g rfl).1
          clear hgr
          go_wp2
          go_roundw
          case rel =>
            have hlen : (vs ++ [x]).length = vs.length + 1 := by simp
            have hcs : bcells (vs ++ [x]) = bcells vs ++ [.int .u8 (x.toNat : Int)] := by simp [bcells]
            rcases hown2.2 with ⟨_, h0⟩ | ⟨g', cap', cur', hv', _⟩
            · omega
            · refine ⟨m', vs ++ [x], g', cap', by rw [hlen]; exact hv', ?_, by rw [hlen, hcs]; exact hown2, gb_row (gb_trans (gb_d hg) a5) hgr' (fun j hj => by simp at hj; omega), by omega, a2, by omega, ?_⟩
              · rw [hgr'.block b (by have := hg.size; have := a5.size; simp at this; omega) (by intro e; simp at e; omega)]; exact a4
              · rw [H4.out, HK.out, valP_some _ _ _ _ HH.out HA.out, prep_prep, hlen, show 16 - (vs.length + 1) = 15 - vs.length from by omega]
          case measure =>
            rw [posOf_rdr hm]
            have : w2.heap[b]? = some (rdr s m') := by
              rw [hgr'.block b (by have := hg.size; have := a5.size; simp at this; omega) (by intro e; simp at e; omega)]; exact a4
            rw [posOf_rdr this]; omega

end Go.Proofs.Ytcfdemhokbddiaa
