/-
  The plain form is written: a value's byte, a label, a series.
-/
import Derived.Test.YtcfdemhokbddiaaGreatDoorQL

namespace Go.Proofs.YtcfdemhokbddiaaGreatDoor
open Go.RowKit

/-- A value's byte as the plain form writes it. -/
def escB (c : UInt8) : List UInt8 := if c.toNat = 34 ∨ c.toNat = 92 then [92, c] else if c.toNat = 10 then [92, 110] else [c]
theorem escB_len (c : UInt8) : (escB c).length ≤ 2 := by unfold escB; split <;> (try split) <;> simp

set_option maxHeartbeats 400000 in
theorem wvb_any (B b : Nat) (bs : List UInt8) (c : UInt8) (w : World) (h : Bld B b bs w) (hl : bs.length ≤ 900) :
    Calls Tryz.prog 114 #[.pointer (some ⟨b, 0, none⟩), .int .u8 (c.toNat : Int)] w fun e w' => e = .returned (.tuple #[]) ∧ Bld B b (bs ++ escB c) w' ∧ Kp B b w w' := by
  by_cases h1 : c.toNat = 34 ∨ c.toNat = 92
  · have HE : Hid (escB c = [92, c]) := by show _ = _; unfold escB; rw [if_pos h1]
    have X : ∀ w1, Kp B b w w1 → Bld B b (bs ++ [92]) w1 → Calls Tryz.prog 76 #[.pointer (some ⟨b, 0, none⟩), .int .u8 (c.toNat : Int)] w1 fun e w' => e = .returned .nilIface ∧ Bld B b (bs ++ escB c) w' ∧ Kp B b w w' := fun w1 k1 b1 =>
      (writeByte_any B b (bs ++ [92]) c w1 b1 (by simp; omega)).mono fun e w' ⟨h1, h2, h3⟩ => ⟨h1, by rw [HE.out]; simpa using h2, k1.trans h3⟩
    have HX : Hid (∀ w1, _) := X
    clear X
    have h92 : ((92 : UInt8).toNat : Int) = 92 := by decide
    have W1 := writeByte_any B b bs 92 w h (by omega)
    rw [h92] at W1
    have HW : Hid (Calls Tryz.prog 76 #[.pointer (some ⟨b, 0, none⟩), .int .u8 92] w _) := W1
    clear W1 h92
    by_cases h2 : c.toNat = 34
    · have e34 : ((c.toNat : Int) == 34) = true := by simp [h2]
      clear h1 h2
      go_enter Tryz.func114, Tryz.ntmps114
      go_wp2_with fail
      refine HW.out.mono ?_
      rintro e w1 ⟨rfl, b1, k1⟩
      go_wp2_with fail
      refine (HX.out w1 k1 b1).mono ?_
      rintro e w2 ⟨rfl, b2, k2⟩
      go_wp2
      go_end0
      exact ⟨rfl, b2, k2⟩
    · have e34 : ((c.toNat : Int) == 34) = false := by simp; omega
      have e92 : ((c.toNat : Int) == 92) = true := by simp; omega
      clear h1 h2
      go_enter Tryz.func114, Tryz.ntmps114
      go_wp2_with fail
      refine HW.out.mono ?_
      rintro e w1 ⟨rfl, b1, k1⟩
      go_wp2_with fail
      refine (HX.out w1 k1 b1).mono ?_
      rintro e w2 ⟨rfl, b2, k2⟩
      go_wp2
      go_end0
      exact ⟨rfl, b2, k2⟩
  · have e34 : ((c.toNat : Int) == 34) = false := by simp; omega
    have e92 : ((c.toNat : Int) == 92) = false := by simp; omega
    by_cases h2 : c.toNat = 10
    · have HE : Hid (escB c = [92, 110]) := by show _ = _; unfold escB; rw [if_neg h1, if_pos h2]
      have e10 : ((c.toNat : Int) == 10) = true := by simp [h2]
      clear h1 h2
      go_enter Tryz.func114, Tryz.ntmps114
      go_wp2_with fail
      refine (writeString_any B b bs _ _ h (by show bs.length + 2 ≤ 1000; omega)).mono ?_
      rintro e w1 ⟨rfl, b1, k1⟩
      go_wp2
      go_end0
      exact ⟨rfl, by rw [HE.out]; exact b1, k1⟩
    · have HE : Hid (escB c = [c]) := by show _ = _; unfold escB; rw [if_neg h1, if_neg h2]
      have e10 : ((c.toNat : Int) == 10) = false := by simp; omega
      clear h1 h2
      go_enter Tryz.func114, Tryz.ntmps114
      go_wp2_with fail
      refine (writeByte_any B b bs c _ h (by omega)).mono ?_
      rintro e w1 ⟨rfl, b1, k1⟩
      go_wp2
      go_end0
      exact ⟨rfl, by rw [HE.out]; exact b1, k1⟩

/-- A label as the plain form writes it. -/
def labB (x : Lab) : List UInt8 := x.name ++ [61, 34] ++ x.val.flatMap escB ++ [34]
theorem flatMap_len (l : List UInt8) : (l.flatMap escB).length ≤ 2 * l.length := by
  induction l with
  | nil => simp
  | cons c l ih => have := escB_len c; simp at ih ⊢; omega
theorem labB_len (x : Lab) (h1 : x.name.length ≤ 12) (h2 : x.val.length ≤ 16) : (labB x).length ≤ 50 := by
  have := flatMap_len x.val
  simp [labB] at this ⊢; omega
theorem B_data (l : List UInt8) : (YtcfdemhokbddiaaGreatDoor.B l).data.toList = l := rfl
theorem B_size (l : List UInt8) : (YtcfdemhokbddiaaGreatDoor.B l).size = l.length := by simp [YtcfdemhokbddiaaGreatDoor.B, ByteArray.size]

set_option maxHeartbeats 400000 in
theorem writeLabel_any (B b : Nat) (bs : List UInt8) (x : Lab) (w : World) (h : Bld B b bs w) (hl : bs.length ≤ 500) (h1 : x.name.length ≤ 12) (h2 : x.val.length ≤ 16) :
    Calls Tryz.prog 77 #[.pointer (some ⟨b, 0, none⟩), .agg #[.string (YtcfdemhokbddiaaGreatDoor.B x.name), .string (YtcfdemhokbddiaaGreatDoor.B x.val), .int .i64 (x.at_ : Int)]] w fun e w' => e = .returned (.tuple #[]) ∧ Bld B b (bs ++ labB x) w' ∧ Kp B b w w' := by
  have hb0 := h.lt
  have hB0 := h.le
  have hbox := alloc_new w (.cells #[.string (YtcfdemhokbddiaaGreatDoor.B x.name), .string (YtcfdemhokbddiaaGreatDoor.B x.val), .int .i64 (x.at_ : Int)] 130) w.heap.size rfl
  have k0 : Kp B b w (w.alloc (.cells #[.string (YtcfdemhokbddiaaGreatDoor.B x.name), .string (YtcfdemhokbddiaaGreatDoor.B x.val), .int .i64 (x.at_ : Int)] 130)) := (Kp.refl _ _ _).alloc (by omega) _
  go_enter Tryz.func77, Tryz.ntmps77
  go_wp2_with fail
  refine (writeString_any B b bs _ _ (h.alloc _) (by rw [B_size]; omega)).mono ?_
  rintro e w1 ⟨rfl, b1, k1⟩
  have x1 := k1.keeps hbox (by omega) (by decide)
  have K1 := k0.trans k1
  clear hbox k0 k1 h
  go_wp2_with fail
  refine (writeString_any B b _ _ _ b1 (by rw [List.length_append]; show bs.length + x.name.length + 2 ≤ 1000; omega)).mono ?_
  rintro e w2 ⟨rfl, b2, k2⟩
  have x2 := k2.keeps x1 (by omega) (by decide)
  have K2 := K1.trans k2
  clear x1 k2 b1 K1
  have c1 : w2.cell? ⟨w.heap.size, 1, none⟩ = some (.string (YtcfdemhokbddiaaGreatDoor.B x.val)) := by simp [World.cell?, x2]
  have hsz := B_size x.val
  have HSZ : Hid ((YtcfdemhokbddiaaGreatDoor.B x.val).size = x.val.length) := hsz
  clear hsz
  go_wp2
  go_loopw [14] (fun i wr => ∃ (k : Nat), i = .int .i64 (k : Int) ∧ k ≤ x.val.length ∧ Bld B b (bs ++ x.name ++ [61, 34] ++ (x.val.take k).flatMap escB) wr ∧ Kp B b w wr ∧ wr.heap[w.heap.size]? = some (.cells #[.string (YtcfdemhokbddiaaGreatDoor.B x.name), .string (YtcfdemhokbddiaaGreatDoor.B x.val), .int .i64 (x.at_ : Int)] 130))
    (fun i _ => 16 - (intOf i).toNat)
  case atStart => exact ⟨0, rfl, Nat.zero_le _, by rw [B_data] at b2; simpa using b2, K2, x2⟩
  case round =>
    obtain ⟨k, rfl, hk, hB, hK, hx⟩ := hrel
    clear b2 K2 x2 c1
    have c1 : wr.cell? ⟨w.heap.size, 1, none⟩ = some (.string (YtcfdemhokbddiaaGreatDoor.B x.val)) := by simp [World.cell?, hx]
    by_cases hlt : k < x.val.length
    · have hlt' : (k : Int) < ((YtcfdemhokbddiaaGreatDoor.B x.val).size : Int) := by rw [HSZ.out]; omega
      go_wp2_with fail
      refine (wvb_any B b _ _ _ hB ?_).mono ?_
      · have := flatMap_len (x.val.take k)
        simp at this ⊢; omega
      rintro e w3 ⟨rfl, b3, k3⟩
      have x3 := k3.keeps hx (by omega) (by decide)
      go_wp2
      go_roundw
      case rel =>
        refine ⟨k + 1, by go_num, by omega, ?_, hK.trans k3, x3⟩
        rw [List.take_succ_eq_append_getElem hlt, List.flatMap_append]
        have b3' : Bld B b (bs ++ x.name ++ [61, 34] ++ (x.val.take k).flatMap escB ++ escB (x.val[k])) w3 := b3
        simpa using b3'
      case measure => simp [intOf]; omega
    · have hge : ¬ (k : Int) < ((YtcfdemhokbddiaaGreatDoor.B x.val).size : Int) := by rw [HSZ.out]; omega
      have HEQ : Hid (x.val.take k = x.val) := by show _ = _; exact List.take_of_length_le (by omega)
      have hfl := flatMap_len x.val
      have h34 := writeByte_any B b (bs ++ x.name ++ [61, 34] ++ (x.val.take k).flatMap escB) 34 wr hB (by rw [HEQ.out]; simp at hfl ⊢; omega)
      have H34 : Hid (Calls Tryz.prog 76 #[.pointer (some ⟨b, 0, none⟩), .int .u8 34] wr _) := h34
      clear h34
      go_wp2_with fail
      refine H34.out.mono ?_
      rintro e w3 ⟨rfl, b3, k3⟩
      go_wp2
      go_end0
      refine ⟨rfl, ?_, hK.trans k3⟩
      rw [HEQ.out] at b3
      simpa [labB] using b3

/-- The labels as the plain form writes them, each behind its sign. -/
def outP : UInt8 → List Lab → List UInt8
  | _, [] => []
  | a, x :: ls => a :: labB x ++ outP 44 ls
def plainB (nm : List UInt8) (ls : List Lab) : List UInt8 := nm ++ outP 123 ls ++ (if ls.isEmpty then [] else [125])

set_option maxHeartbeats 1000000 in
theorem plainS_any (nm : List UInt8) (va : Option Addr) (vc base : Nat) (ls : List Lab) (w : World) (hown : w.ownsRow base 130 3 (.slice va ls.length vc) ls.length (labCells ls)) (hl : ls.length ≤ 3) (hn : nm.length ≤ 12)
    (hx : ∀ x ∈ ls, x.name.length ≤ 12 ∧ x.val.length ≤ 16) :
    Calls Tryz.prog 40 #[.agg #[.string (YtcfdemhokbddiaaGreatDoor.B nm), .slice va ls.length vc]] w fun e w' => e = .returned (.string (YtcfdemhokbddiaaGreatDoor.B (plainB nm ls))) ∧ Below w.heap.size w w' := by
  have hX : Hid (∀ x ∈ ls, x.name.length ≤ 12 ∧ x.val.length ≤ 16) := hx
  clear hx
  obtain ⟨W0, hW0⟩ : ∃ W0, W0 = w.alloc (.cells #[.string (YtcfdemhokbddiaaGreatDoor.B nm), .slice va ls.length vc] 81) := ⟨_, rfl⟩
  have z0 : W0.heap.size = w.heap.size + 1 := by rw [hW0]; simp
  have bx0 : W0.heap[w.heap.size]? = some (.cells #[.string (YtcfdemhokbddiaaGreatDoor.B nm), .slice va ls.length vc] 81) := by rw [hW0]; exact alloc_new _ _ _ rfl
  have B0 : Below w.heap.size w W0 := by rw [hW0]; exact (Below.refl _ _).alloc (Nat.le_refl _) _
  have bl0 : Bld (w.heap.size + 1) (w.heap.size + 1) [] (W0.alloc (.cells #[.pointer none, .slice none 0 0] 135)) := by
    have := Lib.fresh_isBuilder 135 5 W0
    rw [z0] at this; exact this
  have k0 : Below (w.heap.size + 1) W0 (W0.alloc (.cells #[.pointer none, .slice none 0 0] 135)) := (Below.refl _ _).alloc (by omega) _
  have HW0 : Hid (W0 = w.alloc (.cells #[.string (YtcfdemhokbddiaaGreatDoor.B nm), .slice va ls.length vc] 81)) := hW0
  rw [hW0] at bl0 k0
  clear hW0
  go_enter Tryz.func40, Tryz.ntmps40
  go_wp2_with fail
  refine (writeString_any (w.heap.size + 1) (w.heap.size + 1) [] (YtcfdemhokbddiaaGreatDoor.B nm) _ bl0 (by rw [B_size]; simp; omega)).mono ?_
  rintro e w1 ⟨rfl, b1, k1⟩
  rw [B_data, List.nil_append] at b1
  have K1 : Below (w.heap.size + 1) W0 w1 := by rw [HW0.out]; exact k0.trans k1.1
  clear bl0 k0 k1
  have bx1 : w1.heap[w.heap.size]? = some (.cells #[.string (YtcfdemhokbddiaaGreatDoor.B nm), .slice va ls.length vc] 81) := by rw [K1.block _ (by omega)]; exact bx0
  have c1 : w1.cell? ⟨w.heap.size, 1, none⟩ = some (.slice va ls.length vc) := by simp [World.cell?, bx1]
  go_wp2
  go_loopw [4, 13] (fun s i wr => ∃ (k : Nat) (a : UInt8) (acc : List UInt8), s = .int .u8 (a.toNat : Int) ∧ i = .int .i64 (k : Int) ∧ k ≤ ls.length ∧ Hid (acc ++ outP a (ls.drop k) = nm ++ outP 123 ls) ∧ acc.length ≤ 12 + 60 * k ∧
      Bld (w.heap.size + 1) (w.heap.size + 1) acc wr ∧ Below (w.heap.size + 1) W0 wr)
    (fun _ i _ => 3 - (intOf i).toNat)
  case atStart => exact ⟨0, 123, nm, rfl, rfl, Nat.zero_le _, rfl, by omega, b1, K1⟩
  case round =>
    obtain ⟨k, a, acc, rfl, rfl, hk, HA, hal, hB, hK⟩ := hrel
    clear b1 K1 bx1 c1
    have bx1 : wr.heap[w.heap.size]? = some (.cells #[.string (YtcfdemhokbddiaaGreatDoor.B nm), .slice va ls.length vc] 81) := by rw [hK.block _ (by omega)]; exact bx0
    have c1 : wr.cell? ⟨w.heap.size, 1, none⟩ = some (.slice va ls.length vc) := by simp [World.cell?, bx1]
    have hg : w.grownBy wr none := ⟨hK.os.trans B0.os, hK.tape.trans B0.tape, hK.output.trans B0.output, Nat.le_trans B0.size hK.size, fun j hj _ => by rw [hK.block j (by omega)]; exact B0.block j hj⟩
    have hbl := hB.lt
    by_cases hlt : k < ls.length
    · obtain ⟨gi, rfl⟩ : ∃ gi, va = some ⟨gi, 0, none⟩ := by
        rcases hown.2 with ⟨_, h0⟩ | ⟨g', cap', cur, h1, _⟩
        · omega
        · simp at h1; exact ⟨g', h1.1⟩
      obtain ⟨d0, d1, d2⟩ := lab_cells hown k hlt
      have e0 := gb_cell hg d0 (by simp)
      have e1 := gb_cell hg d1 (by simp)
      have e2 := gb_cell hg d2 (by simp)
      obtain ⟨x, hx⟩ : ∃ x, x = ls[k] := ⟨_, rfl⟩
      rw [← hx] at e0 e1 e2
      have hb := hX.out x (by rw [hx]; exact List.getElem_mem hlt)
      have HD : Hid (ls.drop k = x :: ls.drop (k + 1)) := by
        show _ = _; rw [hx]; exact List.drop_eq_getElem_cons hlt
      clear d0 d1 d2 hx
      obtain ⟨hb1, hb2⟩ := hb
      go_wp2_with fail
      refine (writeByte_any _ _ acc a _ (hB.alloc _) (by omega)).mono ?_
      rintro e w2 ⟨rfl, b2, k2⟩
      have xb := k2.keeps (alloc_new wr (.cells #[.string (YtcfdemhokbddiaaGreatDoor.B x.name), .string (YtcfdemhokbddiaaGreatDoor.B x.val), .int .i64 (x.at_ : Int)] 130) wr.heap.size rfl) (by omega) (by decide)
      have y0 : w2.cell? ⟨wr.heap.size, 0, none⟩ = some (.string (YtcfdemhokbddiaaGreatDoor.B x.name)) := by simp [World.cell?, xb]
      have y1 : w2.cell? ⟨wr.heap.size, 1, none⟩ = some (.string (YtcfdemhokbddiaaGreatDoor.B x.val)) := by simp [World.cell?, xb]
      have y2 : w2.cell? ⟨wr.heap.size, 2, none⟩ = some (.int .i64 (x.at_ : Int)) := by simp [World.cell?, xb]
      have K2 : Below (w.heap.size + 1) W0 w2 := (hK.alloc (by omega) _).trans k2.1
      clear xb k2
      go_wp2_with fail
      refine (writeLabel_any _ _ (acc ++ [a]) x _ b2 (by simp; omega) hb1 hb2).mono ?_
      rintro e w3 ⟨rfl, b3, k3⟩
      have hlb := labB_len x hb1 hb2
      have K3 := K2.trans k3.1
      clear K2 k3
      go_wp2
      go_roundw
      case rel =>
        refine ⟨k + 1, 44, acc ++ [a] ++ labB x, rfl, by go_num, by omega, ?_, by simp; omega, b3, K3⟩
        show _ = _
        rw [← HA.out, HD.out]; simp [outP]
      case measure => simp [intOf]; omega
    · have HEQ : Hid (acc = nm ++ outP 123 ls) := by
        show _ = _; rw [← HA.out, List.drop_of_length_le (by omega)]; simp [outP]
      have hW : Below w.heap.size w wr := B0.trans (hK.mono (by omega))
      by_cases hpos : 0 < ls.length
      · have HP : Hid (plainB nm ls = acc ++ [125]) := by
          show _ = _; rw [HEQ.out]; unfold plainB
          have : ls.isEmpty = false := by cases ls with | nil => simp at hpos | cons y ys => rfl
          rw [this]; simp
        have hpos' : (0 : Int) < (ls.length : Int) := by omega
        have h125 := writeByte_any (w.heap.size + 1) (w.heap.size + 1) acc 125 wr hB (by omega)
        have H125 : Hid (Calls Tryz.prog 76 #[.pointer (some ⟨w.heap.size + 1, 0, none⟩), .int .u8 125] wr _) := h125
        clear h125
        go_wp2_with fail
        refine H125.out.mono ?_
        rintro e w2 ⟨rfl, b2, k2⟩
        go_wp2_with fail
        refine (string_any _ _ _ _ b2).mono ?_
        rintro e w3 ⟨rfl, k3⟩
        go_wp2
        go_ret
        exact ⟨by rw [HP.out]; rfl, (hW.trans (k2.1.mono (by omega))).trans (k3.mono (by omega))⟩
      · have HP : Hid (plainB nm ls = acc) := by
          show _ = _; rw [HEQ.out]; unfold plainB
          have : ls = [] := List.length_eq_zero_iff.1 (by omega)
          rw [this]; simp
        have hpos' : ¬ (0 : Int) < (ls.length : Int) := by omega
        go_wp2_with fail
        refine (string_any _ _ acc _ hB).mono ?_
        rintro e w3 ⟨rfl, k3⟩
        go_wp2
        go_ret
        exact ⟨by rw [HP.out]; rfl, hW.trans (k3.mono (by omega))⟩

end Go.Proofs.YtcfdemhokbddiaaGreatDoor

/-
  tallyman.Plain: the plain form, or the error and its place.
-/
namespace Go.Proofs.YtcfdemhokbddiaaGreatDoor
open Go.RowKit

theorem nameLen_12 (k : Nat) (l : List UInt8) (h : k ≤ 12) : k + nameLen k l ≤ 12 := by
  induction l generalizing k with
  | nil => simp [nameLen]; omega
  | cons c l ih =>
    unfold nameLen
    split
    · rename_i hk; have := ih (k + 1) (by omega); omega
    · omega
theorem valP_len (r : Nat) (l v l' : List UInt8) (h : valP r l = (some v, l')) : v.length ≤ r := by
  induction r generalizing l v l' with
  | zero =>
    cases l with
    | nil => simp [valP] at h
    | cons c l =>
      unfold valP at h
      split at h
      · simp at h; rw [h.1]; simp
      · simp at h
  | succ r ih =>
    cases l with
    | nil => simp [valP] at h
    | cons c l =>
      unfold valP at h
      split at h
      · simp at h; rw [h.1]; simp
      · split at h
        · simp at h
        · split at h
          · simp at h
          · rename_i hv; simp at h; have := ih _ _ _ hv; rw [← h.1]; simp; omega
def Good (x : Lab) : Prop := x.name.length ≤ 12 ∧ x.val.length ≤ 16
theorem labelP_good (l l' : List UInt8) (p : List UInt8 × List UInt8) (h : labelP l = (some p, l')) : p.1.length ≤ 12 ∧ p.2.length ≤ 16 := by
  unfold labelP at h
  split at h
  · simp at h
  · split at h
    · simp at h
    · split at h
      · simp at h
      · split at h
        · simp at h
        · rename_i hv
          simp at h
          rw [← h.1]
          have := nameLen_12 0 l (by omega)
          exact ⟨by simp; omega, valP_len _ _ _ _ hv⟩
theorem closeP_good (x : Lab) (l l' : List UInt8) (ls : List Lab) (hx : Good x) (h : closeP x l = (some ls, l')) : ∀ y ∈ ls, Good y := by
  unfold closeP at h
  split at h
  · simp at h
  · simp at h; rw [← h.1]; simpa using hx
theorem labelsP_good (N r : Nat) (l l' : List UInt8) (ls : List Lab) (h : labelsP N r l = (some ls, l')) : ∀ y ∈ ls, Good y := by
  induction r generalizing l l' ls with
  | zero =>
    unfold labelsP at h
    split at h
    · simp at h
    · rename_i hp; refine closeP_good _ _ _ _ ?_ h; exact labelP_good _ _ _ hp
  | succ r ih =>
    unfold labelsP at h
    split at h
    · simp at h
    · rename_i hp
      simp only at h
      split at h
      · refine closeP_good _ _ _ _ ?_ h; exact labelP_good _ _ _ hp
      · split at h
        · simp at h
        · rename_i hq
          simp at h
          rw [← h.1]
          intro y hy
          simp at hy
          rcases hy with rfl | hy
          · exact labelP_good _ _ _ hp
          · exact ih _ _ _ hq y hy
theorem labelsP_len (N r : Nat) (l l' : List UInt8) (ls : List Lab) (h : labelsP N r l = (some ls, l')) : ls.length ≤ r + 1 := by
  have hc : ∀ (x : Lab) (l l' : List UInt8) (ls : List Lab), closeP x l = (some ls, l') → ls.length = 1 := by
    intro x l l' ls h
    unfold closeP at h
    split at h
    · simp at h
    · simp at h; rw [← h.1]; rfl
  induction r generalizing l l' ls with
  | zero =>
    unfold labelsP at h
    split at h
    · simp at h
    · have := hc _ _ _ _ h; omega
  | succ r ih =>
    unfold labelsP at h
    split at h
    · simp at h
    · simp only at h
      split at h
      · have := hc _ _ _ _ h; omega
      · split at h
        · simp at h
        · rename_i hq
          simp at h
          have := ih _ _ _ hq
          rw [← h.1]; simp; omega
theorem seriesP_good (N : Nat) (l l' : List UInt8) (p : List UInt8 × List Lab) (h : seriesP N l = (some p, l')) : p.1.length ≤ 12 ∧ (∀ y ∈ p.2, Good y) ∧ p.2.length ≤ 3 := by
  have hn := nameLen_12 0 l (by omega)
  unfold seriesP at h
  split at h
  · simp at h
  · split at h
    · simp at h; rw [← h.1]; exact ⟨by simp; omega, by simp, by simp⟩
    · split at h
      · simp at h
      · rename_i hb
        split at h
        · simp at h
          rw [← h.1]
          unfold bracesP at hb
          split at hb
          · simp at hb
          · exact ⟨by simp; omega, labelsP_good _ _ _ _ _ hb, labelsP_len _ _ _ _ _ hb⟩
        · simp at h
theorem sortP_mem (ls acc r : List Lab) (k j : Nat) (h : sortP acc k ls = (some r, j)) (P : Lab → Prop) (h1 : ∀ y ∈ acc, P y) (h2 : ∀ y ∈ ls, P y) : ∀ y ∈ r, P y := by
  induction ls generalizing acc k with
  | nil => simp [sortP] at h; rw [← h.1]; exact h1
  | cons x ls ih =>
    unfold sortP at h
    split at h
    · simp at h
    · refine ih _ _ h ?_ (fun y hy => h2 y (by simp [hy]))
      intro y hy
      simp only [insAt, List.mem_append, List.mem_cons] at hy
      rcases hy with hy | rfl | hy
      · exact h1 y (List.mem_of_mem_take hy)
      · exact h2 y (by simp)
      · exact h1 y (List.mem_of_mem_drop hy)
theorem readP_good (l : List UInt8) : (readP l).name.length ≤ 12 ∧ (∀ y ∈ (readP l).labs, Good y) ∧ (readP l).labs.length ≤ 3 ∧ (readP l).err ≤ 3 := by
  unfold readP
  split
  · simp
  · split
    · simp
    · rename_i hs
      have hg := seriesP_good _ _ _ _ hs
      split
      · simp
      · rename_i hq
        have h3 := sortP_some _ _ _ _ _ hq
        exact ⟨hg.1, sortP_mem _ _ _ _ _ hq Good (by simp) hg.2.1, by have := h3.2; have := hg.2.2; simp at *; omega, by simp⟩

/-- What Plain answers: the text, the error, the place. -/
def plainP (l : List UInt8) : List UInt8 := if (readP l).err = 0 then plainB (readP l).name (readP l).labs else []

set_option maxHeartbeats 400000 in
theorem plain_any (s : ByteArray) (w : World) :
    Calls Tryz.prog 26 #[.string s] w fun e w' => e = .returned (.tuple #[.string (YtcfdemhokbddiaaGreatDoor.B (plainP s.data.toList)), .int .i64 ((readP s.data.toList).err : Int), .int .i64 (if (readP s.data.toList).err = 0 then (0 : Nat) else (readP s.data.toList).at_ : Nat)]) ∧ Below w.heap.size w w' := by
  have hg := readP_good s.data.toList
  have hr := read_any s w
  unfold plainP
  generalize readP s.data.toList = T at *
  obtain ⟨err, at_, nm, ls⟩ := T
  simp only at *
  have HR : Hid (Calls Tryz.prog 39 #[.string s] w _) := hr
  clear hr
  go_enter Tryz.func26, Tryz.ntmps26
  go_wp2_with fail
  refine HR.out.mono ?_
  rintro e w1 ⟨v, rfl, own, g1⟩
  obtain ⟨va, vc, rfl⟩ := own_shape own
  have hB1 : Below w.heap.size w w1 := ⟨g1.os, g1.tape, g1.output, g1.size, fun k hk => g1.block k hk (by simp)⟩
  by_cases h0 : err = 0
  · subst h0
    go_wp2_with fail
    refine (plainS_any nm va vc _ ls _ (own.alloc _) hg.2.2.1 hg.1 hg.2.1).mono ?_
    rintro e w2 ⟨rfl, k2⟩
    go_wp2
    go_ret3
    exact ⟨rfl, (hB1.alloc g1.size _).trans (k2.mono (by simp; have := g1.size; omega))⟩
  · have h0' : ((err : Int) != 0) = true := by simp; omega
    go_wp2
    go_ret3
    exact ⟨by simp [YtcfdemhokbddiaaGreatDoor.B], hB1.alloc g1.size _⟩

end Go.Proofs.YtcfdemhokbddiaaGreatDoor
