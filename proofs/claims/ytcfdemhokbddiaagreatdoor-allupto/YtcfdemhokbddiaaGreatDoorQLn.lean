/-
  The law's World.own, walked.
-/
import Derived.Test.YtcfdemhokbddiaaGreatDoorQLk

namespace Go.Proofs.YtcfdemhokbddiaaGreatDoor
open Go.RowKit

structure OwnOut (wb : Nat) (lv sv kv l : Value) (V : List Value) (ks : List Int) (K N : Nat) (w w' : World) (sv' kv' : Value) (us : List Value) : Prop where
  blk : w'.heap[wb]? = some (.cells #[lv, sv', kv'] 62)
  srow : w'.ownsRow 0 32 1 sv' (N + 4) (V ++ l :: us)
  krow : w'.ownsRow 0 3 1 kv' (N + 4) (ints (ks ++ [(K : Int), (K : Int), (K : Int), (K : Int)]))
  ulen : us.length = 3
  marks : ∀ u ∈ l :: us, MarkAt w' u (markT K) ∧ ∀ b ∈ u.ownBlock.toList, (b ∈ l.ownBlock.toList ∨ w.heap.size ≤ b) ∧ b < w'.heap.size
  sown : ∀ b ∈ sv'.ownBlock.toList, (b ∈ sv.ownBlock.toList ∨ w.heap.size ≤ b) ∧ b ≠ wb ∧ b ∉ kv'.ownBlock.toList ∧ ∀ u ∈ l :: us, b ∉ u.ownBlock.toList
  kown : ∀ b ∈ kv'.ownBlock.toList, (b ∈ kv.ownBlock.toList ∨ w.heap.size ≤ b) ∧ b ≠ wb ∧ ∀ u ∈ l :: us, b ∉ u.ownBlock.toList
  kept : Kept (wb :: (l.ownBlock.toList ++ (sv.ownBlock.toList ++ kv.ownBlock.toList))) w w'

theorem Tryz.info32 : (Tryz.prog.info? 32).map (fun i => (i.zero, i.size, i.bytes)) = some (some (.slice none 0 0), 1, 24) := by kernel_rfl

set_option maxRecDepth 100000 in
set_option maxHeartbeats 8000000 in
theorem own_any (wb : Nat) (lv sv kv l : Value) (V : List Value) (ks : List Int) (K N n s : Nat) (ls : List (List UInt8)) (w : World) (hlv : ∃ a m c, lv = .slice a m c)
    (hb : w.heap[wb]? = some (.cells #[lv, sv, kv] 62)) (hN : N = 4 * K) (hK : K ≤ 100000000) (hs : w.ownsRow 0 32 1 sv N V) (hk : w.ownsRow 0 3 1 kv N (ints ks)) (hl : w.ownsRow s 9 1 l n (strs ls)) (hs0 : s ≤ w.heap.size) (hn : n ≤ 20)
    (d1 : ∀ b ∈ sv.ownBlock.toList, b ≠ wb ∧ b ∉ kv.ownBlock.toList ∧ b ∉ l.ownBlock.toList) (d2 : ∀ b ∈ kv.ownBlock.toList, b ≠ wb ∧ b ∉ l.ownBlock.toList) (d3 : ∀ b ∈ l.ownBlock.toList, b ≠ wb) (ht : Tab w) :
    Calls Tryz.prog 55 #[.pointer (some ⟨wb, 0, none⟩), l] w fun e w' => e = .returned (.tuple #[]) ∧ ∃ sv' kv' us, OwnOut wb lv sv kv l V ks K N w w' sv' kv' us := by
  obtain ⟨xa, xm, xc, rfl⟩ := hlv
  obtain ⟨la, lc, hle, _, hla⟩ := own_shape1 hl
  obtain ⟨sa, sc, hse, _, _⟩ := own_shape1 hs
  obtain ⟨ka, kc, hke, _, _⟩ := own_shape1 hk
  have HLE : Hid (l = .slice la n lc) := hle
  have HSE : Hid (sv = .slice sa N sc) := hse
  have HKE : Hid (kv = .slice ka N kc) := hke
  have HL : Hid (w.ownsRow s 9 1 l n (strs ls)) := hl
  have HS : Hid (w.ownsRow 0 32 1 sv N V) := hs
  have HK' : Hid (w.ownsRow 0 3 1 kv N (ints ks)) := hk
  have HB : Hid (w.heap[wb]? = some (.cells #[.slice xa xm xc, sv, kv] 62)) := hb
  have hD : Hid ((∀ b ∈ sv.ownBlock.toList, b ≠ wb ∧ b ∉ kv.ownBlock.toList ∧ b ∉ l.ownBlock.toList) ∧ (∀ b ∈ kv.ownBlock.toList, b ≠ wb ∧ b ∉ l.ownBlock.toList) ∧ ∀ b ∈ l.ownBlock.toList, b ≠ wb) := ⟨d1, d2, d3⟩
  have hll : ls.length = n := by have := hl.1; simp [strs] at this; omega
  have c1 : w.cell? ⟨wb, 1, none⟩ = some sv := by unfold World.cell?; simp only [hb]; rfl
  have HI : Hid (Calls Tryz.prog 24 #[.int .i64 (K : Int)] w _) := itoa_any (K : Int) (by omega) w ht
  have hml := markT_len K (by omega)
  have a1 : ∀ w, (Op.stringOp .add ⟨#[109, 97, 114, 107]⟩ (B (Lib.itoa (K : Int)))).run Tryz.prog w = .ok (.string (B (markT K))) w := add_lists [109, 97, 114, 107] _ (by simp) (by have := itoa_len (n := (K : Int)) (by omega); omega)
  obtain ⟨mk, hmk⟩ : ∃ mk, markT K = mk := ⟨_, rfl⟩
  have HMK : Hid (markT K = mk) := hmk
  rw [hmk] at a1
  have hq : (N : Int) / 4 = (K : Int) := by omega
  have hNi : N ≤ 400000000 := by omega
  rw [hse] at c1
  rw [hle]
  clear hb hs hk hl d1 d2 d3 hse hke hmk hml ht hN
  go_enter Tryz.func55, Tryz.ntmps55
  go_wp2_with fail
  refine HI.out.mono ?_
  rintro e w1 ⟨rfl, g1⟩
  have HG1 : Hid (w.grownBy w1 none) := g1
  have HLI : Hid (w1.ownsRow s 9 1 l n (strs ls)) := own_frame HL.out fun b hb => g1.block b (own_lt HL.out b hb) (by simp)
  clear g1
  go_wp2_with fail
  go_loopw [6] (fun i wr => ∃ k : Nat, i = .int .i64 (k : Int) ∧ k ≤ n ∧ Hid (wr.ownsRow s 9 1 l n (strs (List.replicate k mk ++ ls.drop k)) ∧ Kept l.ownBlock.toList w1 wr)) (fun i _ => n - (intOf i).toNat)
  case atStart => exact ⟨0, rfl, Nat.zero_le _, by simpa using HLI.out, Kept.refl _ _⟩
  case round =>
    obtain ⟨k, rfl, hk, HR⟩ := hrel
    by_cases hkn : k < n
    · obtain ⟨lb, hlb⟩ : ∃ lb, la = some ⟨lb, 0, none⟩ := by
        rcases hla with ⟨_, h0, _⟩ | ⟨g, h1, _⟩
        · omega
        · exact ⟨g, h1⟩
      have hrow := HR.out.1
      rw [HLE.out, hlb] at hrow
      have hkl : k < (strs (List.replicate k mk ++ ls.drop k)).length := by simp [strs]; omega
      have q0 := own_cells1 hrow rfl k _ (List.getElem?_eq_getElem hkl)
      rw [Addr.add_lit, Nat.zero_add] at q0
      obtain ⟨y, hy⟩ : ∃ y, (strs (List.replicate k mk ++ ls.drop k))[k] = .string y := by
        rw [show (strs (List.replicate k mk ++ ls.drop k))[k] = .string (B ((List.replicate k mk ++ ls.drop k)[k]'(by simp; omega))) by simp [strs]]
        exact ⟨_, rfl⟩
      rw [hy] at q0
      have qf : wr.frozen? ⟨lb, k, none⟩ = false := by
        rcases hrow.2 with ⟨h1, _⟩ | ⟨g', cap, cur, h1, _, h3, _⟩
        · simp at h1
        · simp only [Value.slice.injEq, Option.some.injEq, Addr.mk.injEq, and_true, true_and] at h1
          obtain ⟨rfl, rfl⟩ := h1
          unfold World.frozen?; simp only [h3]; simp
      have HN : Hid ((wr.setCell ⟨lb, k, none⟩ (.string (B mk))).ownsRow s 9 1 l n (strs (List.replicate (k + 1) mk ++ ls.drop (k + 1))) ∧ Kept l.ownBlock.toList w1 (wr.setCell ⟨lb, k, none⟩ (.string (B mk)))) := by
        have e : (strs (List.replicate k mk ++ ls.drop k)).set k (.string (B mk)) = strs (List.replicate (k + 1) mk ++ ls.drop (k + 1)) := by
          unfold strs
          rw [← List.map_set (f := fun s => Value.string (B s)) (a := mk), List.set_append_right _ _ (by simp), List.length_replicate, Nat.sub_self, List.drop_eq_getElem_cons (by omega), List.set_cons_zero]
          rw [List.replicate_succ', List.append_assoc]; rfl
        refine ⟨?_, ?_⟩
        · rw [HLE.out, hlb, ← e]; exact row_put hrow _
        · refine HR.out.2.trans ⟨rfl, rfl, rfl, by simp, fun c hc hn => ?_⟩
          exact set_other (by show c ≠ lb; intro e2; exact hn (by rw [HLE.out, hlb, e2]; simp [Value.ownBlock]))
      have hki : (k : Int) < (n : Int) := by omega
      subst hlb
      clear hrow hy
      go_wp2
      go_roundw
      case rel => exact ⟨k + 1, by go_num, by omega, HN.out⟩
      case measure => simp [intOf]; omega
    · obtain rfl : k = n := by omega
      have hki : ¬ (k : Int) < (k : Int) := by omega
      have HO : Hid (OI w1 l s k mk [] wr) := by
        refine ⟨?_, HR.out.2, by simp⟩
        have := HR.out.1
        rw [List.drop_of_length_le (by omega), List.append_nil] at this
        exact this
      -- BEHIND THE LOOP
      have HA1 : Hid (OI w1 l s k mk [] (wr.alloc (.cells #[.string (B mk)] 9))) := HO.out.gb (gb_alloc (gb_refl _ _) _)
      have hr1 : (wr.alloc (.cells #[.string (B mk)] 9)).ownsRow s 9 1 (.slice la k lc) k (strs (List.replicate k mk)) := by have := HA1.out.row; rw [HLE.out] at this; exact this
      have hi1 : (wr.alloc (.cells #[.string (B mk)] 9)).ownsRow wr.heap.size 9 1 (.slice (some ⟨wr.heap.size, 0, none⟩) 1 1) 1 (strs (List.replicate 1 mk)) := rep_row (alloc_new _ _ _ rfl) (by omega)
      have hz1 : s ≤ (wr.alloc (.cells #[.string (B mk)] 9)).heap.size := Nat.le_trans (Nat.le_trans hs0 HG1.out.size) HA1.out.kept.size
      go_upto_region 7 with (at_builtin; refine wpList_append_mark _ rfl _ _ rfl rfl s wr.heap.size (.slice la k lc) k (strs (List.replicate k mk)) rfl hr1 _ 1 (List.replicate 1 mk) rfl hi1 hz1 (by omega) ?_; intro g w2 own1 g1 or1 r1; obtain ⟨ga, gc, rfl, _, _⟩ := own_shape1 own1)
      have HO2 : Hid (OI w1 l s k mk [.slice ga (k + 1) gc] w2) := by
        have q1 := g1
        have q2 := or1
        have q3 := r1
        rw [← HLE.out] at q1 q2 q3
        exact HA1.out.app (by simp; omega) own1 q1 q2 q3
      clear hr1 hi1 hz1 own1 g1 or1 r1 HA1
      have HA2 : Hid (OI w1 l s k mk [.slice ga (k + 1) gc] (w2.alloc (.cells #[.string (B mk), .string (B mk)] 9))) := HO2.out.gb (gb_alloc (gb_refl _ _) _)
      have hr2 : (w2.alloc (.cells #[.string (B mk), .string (B mk)] 9)).ownsRow s 9 1 (.slice la k lc) k (strs (List.replicate k mk)) := by have := HA2.out.row; rw [HLE.out] at this; exact this
      have hi2 : (w2.alloc (.cells #[.string (B mk), .string (B mk)] 9)).ownsRow w2.heap.size 9 1 (.slice (some ⟨w2.heap.size, 0, none⟩) 2 2) 2 (strs (List.replicate 2 mk)) := rep_row (alloc_new _ _ _ rfl) (by omega)
      have hz2 : s ≤ (w2.alloc (.cells #[.string (B mk), .string (B mk)] 9)).heap.size := Nat.le_trans (Nat.le_trans hs0 HG1.out.size) HA2.out.kept.size
      go_upto_region 8 with (at_builtin; refine wpList_append_mark _ rfl _ _ rfl rfl s w2.heap.size (.slice la k lc) k (strs (List.replicate k mk)) rfl hr2 _ 2 (List.replicate 2 mk) rfl hi2 hz2 (by omega) ?_; intro h w3 own2 g2 or2 r2; obtain ⟨ha, hc, rfl, _, _⟩ := own_shape1 own2)
      have HO3 : Hid (OI w1 l s k mk [.slice ga (k + 1) gc, .slice ha (k + 2) hc] w3) := by
        have q1 := g2
        have q2 := or2
        have q3 := r2
        rw [← HLE.out] at q1 q2 q3
        exact HA2.out.app (by simp; omega) own2 q1 q2 q3
      clear hr2 hi2 hz2 own2 g2 or2 r2 HA2
      have HA3 : Hid (OI w1 l s k mk [.slice ga (k + 1) gc, .slice ha (k + 2) hc] (w3.alloc (.cells #[.string (B mk), .string (B mk), .string (B mk)] 9))) := HO3.out.gb (gb_alloc (gb_refl _ _) _)
      have hr3 : (w3.alloc (.cells #[.string (B mk), .string (B mk), .string (B mk)] 9)).ownsRow s 9 1 (.slice la k lc) k (strs (List.replicate k mk)) := by have := HA3.out.row; rw [HLE.out] at this; exact this
      have hi3 : (w3.alloc (.cells #[.string (B mk), .string (B mk), .string (B mk)] 9)).ownsRow w3.heap.size 9 1 (.slice (some ⟨w3.heap.size, 0, none⟩) 3 3) 3 (strs (List.replicate 3 mk)) := rep_row (alloc_new _ _ _ rfl) (by omega)
      have hz3 : s ≤ (w3.alloc (.cells #[.string (B mk), .string (B mk), .string (B mk)] 9)).heap.size := Nat.le_trans (Nat.le_trans hs0 HG1.out.size) HA3.out.kept.size
      go_upto_region 9 with (at_builtin; refine wpList_append_mark _ rfl _ _ rfl rfl s w3.heap.size (.slice la k lc) k (strs (List.replicate k mk)) rfl hr3 _ 3 (List.replicate 3 mk) rfl hi3 hz3 (by omega) ?_; intro j w4 own3 g3 or3 r3; obtain ⟨ja, jc, rfl, _, _⟩ := own_shape1 own3)
      have HO4 : Hid (OI w1 l s k mk [.slice ga (k + 1) gc, .slice ha (k + 2) hc, .slice ja (k + 3) jc] w4) := by
        have q1 := g3
        have q2 := or3
        have q3 := r3
        rw [← HLE.out] at q1 q2 q3
        exact HA3.out.app (by simp; omega) own3 q1 q2 q3
      clear hr3 hi3 hz3 own3 g3 or3 r3 HA3
      obtain ⟨i32, hi32, hz0, hz1, hz2⟩ := info_parts Tryz.info32
      obtain ⟨i3, hi3, hy0, hy1, hy2⟩ := info_parts Tryz.info3
      have HIS : Hid (Tryz.prog.info? 32 = some i32 ∧ i32.zero = some (.slice none 0 0) ∧ i32.size = 1 ∧ i32.bytes = 24) := ⟨hi32, hz0, hz1, hz2⟩
      have HII : Hid (Tryz.prog.info? 3 = some i3 ∧ i3.zero = some (.int .i64 0) ∧ i3.size = 1 ∧ i3.bytes = 8) := ⟨hi3, hy0, hy1, hy2⟩
      have HBW : Hid (∀ c, c < w.heap.size → c ∉ l.ownBlock.toList → w4.heap[c]? = w.heap[c]?) := fun c hc hn => (HO4.out.kept.block c (by have := HG1.out.size; omega) hn).trans (HG1.out.block c hc (by simp))
      have hsz4 : w.heap.size ≤ w4.heap.size := Nat.le_trans HG1.out.size HO4.out.kept.size
      have hwbl : wb < w.heap.size := lt_of HB.out
      have HB4 : Hid (w4.heap[wb]? = some (.cells #[.slice xa xm xc, sv, kv] 62)) := (HBW.out wb hwbl (fun hm => hD.out.2.2 wb hm rfl)).trans HB.out
      have HZ : Hid (w4.grownBy (w4.alloc (.cells #[.slice la k lc, .slice ga (k + 1) gc, .slice ha (k + 2) hc, .slice ja (k + 3) jc] 32)) none) := gb_alloc (gb_refl _ _) _
      have HS4 : Hid ((w4.alloc (.cells #[.slice la k lc, .slice ga (k + 1) gc, .slice ha (k + 2) hc, .slice ja (k + 3) jc] 32)).ownsRow 0 32 1 (.slice sa N sc) N V) := by
        have := HS.out
        rw [HSE.out] at this
        refine own_frame this fun c hc => (HZ.out.block c ?_ (by simp)).trans (HBW.out c (own_lt this c hc) ?_)
        · have := own_lt this c hc; omega
        · rw [← HSE.out] at hc; exact (hD.out.1 c hc).2.2
      have hS4 := HS4.out
      have bn : (w4.alloc (.cells #[.slice la k lc, .slice ga (k + 1) gc, .slice ha (k + 2) hc, .slice ja (k + 3) jc] 32)).heap[w4.heap.size]? = some (.cells #[.slice la k lc, .slice ga (k + 1) gc, .slice ha (k + 2) hc, .slice ja (k + 3) jc] 32) := alloc_new _ _ _ rfl
      have e1 : w4.cell? ⟨wb, 1, none⟩ = some (.slice sa N sc) := by unfold World.cell?; simp only [HB4.out, HSE.out]; rfl
      have e1' := gb_cell HZ.out e1 (by simp)
      have z1 : (w4.alloc (.cells #[.slice la k lc, .slice ga (k + 1) gc, .slice ha (k + 2) hc, .slice ja (k + 3) jc] 32)).frozen? ⟨wb, 1, none⟩ = false := gb_froz HZ.out (by omega) (by unfold World.frozen?; simp only [HB4.out]; simp) (by simp)
      have hnb : some wb ≠ (Value.slice sa N sc).ownBlock := fun e => by
        rw [← HSE.out] at e
        exact (hD.out.1 wb (by rw [← e]; simp)).1 rfl
      clear hi32 hz0 hz1 hz2 hi3 hy0 hy1 hy2
      go_upto_region 10 with (at_builtin; refine wpList_append_foot _ rfl _ _ 60 rfl 32 i32 (.slice none 0 0) 1 24 Tryz.underlying60 HIS.out.1 HIS.out.2.1 HIS.out.2.2.1 HIS.out.2.2.2 rfl (by decide) (.slice sa N sc) N V rfl hS4 ⟨w4.heap.size, 0, none⟩ 4 4 (by omega) [.slice la k lc, .slice ga (k + 1) gc, .slice ha (k + 2) hc, .slice ja (k + 3) jc] rfl rfl (cells_blk _ bn) (fun v hv => by simp at hv; rcases hv with rfl | rfl | rfl | rfl <;> rfl) (by unfold maxLen; omega) (by omega) ?_; intro sv' w5 own5 g5 hft5; obtain ⟨sxa, sxc, rfl, _, _⟩ := own_shape1 own5; have e5 := gb_cell g5 e1' hnb; have z5 := gb_froz g5 (by have := HZ.out.size; omega) z1 hnb)
      have H5w : Hid (∀ c, c < w4.heap.size → c ∉ sv.ownBlock.toList → w5.heap[c]? = w4.heap[c]?) := fun c hc hn => (g5.block c (by have := HZ.out.size; omega) (fun e => hn (by rw [HSE.out, ← e]; simp))).trans (HZ.out.block c hc (by simp))
      have hsz5 : w4.heap.size < w5.heap.size := by have := g5.size; simp at this; omega
      have HB5 : Hid (w5.heap[wb]? = some (.cells #[.slice xa xm xc, sv, kv] 62)) := (H5w.out wb (by omega) (fun hm => (hD.out.1 wb hm).1 rfl)).trans HB4.out
      have HB6 : Hid ((w5.setCell ⟨wb, 1, none⟩ (.slice sxa (N + 4) sxc)).heap[wb]? = some (.cells #[.slice xa xm xc, .slice sxa (N + 4) sxc, kv] 62)) := by
        show _ = _
        rw [text_set HB5.out]; rfl
      have HS5 : Hid (w5.ownsRow 0 32 1 (.slice sxa (N + 4) sxc) (N + 4) (V ++ [.slice la k lc, .slice ga (k + 1) gc, .slice ha (k + 2) hc, .slice ja (k + 3) jc])) := own5
      have HF5 : Hid ((Value.slice sxa (N + 4) sxc).ownBlock = sv.ownBlock ∨ (Value.slice sxa (N + 4) sxc).ownBlock = some (w4.heap.size + 1)) := by
        rcases hft5 with h5 | h5
        · left; rw [h5, HSE.out]
        · right; rw [h5]; simp
      have HOS : Hid (w5.os = w4.os ∧ w5.tape = w4.tape ∧ w5.output = w4.output) := ⟨g5.os, g5.tape, g5.output⟩
      clear own5 g5 hft5 e1 e1' z1 hS4 bn hnb e5 z5
      obtain ⟨w6, hw6⟩ : ∃ w6, w5.setCell ⟨wb, 1, none⟩ (.slice sxa (N + 4) sxc) = w6 := ⟨_, rfl⟩
      have HW6 : Hid (w5.setCell ⟨wb, 1, none⟩ (.slice sxa (N + 4) sxc) = w6) := hw6
      rw [hw6] at HB6 ⊢
      have hsz6 : w6.heap.size = w5.heap.size := by rw [← hw6]; simp
      have H6w : Hid (∀ c, c ≠ wb → w6.heap[c]? = w5.heap[c]?) := fun c hc => by rw [← hw6]; exact set_other hc
      have HZ6 : Hid (w6.grownBy (w6.alloc (.cells #[.int .i64 (K : Int), .int .i64 (K : Int), .int .i64 (K : Int), .int .i64 (K : Int)] 3)) none) := gb_alloc (gb_refl _ _) _
      have HK6 : Hid ((w6.alloc (.cells #[.int .i64 (K : Int), .int .i64 (K : Int), .int .i64 (K : Int), .int .i64 (K : Int)] 3)).ownsRow 0 3 1 (.slice ka N kc) N (ints ks)) := by
        have := HK'.out
        rw [HKE.out] at this
        refine own_frame this fun c hc => ?_
        have hcl := own_lt this c hc
        rw [← HKE.out] at hc
        have hd := hD.out.2.1 c hc
        exact (((HZ6.out.block c (by omega) (by simp)).trans (H6w.out c hd.1)).trans (H5w.out c (by omega) (fun hm => (hD.out.1 c hm).2.1 hc))).trans (HBW.out c hcl hd.2)
      have hK6 := HK6.out
      have bn6 : (w6.alloc (.cells #[.int .i64 (K : Int), .int .i64 (K : Int), .int .i64 (K : Int), .int .i64 (K : Int)] 3)).heap[w6.heap.size]? = some (.cells #[.int .i64 (K : Int), .int .i64 (K : Int), .int .i64 (K : Int), .int .i64 (K : Int)] 3) := alloc_new _ _ _ rfl
      have e2 : w6.cell? ⟨wb, 2, none⟩ = some (.slice ka N kc) := by unfold World.cell?; simp only [HB6.out, HKE.out]; rfl
      have e2' := gb_cell HZ6.out e2 (by simp)
      have z2 : (w6.alloc (.cells #[.int .i64 (K : Int), .int .i64 (K : Int), .int .i64 (K : Int), .int .i64 (K : Int)] 3)).frozen? ⟨wb, 2, none⟩ = false := gb_froz HZ6.out (by omega) (by unfold World.frozen?; simp only [HB6.out]; simp) (by simp)
      have hnb2 : some wb ≠ (Value.slice ka N kc).ownBlock := fun e => by
        rw [← HKE.out] at e
        exact (hD.out.2.1 wb (by rw [← e]; simp)).1 rfl
      have HSZ6 : Hid (w6.heap.size = w5.heap.size) := hsz6
      have hwb6 : wb < w6.heap.size := by omega
      clear hw6 hsz6
      go_wp2_with (at_builtin; refine wpList_append_foot _ rfl _ _ 26 rfl 3 i3 (.int .i64 0) 1 8 Tryz.underlying26 HII.out.1 HII.out.2.1 HII.out.2.2.1 HII.out.2.2.2 rfl (by decide) (.slice ka N kc) N (ints ks) rfl hK6 ⟨w6.heap.size, 0, none⟩ 4 4 (by omega) [.int .i64 (K : Int), .int .i64 (K : Int), .int .i64 (K : Int), .int .i64 (K : Int)] rfl rfl (cells_blk _ bn6) (fun v hv => by simp at hv; rw [hv]; rfl) (by unfold maxLen; omega) (by omega) ?_; intro kv' w7 own7 g7 hft7; obtain ⟨kxa, kxc, rfl, _, _⟩ := own_shape1 own7; have e7 := gb_cell g7 e2' hnb2; have z7 := gb_froz g7 (by have := HZ6.out.size; omega) z2 hnb2)
      go_end0
      have hsz6 : w6.heap.size = w5.heap.size := HSZ6.out
      have F7 : (Value.slice kxa (N + 4) kxc).ownBlock = kv.ownBlock ∨ (Value.slice kxa (N + 4) kxc).ownBlock = some (w6.heap.size + 1) := by
        rcases hft7 with h7 | h7
        · left; rw [h7, HKE.out]
        · right; rw [h7]; simp
      have hkvl : ∀ c ∈ kv.ownBlock.toList, c < w.heap.size := own_lt HK'.out
      have hsvl : ∀ c ∈ sv.ownBlock.toList, c < w.heap.size := own_lt HS.out
      have hll' : ∀ c ∈ l.ownBlock.toList, c < w.heap.size := own_lt HL.out
      have H7w : ∀ c, c < w6.heap.size → c ∉ kv.ownBlock.toList → w7.heap[c]? = w6.heap[c]? := fun c hc hn => (g7.block c (by have := HZ6.out.size; omega) (fun e => hn (by rw [HKE.out, ← e]; simp))).trans (HZ6.out.block c hc (by simp))
      have H8w : ∀ c, c < w4.heap.size → c ≠ wb → c ∉ sv.ownBlock.toList → c ∉ kv.ownBlock.toList → (w7.setCell ⟨wb, 2, none⟩ (.slice kxa (N + 4) kxc)).heap[c]? = w4.heap[c]? := fun c h1 h2 h3 h4 =>
        (((set_other (by show c ≠ wb; exact h2)).trans (H7w c (by omega) h4)).trans (H6w.out c h2)).trans (H5w.out c h1 h3)
      have hsz7 : w6.heap.size < w7.heap.size := by have := g7.size; simp at this; omega
      have hsz8 : (w7.setCell ⟨wb, 2, none⟩ (.slice kxa (N + 4) kxc)).heap.size = w7.heap.size := by simp
      have hub : ∀ u ∈ l :: [.slice ga (k + 1) gc, .slice ha (k + 2) hc, .slice ja (k + 3) jc], MarkAt w4 u mk ∧ ∀ b ∈ u.ownBlock.toList, b ∈ l.ownBlock.toList ∨ (w.heap.size ≤ b ∧ b < w4.heap.size) := fun u hu => by
        rcases List.mem_cons.1 hu with rfl | hu
        · exact ⟨mark_of_row HO4.out.row (by omega), fun b hb => Or.inl hb⟩
        · obtain ⟨q1, _, q3⟩ := HO4.out.marks u hu
          exact ⟨q1, fun b hb => (q3 b hb).imp id fun q => ⟨by have := HG1.out.size; omega, q.2⟩⟩
      have hsx : ∀ b ∈ (Value.slice sxa (N + 4) sxc).ownBlock.toList, b ∈ sv.ownBlock.toList ∨ b = w4.heap.size + 1 := fun b hb => by
        rcases HF5.out with h | h
        · rw [h] at hb; exact Or.inl hb
        · rw [h] at hb; exact Or.inr (by simpa using hb)
      have hkx : ∀ b ∈ (Value.slice kxa (N + 4) kxc).ownBlock.toList, b ∈ kv.ownBlock.toList ∨ b = w6.heap.size + 1 := fun b hb => by
        rcases F7 with h | h
        · rw [h] at hb; exact Or.inl hb
        · rw [h] at hb; exact Or.inr (by simpa using hb)
      have hs5l : ∀ b ∈ (Value.slice sxa (N + 4) sxc).ownBlock.toList, b < w5.heap.size := own_lt HS5.out
      rw [← HLE.out]
      refine ⟨rfl, .slice sxa (N + 4) sxc, .slice kxa (N + 4) kxc, [.slice ga (k + 1) gc, .slice ha (k + 2) hc, .slice ja (k + 3) jc], ?_⟩
      rw [← HMK.out] at hub
      refine ⟨?_, ?_, ?_, rfl, fun u hu => ?_, fun b hb => ?_, fun b hb => ?_, ?_⟩
      · rw [text_set ((H7w wb (by omega) (fun hm => (hD.out.2.1 wb hm).1 rfl)).trans HB6.out)]; rfl
      · rw [HLE.out]
        refine own_frame HS5.out fun c hc => ?_
        have hcw : c ≠ wb := by
          rcases hsx c hc with h | h
          · exact (hD.out.1 c h).1
          · omega
        have hck : c ∉ kv.ownBlock.toList := fun hm => by
          rcases hsx c hc with h | h
          · exact (hD.out.1 c h).2.1 hm
          · have := hkvl c hm; omega
        exact ((set_other (by show c ≠ wb; exact hcw)).trans (H7w c (by have := hs5l c hc; omega) hck)).trans (H6w.out c hcw)
      · have e : ints (ks ++ [(K : Int), (K : Int), (K : Int), (K : Int)]) = ints ks ++ [.int .i64 (K : Int), .int .i64 (K : Int), .int .i64 (K : Int), .int .i64 (K : Int)] := by simp [ints]
        rw [e]
        refine own_frame own7 fun c hc => set_other ?_
        show c ≠ wb
        rcases hkx c hc with h | h
        · exact (hD.out.2.1 c h).1
        · omega
      · obtain ⟨q1, q2⟩ := hub u hu
        refine ⟨q1.frame (by omega) fun b hb hl4 => H8w b hl4 ?_ ?_ ?_, fun b hb => ⟨(q2 b hb).imp id fun q => q.1, ?_⟩⟩
        · rcases q2 b hb with h | h
          · exact hD.out.2.2 b h
          · omega
        · intro hm
          rcases q2 b hb with h | h
          · exact (hD.out.1 b hm).2.2 h
          · have := hsvl b hm; omega
        · intro hm
          rcases q2 b hb with h | h
          · exact (hD.out.2.1 b hm).2 h
          · have := hkvl b hm; omega
        · rcases q2 b hb with h | h
          · have := hll' b h; omega
          · omega
      · refine ⟨(hsx b hb).imp id fun e => by omega, ?_, fun hm => ?_, fun u hu hm => ?_⟩
        · rcases hsx b hb with h | h
          · exact (hD.out.1 b h).1
          · omega
        · rcases hsx b hb with h | h <;> rcases hkx b hm with h2 | h2
          · exact (hD.out.1 b h).2.1 h2
          · have := hsvl b h; omega
          · have := hkvl b h2; omega
          · omega
        · rcases hsx b hb with h | h <;> rcases (hub u hu).2 b hm with h2 | h2
          · exact (hD.out.1 b h).2.2 h2
          · have := hsvl b h; omega
          · have := hll' b h2; omega
          · omega
      · refine ⟨(hkx b hb).imp id fun e => by omega, ?_, fun u hu hm => ?_⟩
        · rcases hkx b hb with h | h
          · exact (hD.out.2.1 b h).1
          · omega
        · rcases hkx b hb with h | h <;> rcases (hub u hu).2 b hm with h2 | h2
          · exact (hD.out.2.1 b h).2 h2
          · have := hkvl b h; omega
          · have := hll' b h2; omega
          · omega
      · have k4 := HO4.out.kept
        have k6o : w6.os = w5.os ∧ w6.tape = w5.tape ∧ w6.output = w5.output := by rw [← HW6.out]; exact ⟨rfl, rfl, rfl⟩
        refine ⟨?_, ?_, ?_, by omega, fun c hc hn => ?_⟩
        · exact (((g7.os.trans k6o.1).trans HOS.out.1).trans k4.os).trans HG1.out.os
        · exact (((g7.tape.trans k6o.2.1).trans HOS.out.2.1).trans k4.tape).trans HG1.out.tape
        · exact (((g7.output.trans k6o.2.2).trans HOS.out.2.2).trans k4.output).trans HG1.out.output
        · simp only [List.mem_cons, List.mem_append, not_or] at hn
          exact (H8w c (by omega) hn.1 hn.2.2.1 hn.2.2.2).trans (HBW.out c hc hn.2.1)

end Go.Proofs.YtcfdemhokbddiaaGreatDoor

/-
  The law's same and World.looks, walked.
-/
namespace Go.Proofs.YtcfdemhokbddiaaGreatDoor
open Go.RowKit

set_option maxRecDepth 100000 in
set_option maxHeartbeats 1000000 in
theorem lawSame_any (v u : Value) (ls : List (List UInt8)) (w : World) (hv : StrSl w v ls) (hu : StrSl w u ls) (hl : ls.length ≤ 100000) :
    Calls Tryz.prog 54 #[v, u] w fun e w' => e = .returned (.bool true) ∧ w.grownBy w' none := by
  obtain ⟨sa, ca, rfl, _, _, hxs⟩ := hv
  obtain ⟨sb, cb, rfl, _, _, hys⟩ := hu
  go_enter Tryz.func54, Tryz.ntmps54
  go_wp2_with fail
  go_loopw [5] (fun i wr => ∃ k : Nat, i = .int .i64 (k : Int) ∧ k ≤ ls.length ∧ ∃ q, wr = w.drewN q) (fun i _ => ls.length - (intOf i).toNat)
  case atStart => exact ⟨0, rfl, by omega, 0, rfl⟩
  case round =>
    obtain ⟨k, rfl, hk, q, rfl⟩ := hrel
    by_cases hlt : k < ls.length
    · rcases hxs with h | ⟨b1, o1, rfl, _, h1⟩
      · rw [h] at hlt; simp at hlt
      rcases hys with h | ⟨b2, o2, rfl, _, h2⟩
      · rw [h] at hlt; simp at hlt
      have c1 : w.cell? ⟨b1, o1 + k, none⟩ = some (.string (B ls[k])) := h1 k hlt
      have c2 : w.cell? ⟨b2, o2 + k, none⟩ = some (.string (B ls[k])) := h2 k hlt
      obtain ⟨x, hx⟩ : ∃ x, ls[k] = x := ⟨_, rfl⟩
      rw [hx] at c1 c2
      have hlti : (k : Int) < (ls.length : Int) := by omega
      clear hx h1 h2
      go_wp2_with fail
      try go_quiet (fail)
      go_wp2
      go_roundw
      case rel => exact ⟨k + 1, by go_num, by omega, by first | exact ⟨_, rfl⟩ | exact drew2 _ _ _⟩
      case measure => simp [intOf]; omega
    · have hlti : ¬ (k : Int) < (ls.length : Int) := by omega
      go_wp2
      go_ret
      exact ⟨rfl, gb_drewN _ _ _⟩

set_option maxRecDepth 100000 in
set_option maxHeartbeats 2000000 in
theorem looksAll_any (wb : Nat) (lv sv kv : Value) (V : List Value) (ks : List Nat) (N : Nat) (w : World) (hlv : ∃ a m c, lv = .slice a m c) (hb : w.heap[wb]? = some (.cells #[lv, sv, kv] 62)) (hs : w.ownsRow 0 32 1 sv N V) (hk : w.ownsRow 0 3 1 kv N (ints (ks.map fun k : Nat => (k : Int)))) (hN : N ≤ 400000000) (hkl : ks.length = N) (hkb : ∀ k ∈ ks, k ≤ 100000000)
    (hm : ∀ (i : Nat) v k, V[i]? = some v → ks[i]? = some k → MarkAt w v (markT k)) (ht : Tab w) :
    Calls Tryz.prog 31 #[.pointer (some ⟨wb, 0, none⟩)] w fun e w' => e = .returned (.bool true) ∧ w.grownBy w' none := by
  obtain ⟨xa, xm, xc, rfl⟩ := hlv
  obtain ⟨sa, sc, rfl, _, hsa⟩ := own_shape1 hs
  obtain ⟨ka, kc, rfl, _, hka⟩ := own_shape1 hk
  have hVl : V.length = N := by have := hs.1; omega
  have c1 : w.cell? ⟨wb, 1, none⟩ = some (.slice sa N sc) := by unfold World.cell?; simp only [hb]; rfl
  have c2 : w.cell? ⟨wb, 2, none⟩ = some (.slice ka N kc) := by unfold World.cell?; simp only [hb]; rfl
  have HC : Hid (∀ i (h : i < N), ∃ sb kb, sa = some ⟨sb, 0, none⟩ ∧ ka = some ⟨kb, 0, none⟩ ∧ ∃ v k, k ≤ 100000000 ∧ w.cell? ⟨sb, i, none⟩ = some v ∧ w.cell? ⟨kb, i, none⟩ = some (.int .i64 ((k : Nat) : Int)) ∧ MarkAt w v (markT k)) := fun i h => by
    obtain ⟨sb, e1⟩ : ∃ sb, sa = some ⟨sb, 0, none⟩ := by
      rcases hsa with ⟨_, h0, _⟩ | ⟨g, h1, _⟩
      · omega
      · exact ⟨g, h1⟩
    obtain ⟨kb, e2⟩ : ∃ kb, ka = some ⟨kb, 0, none⟩ := by
      rcases hka with ⟨_, h0, _⟩ | ⟨g, h1, _⟩
      · omega
      · exact ⟨g, h1⟩
    subst e1 e2
    have hiV : i < V.length := by omega
    have hiK : i < ks.length := by omega
    have q1 := own_cells1 hs rfl i V[i] (List.getElem?_eq_getElem hiV)
    have q2 := own_cells1 hk rfl i (.int .i64 ((ks[i] : Nat) : Int)) (by simp [ints, List.getElem?_eq_getElem hiK])
    rw [Addr.add_lit, Nat.zero_add] at q1 q2
    exact ⟨sb, kb, rfl, rfl, V[i], ks[i], hkb _ (List.getElem_mem hiK), q1, q2, hm i _ _ (List.getElem?_eq_getElem hiV) (List.getElem?_eq_getElem hiK)⟩
  have HT : Hid (Tab w) := ht
  clear hb hs hk hm ht hsa hka hkb hkl hVl
  go_enter Tryz.func31, Tryz.ntmps31
  go_wp2_with fail
  go_loopw [3] (fun i wr => ∃ k : Nat, i = .int .i64 (k : Int) ∧ k ≤ N ∧ Hid (w.grownBy wr none)) (fun i _ => N - (intOf i).toNat)
  case atStart => exact ⟨0, rfl, Nat.zero_le _, gb_refl _ _⟩
  case round =>
    obtain ⟨i, rfl, hi, HG⟩ := hrel
    have d1 := gb_cell HG.out c1 (by simp)
    have d2 := gb_cell HG.out c2 (by simp)
    by_cases hlt : i < N
    · obtain ⟨sb, kb, rfl, rfl, v, k, hk, q1, q2, hmk⟩ := HC.out i hlt
      have p1 := gb_cell HG.out q1 (by simp)
      have p2 := gb_cell HG.out q2 (by simp)
      have HM : Hid (MarkAt w v (markT k)) := hmk
      obtain ⟨va, n, vc, rfl, hn, _⟩ := hmk
      have HI : Hid (Calls Tryz.prog 24 #[.int .i64 (k : Int)] wr _) := itoa_any (k : Int) (by omega) wr (HT.out.gb HG.out)
      have a1 : ∀ w, (Op.stringOp .add ⟨#[109, 97, 114, 107]⟩ (B (Lib.itoa (k : Int)))).run Tryz.prog w = .ok (.string (B (markT k))) w := add_lists [109, 97, 114, 107] _ (by simp) (by have := itoa_len (n := (k : Int)) (by omega); omega)
      generalize markT k = mk at a1 HM
      have hlti : (i : Int) < (N : Int) := by omega
      obtain ⟨w0, hw0⟩ : ∃ w0, w0 = wr := ⟨_, rfl⟩
      subst hw0
      clear q1 q2
      go_wp2_with fail
      refine HI.out.mono ?_
      rintro e w1 ⟨rfl, g1⟩
      have HG1 : Hid (w.grownBy w1 none) := gb_trans HG.out g1
      have f1 := gb_cell g1 d1 (by simp)
      have f2 := gb_cell g1 p1 (by simp)
      have HM1 : Hid (MarkAt w1 (.slice va n vc) mk) := HM.out.gb HG1.out
      clear g1 HI d1 d2 p1 p2
      go_wp2_with fail
      go_loopw [5] (fun i wr => ∃ k : Nat, i = .int .i64 (k : Int) ∧ k ≤ n ∧ wr = w1) (fun i _ => n - (intOf i).toNat)
      case atStart => exact ⟨0, rfl, Nat.zero_le _, rfl⟩
      case round =>
        obtain ⟨j, rfl, hj, rfl⟩ := hrel
        by_cases hjn : j < n
        · obtain ⟨va', n', vc', e, _, hp⟩ := HM1.out
          simp only [Value.slice.injEq] at e
          obtain ⟨rfl, rfl, rfl⟩ := e
          rcases hp with hp | ⟨vb, rfl, _, hc⟩
          · omega
          have x1 := hc j hjn
          have hji : (j : Int) < (n : Int) := by omega
          clear hc
          go_wp2
          go_roundw
          case rel => exact ⟨j + 1, by go_num, by omega, trivial⟩
          case measure => simp [intOf]; omega
        · have hji : ¬ (j : Int) < (n : Int) := by omega
          go_wp2
          go_roundw
          case rel => exact ⟨i + 1, by go_num, by omega, HG1.out⟩
          case measure => simp [intOf]; omega
    · have hlti : ¬ (i : Int) < (N : Int) := by omega
      go_wp2
      go_ret
      exact ⟨rfl, HG.out⟩

end Go.Proofs.YtcfdemhokbddiaaGreatDoor

/-
  The lists that came out: each as the caller wrote it.
-/
namespace Go.Proofs.YtcfdemhokbddiaaGreatDoor
open Go.RowKit

structure Marks (base : Nat) (w : World) (own : List Nat) (sk : Value × Value) (V : List Value) (ks : List Nat) : Prop where
  srow : w.ownsRow 0 32 1 sk.1 V.length V
  krow : w.ownsRow 0 3 1 sk.2 V.length (ints (ks.map fun k : Nat => (k : Int)))
  klen : ks.length = V.length
  four : V.length % 4 = 0
  kb : ∀ k ∈ ks, 4 * k ≤ V.length
  each : ∀ (i : Nat) v k, V[i]? = some v → ks[i]? = some k → MarkAt w v (markT k)
  vlow : ∀ v ∈ V, ∀ b ∈ v.ownBlock.toList, base ≤ b ∧ b < w.heap.size ∧ b ∉ own
  slow : ∀ b ∈ sk.1.ownBlock.toList, base ≤ b ∧ b ∉ own ∧ b ∉ sk.2.ownBlock.toList ∧ ∀ v ∈ V, b ∉ v.ownBlock.toList
  klow : ∀ b ∈ sk.2.ownBlock.toList, base ≤ b ∧ b ∉ own ∧ ∀ v ∈ V, b ∉ v.ownBlock.toList
theorem Marks.start (base : Nat) (w : World) (own : List Nat) : Marks base w own (.slice none 0 0, .slice none 0 0) [] [] :=
  ⟨own_nil _ _ _, own_nil _ _ _, rfl, rfl, by simp, by simp, by simp, by simp [Value.ownBlock], by simp [Value.ownBlock]⟩
theorem Marks.frame {base : Nat} {w w' : World} {own own' : List Nat} {sk : Value × Value} {V : List Value} {ks : List Nat} (h : Marks base w own sk V ks) (hs : w.heap.size ≤ w'.heap.size) (hk : ∀ b, b < w.heap.size → b ∉ own → w'.heap[b]? = w.heap[b]?) (ho : ∀ b ∈ own', b ∈ own ∨ w.heap.size ≤ b) : Marks base w' own' sk V ks := by
  have hnew : ∀ b, b < w.heap.size → b ∉ own → b ∉ own' := fun b hb hn hm => by
    rcases ho b hm with h1 | h1
    · exact hn h1
    · omega
  have hsl := own_lt h.srow
  have hkl := own_lt h.krow
  refine ⟨own_frame h.srow fun b hb => hk b (hsl b hb) (h.slow b hb).2.1, own_frame h.krow fun b hb => hk b (hkl b hb) (h.klow b hb).2.1, h.klen, h.four, h.kb, fun i v k hv hkk => (h.each i v k hv hkk).frame hs fun b hb hl => hk b hl (h.vlow v (List.mem_of_getElem? hv) b hb).2.2, fun v hv b hb => ?_, fun b hb => ?_, fun b hb => ?_⟩
  · obtain ⟨q1, q2, q3⟩ := h.vlow v hv b hb
    exact ⟨q1, by omega, hnew b q2 q3⟩
  · obtain ⟨q1, q2, q3⟩ := h.slow b hb
    exact ⟨q1, hnew b (hsl b hb) q2, q3⟩
  · obtain ⟨q1, q2, q3⟩ := h.klow b hb
    exact ⟨q1, hnew b (hkl b hb) q2, q3⟩
theorem Marks.kpt {base : Nat} {w w' : World} {wb : Nat} {lv lv' : Value} {ps ps' : List (GT × RB)} {sk : Value × Value} {V : List Value} {ks : List Nat} (h : Marks base w (pwOwn wb lv ps) sk V ks) (hk : Kpt wb lv ps w lv' ps' w') : Marks base w' (pwOwn wb lv' ps') sk V ks :=
  h.frame hk.kept.size hk.kept.block hk.sub
theorem Marks.gb {base : Nat} {w w' : World} {own : List Nat} {sk : Value × Value} {V : List Value} {ks : List Nat} (h : Marks base w own sk V ks) (hg : w.grownBy w' none) : Marks base w' own sk V ks :=
  h.frame hg.size (fun b hb _ => hg.block b hb (by simp)) fun _ hb => Or.inl hb

/-- The law's world with the lists that came out. -/
structure PM (base m : Nat) (w : World) (wb : Nat) (c : Nat) : Prop where
  ex : ∃ sk lv ps V ks, PW base m w wb sk lv ps ∧ ps ≠ [] ∧ Marks base w (pwOwn wb lv ps) sk V ks ∧ V.length ≤ 4 * c

theorem own_put {base m wb : Nat} {sk : Value × Value} {lv : Value} {ps : List (GT × RB)} {V : List Value} {ks : List Nat} {w w' : World} {l : Value} {s n K : Nat} {ls : List (List UInt8)} {sv' kv' : Value} {us : List Value} (h : PW base m w wb sk lv ps) (hM : Marks base w (pwOwn wb lv ps) sk V ks)
    (hl : w.ownsRow s 9 1 l n (strs ls)) (hlb : ∀ b ∈ l.ownBlock.toList, base ≤ b ∧ b ∉ pwOwn wb lv ps ∧ b ∉ sk.1.ownBlock.toList ∧ b ∉ sk.2.ownBlock.toList ∧ ∀ v ∈ V, b ∉ v.ownBlock.toList) (hK : V.length = 4 * K) (ho : OwnOut wb lv sk.1 sk.2 l V (ks.map fun k : Nat => (k : Int)) K V.length w w' sv' kv' us) :
    PW base m w' wb (sv', kv') lv ps ∧ Marks base w' (pwOwn wb lv ps) (sv', kv') (V ++ l :: us) (ks ++ [K, K, K, K]) := by
  have hlt := h.lt
  have hwb : wb ∈ pwOwn wb lv ps := by simp [pwOwn]
  have hsl := own_lt hM.srow
  have hkl := own_lt hM.krow
  have hll := own_lt hl
  have hnd := h.nodup
  unfold pwOwn at hnd
  rw [List.nodup_cons] at hnd
  have hlow := h.low
  have hkeep : ∀ b, b < w.heap.size → b ≠ wb → b ∉ l.ownBlock.toList → b ∉ sk.1.ownBlock.toList → b ∉ sk.2.ownBlock.toList → w'.heap[b]? = w.heap[b]? := fun b hb h1 h2 h3 h4 => ho.kept.block b hb (by simp only [List.mem_cons, List.mem_append, not_or]; exact ⟨h1, h2, h3, h4⟩)
  have hpw : ∀ b ∈ pwOwn wb lv ps, b ≠ wb → w'.heap[b]? = w.heap[b]? := fun b hb hne => hkeep b (hlt b hb) hne (fun hm => (hlb b hm).2.1 hb) (fun hm => (hM.slow b hm).2.1 hb) (fun hm => (hM.klow b hm).2.1 hb)
  have hne1 : ∀ b ∈ lv.ownBlock.toList ++ ps.flatMap pairOwn, b ≠ wb := fun b hb e => hnd.1 (by rw [← e]; exact hb)
  have h0 : w'.heap[0]? = w.heap[0]? := hkeep 0 h.tab.lt (fun e => h.ne0 wb hwb e.symm) (fun hm => by have := (hlb 0 hm).1; have := h.pos; omega) (fun hm => by have := (hM.slow 0 hm).1; have := h.pos; omega) (fun hm => by have := (hM.klow 0 hm).1; have := h.pos; omega)
  refine ⟨⟨ho.blk, own_frame h.row fun b hb => hpw b (by simp only [pwOwn, List.mem_cons, List.mem_append]; exact Or.inr (Or.inl hb)) (hne1 b (by simp only [List.mem_append]; exact Or.inl hb)), fun q hq => (h.each q hq).frame ho.kept.size fun b hb => hpw b (by simp only [pwOwn, List.mem_cons, List.mem_append, List.mem_flatMap]; exact Or.inr (Or.inr ⟨q, hq, hb⟩)) (hne1 b (by simp only [List.mem_append, List.mem_flatMap]; exact Or.inr ⟨q, hq, hb⟩)), h.nodup, h.above, h.len, Nat.le_trans h.low ho.kept.size, h.tab.same h0, h.pos⟩, ?_⟩
  have hown : ∀ b, w.heap.size ≤ b → b ∉ pwOwn wb lv ps := fun b hb hm => by have := hlt b hm; omega
  have hulen := ho.ulen
  have hub : ∀ u ∈ l :: us, ∀ b ∈ u.ownBlock.toList, base ≤ b ∧ b < w'.heap.size ∧ b ∉ pwOwn wb lv ps := fun u hu b hb => by
    obtain ⟨q1, q2⟩ := (ho.marks u hu).2 b hb
    rcases q1 with q1 | q1
    · exact ⟨(hlb b q1).1, q2, (hlb b q1).2.1⟩
    · exact ⟨by omega, q2, hown b q1⟩
  have hVl : (V ++ l :: us).length = V.length + 4 := by simp [hulen]
  refine ⟨by rw [hVl]; exact ho.srow, ?_, by simp [hM.klen, hulen], by rw [hVl]; have := hM.four; omega, fun k hk => ?_, fun i v k hv hk => ?_, fun v hv b hb => ?_, fun b hb => ?_, fun b hb => ?_⟩
  · rw [hVl]
    have := ho.krow
    rw [List.map_append]
    exact this
  · rw [hVl]
    rcases List.mem_append.1 hk with hk | hk
    · have := hM.kb k hk; omega
    · simp at hk; omega
  · by_cases hi : i < V.length
    · rw [List.getElem?_append_left hi] at hv
      rw [List.getElem?_append_left (by rw [hM.klen]; exact hi)] at hk
      refine (hM.each i v k hv hk).frame ho.kept.size fun b hb hl => ?_
      have hvm := List.mem_of_getElem? hv
      obtain ⟨_, _, q3⟩ := hM.vlow v hvm b hb
      exact hkeep b hl (fun e => q3 (by rw [e]; exact hwb)) (fun hm => (hlb b hm).2.2.2.2 v hvm hb) (fun hm => (hM.slow b hm).2.2.2 v hvm hb) (fun hm => (hM.klow b hm).2.2 v hvm hb)
    · rw [List.getElem?_append_right (by omega)] at hv
      rw [List.getElem?_append_right (by rw [hM.klen]; omega)] at hk
      have ek : k = K := by
        have := List.mem_of_getElem? hk
        simpa using this
      rw [ek]
      exact (ho.marks v (List.mem_of_getElem? hv)).1
  · rcases List.mem_append.1 hv with hv | hv
    · obtain ⟨q1, q2, q3⟩ := hM.vlow v hv b hb
      exact ⟨q1, Nat.lt_of_lt_of_le q2 ho.kept.size, q3⟩
    · exact hub v hv b hb
  · obtain ⟨q1, q2, q3, q4⟩ := ho.sown b hb
    refine ⟨?_, ?_, q3, fun v hv => ?_⟩
    · rcases q1 with q1 | q1
      · exact (hM.slow b q1).1
      · omega
    · rcases q1 with q1 | q1
      · exact (hM.slow b q1).2.1
      · exact hown b q1
    · rcases List.mem_append.1 hv with hv | hv
      · rcases q1 with q1 | q1
        · exact (hM.slow b q1).2.2.2 v hv
        · exact fun hm => by have := (hM.vlow v hv b hm).2.1; omega
      · exact q4 v hv
  · obtain ⟨q1, q2, q3⟩ := ho.kown b hb
    refine ⟨?_, ?_, fun v hv => ?_⟩
    · rcases q1 with q1 | q1
      · exact (hM.klow b q1).1
      · omega
    · rcases q1 with q1 | q1
      · exact (hM.klow b q1).2.1
      · exact hown b q1
    · rcases List.mem_append.1 hv with hv | hv
      · rcases q1 with q1 | q1
        · exact (hM.klow b q1).2.2 v hv
        · exact fun hm => by have := (hM.vlow v hv b hm).2.1; omega
      · exact q3 v hv

theorem pageP_len (R : RdV) (n k : Int) : (pageP R n k).1.1.length ≤ 20 := by
  unfold pageP
  split
  · simp
  · split
    · split
      · simp
      · split
        · rename_i h1 h2; simp; omega
        · rename_i h1 h2; simp only; omega
    · simp

end Go.Proofs.YtcfdemhokbddiaaGreatDoor
