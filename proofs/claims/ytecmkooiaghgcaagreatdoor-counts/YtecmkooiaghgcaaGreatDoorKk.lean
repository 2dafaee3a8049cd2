/-
  A family in the board's memory: a series is taken away, laid in, changed; a family is looked up; are there as many series as may be.
-/
import Derived.Test.YtecmkooiaghgcaaGreatDoorKj

namespace Go.Proofs.YtecmkooiaghgcaaGreatDoor
open Go.RowKit

def cut1 {α : Type} (l : List α) (i : Nat) : List α := l.take i ++ l.drop (i + 1)
theorem cut1_len {α : Type} (l : List α) (i : Nat) (h : i < l.length) : (cut1 l i).length = l.length - 1 := by simp [cut1]; omega
theorem delRow_take (cur : List Value) (i n cap : Nat) (hi : i < n) (hn : n ≤ cap) (hl : cur.length = cap) : (delRow cur i n).take (n - 1) = cut1 (cur.take n) i := by
  unfold delRow cut1
  rw [List.take_set_of_le (Nat.le_refl _), List.take_append_of_le_length (by simp [hl]; omega), List.take_of_length_le (by simp [hl]; omega), List.take_take, List.drop_take, Nat.min_eq_left (by omega)]
theorem delRow_len (cur : List Value) (i n cap : Nat) (hi : i < n) (hn : n ≤ cap) (hl : cur.length = cap) : (delRow cur i n).length = cap := by
  simp [delRow, hl]; omega

set_option maxHeartbeats 400000 in
theorem remove_any (f g cap i : Nat) (nm : List UInt8) (kind : Int) (lv : Value) (ps : List Nat) (w : World) (hf : w.heap[f]? = some (famObj nm kind lv (.slice (some ⟨g, 0, none⟩) ps.length cap)))
    (hown : w.ownsRow 0 115 1 (.slice (some ⟨g, 0, none⟩) ps.length cap) ps.length (ptrs ps)) (hi : i < ps.length) (hl : ps.length ≤ 100) :
    Calls Tryz.prog 61 #[.pointer (some ⟨f, 0, none⟩), .int .i64 (i : Int)] w
      fun e w' => e = .returned (.tuple #[]) ∧ w'.heap[f]? = some (famObj nm kind lv (.slice (some ⟨g, 0, none⟩) (ps.length - 1) cap)) ∧ w'.ownsRow 0 115 1 (.slice (some ⟨g, 0, none⟩) (ps.length - 1) cap) (ps.length - 1) (ptrs (cut1 ps i)) ∧ Kept [f, g] w w' := by
  obtain ⟨c0, c1, c2, c3, f3⟩ := fam_cells hf
  have hfl := lt_of hf
  obtain ⟨cur, hg, hn, hcm, hcs, htake⟩ : ∃ cur, w.heap[g]? = some (.cells cur 115) ∧ ps.length ≤ cap ∧ cap ≤ maxLen ∧ cur.size = cap ∧ cur.toList.take ps.length = ptrs ps := by
    rcases hown.2 with ⟨h1, _⟩ | ⟨g', cap', cur, h1, h2, h3, h4, h5, h6, h7⟩
    · simp at h1
    · simp at h1; obtain ⟨rfl, rfl⟩ := h1; exact ⟨cur, h3, h4, h5, by simpa using h6, by simpa using h7⟩
  have hfg : f ≠ g := fun e => by rw [e, hg] at hf; simp [famObj] at hf
  have HD : Hid (Calls Tryz.prog 88 #[.slice (some ⟨g, 0, none⟩) ps.length cap, .int .i64 (i : Int), .int .i64 ((i : Int) + 1)] w _) := delete_any g cap i ps.length cur w hg hi hn hcs hcm (fun v hv => ptrs_one ps v (by rw [← htake]; exact hv))
  have hcl : cur.toList.length = cap := by simpa using hcs
  have HT : Hid ((delRow cur.toList i ps.length).take (ps.length - 1) = ptrs (cut1 ps i)) := by
    show _ = _
    rw [delRow_take _ _ _ cap hi hn hcl, htake]; simp [cut1, ptrs]
  have HL : Hid ((delRow cur.toList i ps.length).length = cap) := delRow_len _ _ _ _ hi hn hcl
  have HF : Hid (w.heap[f]? = some (famObj nm kind lv (.slice (some ⟨g, 0, none⟩) ps.length cap))) := hf
  clear hown hcl htake hf hg hcs
  go_enter Tryz.func61, Tryz.ntmps61
  go_wp2_with fail
  refine HD.out.mono ?_
  rintro e w1 ⟨rfl, h1, g1⟩
  have hf1 := (g1.block f hfl (by simpa using hfg)).trans HF.out
  obtain ⟨d0, d1, d2, d3, z3⟩ := fam_cells hf1
  have HF1 : Hid (w1.heap[f]? = some (famObj nm kind lv (.slice (some ⟨g, 0, none⟩) ps.length cap))) := hf1
  have H1 : Hid (w1.heap[g]? = some (.cells (delRow cur.toList i ps.length).toArray 115)) := h1
  clear h1 hf1 HD HF
  go_wp2
  go_end0
  refine ⟨rfl, fam_set HF1.out _, ⟨?_, Or.inr ⟨g, cap, (delRow cur.toList i ps.length).toArray, rfl, Nat.zero_le _, ?_, by omega, hcm, ?_, ?_⟩⟩, ?_⟩
  · rw [ptrs_len, cut1_len _ _ hi, Nat.mul_one]
  · rw [Below.heap_setCell _ _ _ _ (by show g ≠ f; exact fun e => hfg e.symm)]; exact H1.out
  · simpa using HL.out
  · simpa using HT.out
  · have hk1 : Kept [f, g] w w1 := Kept.of_some g1 _ (Or.inl (by simp))
    exact hk1.trans (Kept.of_some (gb_setCell _ _ _ _) _ (Or.inl (by simp)))

theorem cut1_map {α β : Type} (f : α → β) (l : List α) (i : Nat) : (cut1 l i).map f = cut1 (l.map f) i := by simp [cut1]
theorem cut1_mem {α : Type} {l : List α} {i : Nat} {x : α} (h : x ∈ cut1 l i) : x ∈ l := by
  simp only [cut1, List.mem_append] at h
  rcases h with h | h
  · exact List.mem_of_mem_take h
  · exact List.mem_of_mem_drop h
theorem cut1_nodup {α : Type} {l : List α} (i : Nat) (h : l.Nodup) : (cut1 l i).Nodup := by
  refine h.sublist ?_
  have : l.Sublist l := List.Sublist.refl l
  unfold cut1
  conv => rhs; rw [← List.take_append_drop i l]
  refine List.Sublist.append (List.Sublist.refl _) ?_
  rw [show l.drop (i + 1) = (l.drop i).drop 1 from by rw [List.drop_drop]]
  exact List.drop_sublist _ _
theorem kins_map {α β : Type} (f : α → β) (l : List α) (i : Nat) (x : α) : (kins l i x).map f = kins (l.map f) i (f x) := by simp [kins]
theorem kins_mem {α : Type} {l : List α} {i : Nat} {x y : α} (h : y ∈ kins l i x) : y = x ∨ y ∈ l := by
  simp only [kins, List.mem_append, List.mem_cons] at h
  rcases h with h | h | h
  · exact Or.inr (List.mem_of_mem_take h)
  · exact Or.inl h
  · exact Or.inr (List.mem_of_mem_drop h)
theorem kins_nodup {α : Type} {l : List α} {i : Nat} {x : α} (h : l.Nodup) (hx : x ∉ l) : (kins l i x).Nodup := by
  have h' : (l.take i ++ l.drop i).Nodup := by rw [List.take_append_drop]; exact h
  unfold kins
  rw [List.nodup_append] at h' ⊢
  refine ⟨h'.1, List.nodup_cons.2 ⟨fun hm => hx (List.mem_of_mem_drop hm), h'.2.1⟩, fun a ha b hb e => ?_⟩
  subst e
  rw [List.mem_cons] at hb
  rcases hb with rfl | hb
  · exact hx (List.mem_of_mem_take ha)
  · exact h'.2.2 a ha a hb rfl

/-- A family whose series are in order, its number of them bounded. -/
structure GF.Ok (m : Nat) (g : GF) : Prop where
  kind : g.kind = 1 ∨ g.kind = 2 ∨ g.kind = 3
  lims : g.ls.length ≤ 4 ∧ KSrt ltI g.ls
  srt : KSrt lt (g.ser.map fun c => c.x.plain)
  len : g.ser.length ≤ 24
  each : ∀ c ∈ g.ser, CntOk m c.x
  nodup : g.own.Nodup

theorem gFind (g : GF) (t : List UInt8) (m : Nat) (w : World) (h : GF.At w g) (ho : GF.Ok m g) :
    Calls Tryz.prog 57 #[.pointer (some ⟨g.b, 0, none⟩), .string (B t)] w
      fun e w' => e = .returned (.tuple #[.int .i64 (kplace lt t (g.ser.map fun c => c.x.plain) : Int), .bool (kfnd lt t (g.ser.map fun c => c.x.plain))]) ∧ w.grownBy w' none :=
  findM_any g.b g.nm g.kind g.lv g.sv 0 (g.ser.map GC.b) (g.ser.map fun c => c.x.plain) t w h.blk (by simpa using h.rows) (keyedC h) (by simp; have := ho.len; omega) ho.srt

theorem gAdd (g : GF) (t : List UInt8) (m : Nat) (w : World) (h : GF.At w g) (ho : GF.Ok m g) (hf : kfnd lt t (g.ser.map fun c => c.x.plain) = false) (h24 : g.ser.length < 24) :
    Calls Tryz.prog 59 #[.pointer (some ⟨g.b, 0, none⟩), .string (B t)] w
      fun e w' => e = .returned (.tuple #[]) ∧ ∃ g', g' = { g with sv := g'.sv, ser := kins g.ser (kplace lt t (g.ser.map fun c => c.x.plain)) ⟨w.heap.size, zeroCnt t⟩ } ∧ GF.At w' g' ∧ GF.Ok m g' ∧ Kept g.own w w' ∧ (∀ b ∈ g'.own, b ∈ g.own ∨ w.heap.size ≤ b) := by
  refine (add_any g.b g.nm g.kind g.lv g.sv 0 (g.ser.map GC.b) (g.ser.map fun c => c.x.plain) t w h.blk (by simpa using h.rows) (keyedC h) (by simp; have := ho.len; omega) ho.srt hf).mono ?_
  rintro e w' ⟨rfl, sv', h1, h2, h3, h4⟩
  refine ⟨rfl, { g with sv := sv', ser := kins g.ser (kplace lt t (g.ser.map fun c => c.x.plain)) ⟨w.heap.size, zeroCnt t⟩ }, rfl, ?_, ?_, ?_, ?_⟩
  · have hnd := ho.nodup
    have hlb : ∀ b ∈ g.lv.ownBlock.toList, b ≠ g.b := by
      intro b hb e
      rw [GF.own, List.nodup_cons] at hnd
      exact hnd.1 (by rw [← e]; simp only [List.mem_append]; exact Or.inl hb)
    have hcb : ∀ c ∈ g.ser, c.b ≠ g.b := by
      intro c hc e
      rw [GF.own, List.nodup_cons] at hnd
      exact hnd.1 (by rw [← e]; simp only [List.mem_append, List.mem_map]; exact Or.inr (Or.inr ⟨c, hc, rfl⟩))
    refine ⟨h1, own_frame h.lims fun b hb => h4.block b (own_lt h.lims b hb) (by simpa using hlb b hb), ?_, ?_⟩
    · have := own_base0 h2
      rw [← kins_map GC.b g.ser _ ⟨w.heap.size, zeroCnt t⟩] at this
      have hlen : (kins g.ser (kplace lt t (g.ser.map fun c => c.x.plain)) ⟨w.heap.size, zeroCnt t⟩).length = (g.ser.map GC.b).length + 1 := by
        rw [kins_len _ _ _ (by have := kplace_le lt t (g.ser.map fun c => c.x.plain); simpa using this)]; simp
      show w'.ownsRow 0 115 1 sv' (kins g.ser (kplace lt t (g.ser.map fun c => c.x.plain)) ⟨w.heap.size, zeroCnt t⟩).length _
      rw [hlen]; exact this
    · intro c hc
      rcases kins_mem hc with rfl | hc
      · exact h3
      · exact (h4.block c.b (lt_of (h.cnts c hc)) (by simpa using hcb c hc)).trans (h.cnts c hc)
  · have hlen : (kins g.ser (kplace lt t (g.ser.map fun c => c.x.plain)) (⟨w.heap.size, zeroCnt t⟩ : GC)).length = g.ser.length + 1 :=
      kins_len _ _ _ (by have := kplace_le lt t (g.ser.map fun c => c.x.plain); simpa using this)
    refine ⟨ho.kind, ho.lims, ?_, ?_, ?_, ?_⟩
    · show KSrt lt ((kins g.ser _ _).map fun c => c.x.plain)
      rw [kins_map]
      exact ksrt_ins ltB _ _ ho.srt hf
    · show (kins g.ser _ _).length ≤ 24
      rw [hlen]; omega
    · intro c hc
      rcases kins_mem hc with rfl | hc
      · exact CntOk.zero _ _
      · exact ho.each c hc
    · have hnd := ho.nodup
      have hlt := h.lt
      obtain ⟨g', cap', rfl, hg'⟩ : ∃ g' cap', sv' = .slice (some ⟨g', 0, none⟩) ((g.ser.map GC.b).length + 1) cap' ∧ w.heap.size + 1 ≤ g' := by
        rcases h2.2 with ⟨_, h0⟩ | ⟨g', cap', cur, hv, hb, _⟩
        · omega
        · exact ⟨g', cap', hv, hb⟩
      simp only [GF.own, Value.ownBlock, Option.toList_some, List.nodup_cons, List.nodup_append, List.mem_append, List.mem_cons, List.not_mem_nil, or_false] at hnd hlt ⊢
      obtain ⟨n1, n2, ⟨n3, n4, n5⟩, n6⟩ := hnd
      have hk : ∀ b ∈ (kins g.ser (kplace lt t (g.ser.map fun c => c.x.plain)) (⟨w.heap.size, zeroCnt t⟩ : GC)).map GC.b, b = w.heap.size ∨ b ∈ g.ser.map GC.b := by
        intro b hb
        rw [kins_map] at hb
        exact kins_mem hb
      refine ⟨?_, n2, ⟨⟨by simp, List.nodup_nil⟩, ?_, ?_⟩, ?_⟩
      · rintro (hb | hb | hb)
        · exact n1 (Or.inl hb)
        · have := hlt g.b (Or.inl rfl); omega
        · rcases hk _ hb with e | hb
          · have := hlt g.b (Or.inl rfl); omega
          · exact n1 (Or.inr (Or.inr hb))
      · rw [kins_map]
        exact kins_nodup n4 (fun hm => by have := hlt w.heap.size (Or.inr (Or.inr (Or.inr hm))); omega)
      · intro a ha b hb e
        subst ha
        rcases hk _ hb with e' | hb
        · omega
        · have := hlt b (Or.inr (Or.inr (Or.inr hb))); omega
      · intro a ha b hb e
        subst e
        have := hlt a (Or.inr (Or.inl ha))
        rcases hb with rfl | hb
        · omega
        · rcases hk _ hb with e' | hb
          · omega
          · exact n6 a ha a (Or.inr hb) rfl
  · exact Kept.of_some h4 _ (Or.inl (by simp [GF.own]))
  · intro b hb
    simp only [GF.own, List.mem_cons, List.mem_append] at hb ⊢
    rcases hb with rfl | hb | hb | hb
    · exact Or.inl (Or.inl rfl)
    · exact Or.inl (Or.inr (Or.inl hb))
    · have hb' : sv'.ownBlock = some b := by simpa using hb
      have := (h2.lt b hb').1
      exact Or.inr (by omega)
    · rw [kins_map] at hb
      rcases kins_mem hb with rfl | hb
      · exact Or.inr (Nat.le_refl _)
      · exact Or.inl (Or.inr (Or.inr (Or.inr hb)))

end Go.Proofs.YtecmkooiaghgcaaGreatDoor
