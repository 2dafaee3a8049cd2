/-
  A series of a family is taken away or changed; a family looked up by its name; whether all families together have as many series as may be.
-/
import Derived.Test.YtecmkooiaghgcaaGreatDoorKk

namespace Go.Proofs.YtecmkooiaghgcaaGreatDoor
open Go.RowKit

theorem gRemove (g : GF) (i m : Nat) (w : World) (h : GF.At w g) (ho : GF.Ok m g) (hi : i < g.ser.length) :
    Calls Tryz.prog 61 #[.pointer (some ⟨g.b, 0, none⟩), .int .i64 (i : Int)] w
      fun e w' => e = .returned (.tuple #[]) ∧ ∃ g', g' = { g with sv := g'.sv, ser := cut1 g.ser i } ∧ GF.At w' g' ∧ GF.Ok m g' ∧ Kept g.own w w' ∧ (∀ b ∈ g'.own, b ∈ g.own ∨ w.heap.size ≤ b) := by
  obtain ⟨gb, cap, hsv⟩ : ∃ gb cap, g.sv = .slice (some ⟨gb, 0, none⟩) g.ser.length cap := by
    rcases h.rows.2 with ⟨_, h0⟩ | ⟨g', cap', cur, hv, _⟩
    · omega
    · exact ⟨g', cap', hv⟩
  have hblk := h.blk
  have hrows := h.rows
  rw [hsv] at hblk hrows
  have hl : (g.ser.map GC.b).length = g.ser.length := by simp
  have hlen := ho.len
  refine (remove_any g.b gb cap i g.nm g.kind g.lv (g.ser.map GC.b) w (by rw [hl]; exact hblk) (by rw [hl]; exact hrows) (by rw [hl]; exact hi) (by rw [hl]; omega)).mono ?_
  rintro e w' ⟨rfl, h1, h2, h3⟩
  rw [hl] at h1 h2
  have hgo : gb ∈ g.own := by simp [GF.own, hsv, Value.ownBlock]
  have hkept : Kept g.own w w' := h3.mono (fun b hb => by
    simp only [List.mem_cons, List.not_mem_nil, or_false] at hb
    rcases hb with rfl | rfl
    · exact Or.inl (by simp [GF.own])
    · exact Or.inl hgo)
  have hnd := ho.nodup
  simp only [GF.own, hsv, Value.ownBlock, Option.toList_some, List.nodup_cons, List.nodup_append, List.mem_append, List.mem_cons, List.not_mem_nil, or_false] at hnd
  obtain ⟨n1, n2, ⟨n3, n4, n5⟩, n6⟩ := hnd
  have hother : ∀ b, (b ∈ g.lv.ownBlock.toList ∨ b ∈ g.ser.map GC.b) → b ∉ [g.b, gb] := by
    intro b hb hm
    simp only [List.mem_cons, List.not_mem_nil, or_false] at hm
    rcases hm with rfl | rfl
    · rcases hb with hb | hb
      · exact n1 (Or.inl hb)
      · exact n1 (Or.inr (Or.inr hb))
    · rcases hb with hb | hb
      · exact n6 _ hb _ (Or.inl rfl) rfl
      · exact n5 b rfl b hb rfl
  refine ⟨rfl, { g with sv := .slice (some ⟨gb, 0, none⟩) (g.ser.length - 1) cap, ser := cut1 g.ser i }, rfl, ⟨h1, ?_, ?_, ?_⟩, ⟨ho.kind, ho.lims, ?_, ?_, fun c hc => ho.each c (cut1_mem hc), ?_⟩, hkept, ?_⟩
  · exact own_frame h.lims fun b hb => h3.block b (own_lt h.lims b hb) (hother b (Or.inl hb))
  · show w'.ownsRow 0 115 1 _ (cut1 g.ser i).length (ptrs ((cut1 g.ser i).map GC.b))
    rw [cut1_len _ _ hi, cut1_map]; exact h2
  · intro c hc
    have hc' := cut1_mem hc
    exact (h3.block c.b (lt_of (h.cnts c hc')) (hother _ (Or.inr (List.mem_map_of_mem hc')))).trans (h.cnts c hc')
  · show KSrt lt ((cut1 g.ser i).map fun c => c.x.plain)
    rw [cut1_map]
    have hs := ho.srt
    unfold KSrt at hs ⊢
    have hsp := split_at (g.ser.map fun c => c.x.plain) i (by simpa using hi)
    rw [hsp] at hs
    unfold cut1
    rw [List.pairwise_append] at hs ⊢
    exact ⟨hs.1, (List.pairwise_cons.1 hs.2.1).2, fun a ha b hb => hs.2.2 a ha b (by simp [hb])⟩
  · show (cut1 g.ser i).length ≤ 24
    rw [cut1_len _ _ hi]; omega
  · simp only [GF.own, Value.ownBlock, Option.toList_some, List.nodup_cons, List.nodup_append, List.mem_append, List.mem_cons, List.not_mem_nil, or_false]
    have hm : ∀ b ∈ (cut1 g.ser i).map GC.b, b ∈ g.ser.map GC.b := by
      intro b hb
      rw [cut1_map] at hb; exact cut1_mem hb
    refine ⟨?_, n2, ⟨⟨by simp, List.nodup_nil⟩, ?_, ?_⟩, ?_⟩
    · rintro (hb | hb | hb)
      · exact n1 (Or.inl hb)
      · exact n1 (Or.inr (Or.inl hb))
      · exact n1 (Or.inr (Or.inr (hm _ hb)))
    · rw [cut1_map]; exact cut1_nodup i n4
    · intro a ha b hb e
      exact n5 a ha b (hm b hb) e
    · intro a ha b hb e
      rcases hb with hb | hb
      · exact n6 a ha b (Or.inl hb) e
      · exact n6 a ha b (Or.inr (hm b hb)) e
  · intro b hb
    refine Or.inl ?_
    simp only [GF.own, hsv, Value.ownBlock, List.mem_cons, List.mem_append] at hb ⊢
    rcases hb with hb | hb | hb | hb
    · exact Or.inl hb
    · exact Or.inr (Or.inl hb)
    · exact Or.inr (Or.inr (Or.inl hb))
    · rw [cut1_map] at hb; exact Or.inr (Or.inr (Or.inr (cut1_mem hb)))

theorem gCount (g : GF) (n : Int) (C D : List GC) (c : GC) (m : Nat) (w : World) (h : GF.At w g) (ho : GF.Ok m g) (e : g.ser = C ++ c :: D) (hn : inB n = true) (hm : m ≤ 4611686018427387904) :
    Calls Tryz.prog 60 #[.pointer (some ⟨g.b, 0, none⟩), .pointer (some ⟨c.b, 0, none⟩), .int .i64 n] w
      fun e w' => e = .returned (.tuple #[]) ∧ ∃ g', g' = { g with ser := C ++ ⟨c.b, countP g.kind g.ls n c.x⟩ :: D } ∧ GF.At w' g' ∧ GF.Ok (m + 1) g' ∧ Kept g.own w w' ∧ (∀ b ∈ g'.own, b ∈ g.own ∨ w.heap.size ≤ b) := by
  have hc : c ∈ g.ser := by rw [e]; simp
  have hnd := ho.nodup
  simp only [GF.own, List.nodup_cons, List.nodup_append, List.mem_append] at hnd
  obtain ⟨n1, n2, ⟨n3, n4, n5⟩, n6⟩ := hnd
  have hcm : c.b ∈ g.ser.map GC.b := List.mem_map_of_mem hc
  have hfc : g.b ≠ c.b := fun e => n1 (Or.inr (Or.inr (by rw [e]; exact hcm)))
  have hlc : g.lv.ownBlock ≠ some c.b := fun e => n6 c.b (by simp [e]) c.b (Or.inr hcm) rfl
  have eb : (C ++ ⟨c.b, countP g.kind g.ls n c.x⟩ :: D).map GC.b = g.ser.map GC.b := by rw [e]; simp
  have eo : ({ g with ser := C ++ ⟨c.b, countP g.kind g.ls n c.x⟩ :: D } : GF).own = g.own := by simp only [GF.own, eb]
  refine (count_any g.b c.b g.nm g.kind g.lv g.sv 0 g.ls n c.x m w h.blk (h.cnts c hc) hfc (ho.each c hc) hm hn ho.kind h.lims hlc ho.lims.1 ho.lims.2).mono ?_
  rintro e2 w' ⟨rfl, h1, h2⟩
  have hx : ∀ d ∈ C ++ D, d.b ≠ c.b := by
    intro d hd ed
    rw [e] at n4
    simp only [List.map_append, List.map_cons, List.nodup_append, List.nodup_cons, List.mem_cons] at n4
    simp only [List.mem_append] at hd
    rcases hd with hd | hd
    · exact n4.2.2 _ (List.mem_map_of_mem hd) _ (Or.inl ed) rfl
    · exact n4.2.1.1 (by rw [← ed]; exact List.mem_map_of_mem hd)
  refine ⟨rfl, _, rfl, ⟨?_, ?_, ?_, ?_⟩, ⟨ho.kind, ho.lims, ?_, ?_, ?_, ?_⟩, Kept.of_some h2 _ (Or.inl ?_), ?_⟩
  · exact (h2.block _ (lt_of h.blk) (by simpa using hfc)).trans h.blk
  · exact own_frame h.lims fun b hb => h2.block b (own_lt h.lims b hb) (fun e => by
      have e' : b = c.b := by simpa using e
      exact hlc (by rw [← e']; simpa using hb))
  · show w'.ownsRow 0 115 1 g.sv (C ++ ⟨c.b, countP g.kind g.ls n c.x⟩ :: D).length (ptrs ((C ++ ⟨c.b, countP g.kind g.ls n c.x⟩ :: D).map GC.b))
    rw [eb, show (C ++ (⟨c.b, countP g.kind g.ls n c.x⟩ : GC) :: D).length = g.ser.length from by rw [e]; simp]
    exact own_frame h.rows fun b hb => h2.block b (own_lt h.rows b hb) (fun e => by
      have e' : b = c.b := by simpa using e
      exact n5 b hb c.b hcm e')
  · intro d hd
    simp only [List.mem_append, List.mem_cons] at hd
    have hold : ∀ d, d ∈ C ++ D → w'.heap[d.b]? = some (cntObj d.x) := fun d hd => by
      have hd' : d ∈ g.ser := by rw [e]; simp only [List.mem_append, List.mem_cons] at hd ⊢; rcases hd with h | h
                                 · exact Or.inl h
                                 · exact Or.inr (Or.inr h)
      exact (h2.block _ (lt_of (h.cnts d hd')) (by simpa using hx d hd)).trans (h.cnts d hd')
    rcases hd with hd | rfl | hd
    · exact hold d (by simp [hd])
    · exact h1
    · exact hold d (by simp [hd])
  · show KSrt lt ((C ++ ⟨c.b, countP g.kind g.ls n c.x⟩ :: D).map fun c => c.x.plain)
    have hs := ho.srt
    rw [e] at hs
    simpa [countP_plain] using hs
  · have := ho.len
    rw [e] at this
    simpa using this
  · intro d hd
    simp only [List.mem_append, List.mem_cons] at hd
    rcases hd with hd | rfl | hd
    · exact (ho.each d (by rw [e]; simp [hd])).mono (Nat.le_succ m)
    · exact (ho.each c hc).count g.kind g.ls n hn
    · exact (ho.each d (by rw [e]; simp [hd])).mono (Nat.le_succ m)
  · rw [eo]; exact ho.nodup
  · simp only [GF.own, List.mem_cons, List.mem_append]; exact Or.inr (Or.inr (Or.inr hcm))
  · intro b hb; rw [eo] at hb; exact Or.inl hb

/-- What the board keeps is as it may be, at most m changes behind. -/
structure GT.Ok (m : Nat) (t : GT) : Prop where
  srt : KSrt lt (t.fams.map GF.nm)
  len : t.fams.length ≤ 8
  each : ∀ g ∈ t.fams, GF.Ok m g
  names : ∀ g ∈ t.fams, g.nm.length ≤ 12
  total : (t.fams.map fun g => g.ser.length).sum ≤ 24

theorem tally_cell {w : World} {t : GT} (h : GT.At w t) : w.cell? ⟨t.b, 0, none⟩ = some t.fv ∧ w.frozen? ⟨t.b, 0, none⟩ = false := by
  simp [World.cell?, World.frozen?, h.blk]

set_option maxHeartbeats 400000 in
theorem tFamily_no (t : GT) (nm : List UInt8) (m : Nat) (w : World) (h : GT.At w t) (ho : GT.Ok m t) (hn : ∀ g ∈ t.fams, g.nm ≠ nm) :
    Calls Tryz.prog 49 #[.pointer (some ⟨t.b, 0, none⟩), .string (B nm)] w fun e w' => e = .returned (.pointer none) ∧ w.grownBy w' none := by
  obtain ⟨c0, _⟩ := tally_cell h
  have hlen := ho.len
  have hf : kfnd lt nm (t.fams.map GF.nm) = false := by
    cases hq : kfnd lt nm (t.fams.map GF.nm) with
    | false => rfl
    | true =>
      have := (kfnd_iff ltB nm _ ho.srt).1 hq
      rw [List.mem_map] at this
      obtain ⟨g, hg, e⟩ := this
      exact absurd e (hn g hg)
  have hF := findF_any t.fv 0 (t.fams.map GF.b) (t.fams.map GF.nm) nm w (by simpa using h.rows) (keyedF h) (by simp; omega) ho.srt
  rw [hf] at hF
  have HF : Hid (Calls Tryz.prog 77 #[t.fv, .func (.func 53) #[] #[], .string (B nm)] w _) := hF
  clear hF hf h ho hn
  obtain ⟨v, hv⟩ : ∃ v, t.fv = v := ⟨_, rfl⟩
  rw [hv] at c0 HF
  clear hv
  go_enter Tryz.func49, Tryz.ntmps49
  go_wp2_with fail
  refine HF.out.mono ?_
  rintro e w1 ⟨rfl, g1⟩
  go_wp2
  go_ret
  exact ⟨rfl, g1⟩

set_option maxHeartbeats 400000 in
theorem tFamily_yes (t : GT) (A B' : List GF) (g : GF) (m : Nat) (w : World) (h : GT.At w t) (ho : GT.Ok m t) (e0 : t.fams = A ++ g :: B') :
    Calls Tryz.prog 49 #[.pointer (some ⟨t.b, 0, none⟩), .string (B g.nm)] w fun e w' => e = .returned (.pointer (some ⟨g.b, 0, none⟩)) ∧ w.grownBy w' none := by
  obtain ⟨c0, _⟩ := tally_cell h
  have hlen := ho.len
  have hgm : g.nm ∈ t.fams.map GF.nm := List.mem_map_of_mem (by rw [e0]; simp)
  have hf : kfnd lt g.nm (t.fams.map GF.nm) = true := (kfnd_iff ltB g.nm _ ho.srt).2 hgm
  have hp : kplace lt g.nm (t.fams.map GF.nm) = A.length := by
    have hs := ho.srt
    refine kplace_of lt _ _ A.length (by rw [e0]; simp) (fun k hk hlt => ?_) (fun k hk hge => ?_)
    · have := hs.get _ k A.length (by rw [e0]; simp) hlt
      simpa [e0] using this
    · by_cases e : k = A.length
      · subst e; simp [e0, lt_irrefl]
      · have := hs.get _ A.length k hk (by omega)
        have h2 : (t.fams.map GF.nm)[A.length]'(by rw [e0]; simp) = g.nm := by simp [e0]
        rw [h2] at this
        exact lt_asymm _ _ this
  have hal : A.length < t.fams.length := by rw [e0]; simp
  obtain ⟨ga, cap, hfv⟩ : ∃ ga cap, t.fv = .slice (some ⟨ga, 0, none⟩) t.fams.length cap := by
    rcases h.rows.2 with ⟨_, h0⟩ | ⟨g', cap', cur, hv, _⟩
    · omega
    · exact ⟨g', cap', hv⟩
  have hrows := h.rows
  rw [hfv] at hrows
  have hcell := ptrsAt_of hrows A.length (by simpa using hal)
  have hget : (t.fams.map GF.b)[A.length]'(by simpa using hal) = g.b := by simp [e0]
  rw [hget] at hcell
  have hF := findF_any t.fv 0 (t.fams.map GF.b) (t.fams.map GF.nm) g.nm w (by simpa using h.rows) (keyedF h) (by simp; omega) ho.srt
  rw [hf, hp] at hF
  rw [hfv] at c0 hF
  have HF : Hid (Calls Tryz.prog 77 #[.slice (some ⟨ga, 0, none⟩) t.fams.length cap, .func (.func 53) #[] #[], .string (B g.nm)] w _) := hF
  have hali : (A.length : Int) < (t.fams.length : Int) := by omega
  clear hF hf h ho hgm hp hrows hfv hget e0
  go_enter Tryz.func49, Tryz.ntmps49
  go_wp2_with fail
  refine HF.out.mono ?_
  rintro e w1 ⟨rfl, g1⟩
  have d0 := gb_cell g1 c0 (by simp)
  have d1 := gb_cell g1 hcell (by simp)
  go_wp2
  go_ret
  exact ⟨rfl, g1⟩

def total (t : GT) : Nat := (t.fams.map fun g => g.ser.length).sum

set_option maxHeartbeats 400000 in
theorem tFull_any (t : GT) (m : Nat) (w : World) (h : GT.At w t) (ho : GT.Ok m t) :
    Calls Tryz.prog 58 #[.pointer (some ⟨t.b, 0, none⟩)] w fun e w' => e = .returned (.bool (decide (24 ≤ total t))) ∧ w' = w := by
  obtain ⟨c0, _⟩ := tally_cell h
  have hlen := ho.len
  have htot := ho.total
  have HE : Hid (∀ k (hk : k < t.fams.length), ∃ sa sc, w.cell? ⟨(t.fams[k]).b, 3, none⟩ = some (.slice sa (t.fams[k]).ser.length sc)) := by
    intro k hk
    have hat := h.each _ (List.getElem_mem hk)
    obtain ⟨sa, sc, e, _⟩ := own_shape1 hat.rows
    exact ⟨sa, sc, by rw [(fam_cells hat.blk).2.2.2.1, e]⟩
  have HP : Hid (∀ ga cap, t.fv = .slice (some ⟨ga, 0, none⟩) t.fams.length cap → ∀ k (hk : k < t.fams.length), w.cell? ⟨ga, k, none⟩ = some (.pointer (some ⟨(t.fams[k]).b, 0, none⟩))) := by
    intro ga cap hfv k hk
    have hrows := h.rows
    rw [hfv] at hrows
    have := ptrsAt_of hrows k (by simpa using hk)
    simpa using this
  obtain ⟨sa, sc, hfv, _, hsa⟩ := own_shape1 h.rows
  rw [hfv] at c0 HP
  have HT : Hid (total t = (t.fams.map fun g => g.ser.length).sum) := rfl
  have HLE : Hid (∀ k, ((t.fams.take k).map fun g => g.ser.length).sum ≤ 24) := by
    intro k
    have h1 : (t.fams.map fun g => g.ser.length).sum = ((t.fams.take k).map fun g => g.ser.length).sum + ((t.fams.drop k).map fun g => g.ser.length).sum := by
      rw [← List.sum_append, ← List.map_append, List.take_append_drop]
    omega
  clear h ho hfv
  go_enter Tryz.func58, Tryz.ntmps58
  go_wp2_with fail
  go_loopw [3, 11] (fun s i wr => ∃ k : Nat, i = .int .i64 (k : Int) ∧ k ≤ t.fams.length ∧ wr = w ∧ s = .int .i64 ((((t.fams.take k).map fun g => g.ser.length).sum : Nat) : Int)) (fun _ i _ => 8 - (intOf i).toNat)
  case atStart => exact ⟨0, rfl, Nat.zero_le _, rfl, by simp⟩
  case round =>
    obtain ⟨k, rfl, hk, rfl, rfl⟩ := hrel
    by_cases hlt : k < t.fams.length
    · obtain ⟨ga, rfl⟩ : ∃ ga, sa = some ⟨ga, 0, none⟩ := by
        rcases hsa with ⟨_, h0, _⟩ | ⟨ga, h1, _⟩
        · omega
        · exact ⟨ga, h1⟩
      have d1 := HP.out ga sc rfl k hlt
      obtain ⟨xa, xc, d2⟩ := HE.out k hlt
      have hki : (k : Int) < (t.fams.length : Int) := by omega
      have HS : Hid (((t.fams.take (k + 1)).map fun g => g.ser.length).sum = ((t.fams.take k).map fun g => g.ser.length).sum + (t.fams[k]).ser.length) := by
        show _ = _
        rw [List.take_add_one, List.getElem?_eq_getElem hlt]
        simp only [List.map_append, List.sum_append, Option.toList_some, List.map_cons, List.map_nil, List.sum_cons, List.sum_nil, Nat.add_zero]
      have hb1 := HLE.out k
      have hb2 := HLE.out (k + 1)
      rw [HS.out] at hb2
      obtain ⟨S, hS⟩ : ∃ S, ((t.fams.take k).map fun g => g.ser.length).sum = S := ⟨_, rfl⟩
      rw [hS] at hb1 hb2 HS ⊢
      clear hS
      generalize (t.fams[k]).b = bk at d1 d2
      generalize hL : (t.fams[k]).ser.length = L at d2 HS hb2
      clear hL
      go_wp2
      go_roundw
      case rel => exact ⟨k + 1, by go_num, by omega, by simp, by rw [HS.out]; go_num⟩
      case measure => simp [intOf]; omega
    · have HK : Hid (k = t.fams.length) := by show _ = _; omega
      have hb1 := HLE.out k
      have HS : Hid (((t.fams.take k).map fun g => g.ser.length).sum = total t) := by
        show _ = _; rw [HK.out, List.take_length]; rfl
      rw [HS.out] at hb1 ⊢
      have hki : ¬ (k : Int) < (t.fams.length : Int) := by omega
      go_wp2
      go_ret
      refine ⟨ret_bool ?_, rfl⟩
      rw [Bool.eq_iff_iff]; simp; try omega

end Go.Proofs.YtecmkooiaghgcaaGreatDoor
