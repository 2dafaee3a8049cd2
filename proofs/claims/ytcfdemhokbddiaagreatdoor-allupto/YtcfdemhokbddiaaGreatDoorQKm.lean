/-
  A family of the board that may be turned: a series is looked up, laid in, owned, changed, taken away.
-/
import Derived.Test.YtcfdemhokbddiaaGreatDoorQKk

namespace Go.Proofs.YtcfdemhokbddiaaGreatDoor
open Go.RowKit

theorem ptrs_set (ps : List Nat) (i n : Nat) : ptrs (ps.set i n) = (ptrs ps).set i (.pointer (some ⟨n, 0, none⟩)) := by simp [ptrs, List.map_set]
/-- A pointer of a row is put anew. -/
theorem row_set {w : World} {e : TypeId} {g cap i n : Nat} {ps : List Nat} (h : w.ownsRow 0 e 1 (.slice (some ⟨g, 0, none⟩) ps.length cap) ps.length (ptrs ps)) :
    (w.setCell ⟨g, i, none⟩ (.pointer (some ⟨n, 0, none⟩))).ownsRow 0 e 1 (.slice (some ⟨g, 0, none⟩) ps.length cap) ps.length (ptrs (ps.set i n)) := by
  rcases h.2 with ⟨h1, _⟩ | ⟨g', cap', cur, h1, h2, h3, h4, h5, h6, h7⟩
  · simp at h1
  · simp at h1
    obtain ⟨rfl, rfl⟩ := h1
    refine ⟨by simp [ptrs], Or.inr ⟨g, cap, cur.setIfInBounds i (.pointer (some ⟨n, 0, none⟩)), rfl, Nat.zero_le _, text_set h3 _, h4, h5, by simpa using h6, ?_⟩⟩
    rw [ptrs_set]
    simp only [Array.toList_setIfInBounds, Nat.mul_one] at h7 ⊢
    rw [List.take_set, h7]

set_option maxRecDepth 100000 in
set_option maxHeartbeats 1000000 in
theorem famOwn_any (f ag : Nat) (nm : List UInt8) (kind : Int) (lv : Value) (g cap i c ac : Nat) (ps : List Nat) (x : Cnt) (w : World) (hf : w.heap[f]? = some (famObj ag nm kind lv (.slice (some ⟨g, 0, none⟩) ps.length cap)))
    (hown : w.ownsRow 0 120 1 (.slice (some ⟨g, 0, none⟩) ps.length cap) ps.length (ptrs ps)) (hi : i < ps.length) (hci : ps[i] = c) (hc : w.heap[c]? = some (cntObj ac x)) (h4 : x.us.length = 4) (hle : ac ≤ ag) :
    Calls Tryz.prog 70 #[.pointer (some ⟨f, 0, none⟩), .int .i64 (i : Int)] w fun e w' =>
      (ac = ag ∧ e = .returned (.pointer (some ⟨c, 0, none⟩)) ∧ w.grownBy w' none) ∨
      (ac < ag ∧ e = .returned (.pointer (some ⟨w.heap.size, 0, none⟩)) ∧ w'.heap[w.heap.size]? = some (cntObj ag x) ∧ w'.ownsRow 0 120 1 (.slice (some ⟨g, 0, none⟩) ps.length cap) ps.length (ptrs (ps.set i w.heap.size)) ∧ w.grownBy w' (some g)) := by
  obtain ⟨c0, c1, c2, c3, _⟩ := fam_cells hf
  have cA := fam_age hf
  have d0 : w.cell? ⟨c, 0, none⟩ = some (.int .i64 (ac : Int)) := by simp [World.cell?, hc, cntObj]
  have p0 := ptrsAt_of hown i hi
  rw [hci] at p0
  have hil : (i : Int) < (ps.length : Int) := by omega
  have hgl : g < w.heap.size := by
    have := own_lt hown g (by simp [Value.ownBlock]); exact this
  have hgz : w.frozen? ⟨g, i, none⟩ = false := by
    rcases hown.2 with ⟨h1, _⟩ | ⟨g', cap', cur, h1, h2, h3, _⟩
    · simp at h1
    · simp at h1; obtain ⟨rfl, rfl⟩ := h1
      simp [World.frozen?, h3]
  have HO : Hid (w.ownsRow 0 120 1 (.slice (some ⟨g, 0, none⟩) ps.length cap) ps.length (ptrs ps)) := hown
  have HCP : Hid (∀ W : World, W.heap = w.heap → Calls Tryz.prog 105 #[.pointer (some ⟨c, 0, none⟩), .int .i64 (ag : Int)] W fun e w' => e = .returned (.pointer (some ⟨w.heap.size, 0, none⟩)) ∧ w'.heap[w.heap.size]? = some (cntObj ag x) ∧ W.grownBy w' none) := fun W hW => by
    have := cntCopied_any c ac ag x W (by rw [hW]; exact hc) h4
    rw [hW] at this; exact this
  have hfg : f ≠ g := fun e => by
    rcases hown.2 with ⟨h1, _⟩ | ⟨g', cap', cur, h1, h2, h3, _⟩
    · simp at h1
    · simp at h1; obtain ⟨rfl, rfl⟩ := h1
      rw [e, h3] at hf; simp [famObj] at hf
  have hfl := lt_of hf
  clear hf hown hc
  by_cases hlt : ac < ag
  · have hlt' : (ac : Int) < (ag : Int) := by omega
    go_enter Tryz.func70, Tryz.ntmps70
    go_wp2_with fail
    go_quiet (fail)
    go_wp2_with fail
    obtain ⟨W, hW⟩ : ∃ W, w.drewN nq = W := ⟨_, rfl⟩
    have hWh : W.heap = w.heap := by rw [← hW]; rfl
    have gW : w.grownBy W none := by rw [← hW]; exact gb_drewN _ _ _
    rw [hW]
    have HWH : Hid (W.heap = w.heap) := hWh
    have k3 : W.cell? ⟨f, 4, none⟩ = some (.slice (some ⟨g, 0, none⟩) ps.length cap) := gb_cell gW c3 (by simp)
    have kA := gb_cell gW cA (by simp)
    have k0 := gb_cell gW p0 (by simp)
    have kz := gb_froz gW hgl hgz (by simp)
    have HC2 : Hid (Calls Tryz.prog 105 #[.pointer (some ⟨c, 0, none⟩), .int .i64 (ag : Int)] W.drew fun e w' => e = .returned (.pointer (some ⟨w.heap.size, 0, none⟩)) ∧ w'.heap[w.heap.size]? = some (cntObj ag x) ∧ w.grownBy w' none ∧ w'.cell? ⟨f, 4, none⟩ = some (.slice (some ⟨g, 0, none⟩) ps.length cap) ∧ w'.cell? ⟨f, 0, none⟩ = some (.int .i64 (ag : Int)) ∧ w'.cell? ⟨g, i, none⟩ = some (.pointer (some ⟨c, 0, none⟩)) ∧ w'.frozen? ⟨g, i, none⟩ = false) :=
      (HCP.out W.drew hWh).mono fun e w' ⟨q1, q2, q3⟩ => by
        have G := gb_trans (gb_trans gW (gb_drewN W 1 none)) q3
        exact ⟨q1, q2, G, gb_cell G c3 (by simp), gb_cell G cA (by simp), gb_cell G p0 (by simp), gb_froz G hgl hgz (by simp)⟩
    clear hW c0 c1 c2 c3 cA p0 d0 hWh hgz
    go_cut [] (fun w' => w'.heap[w.heap.size]? = some (cntObj ag x) ∧ w'.ownsRow 0 120 1 (.slice (some ⟨g, 0, none⟩) ps.length cap) ps.length (ptrs (ps.set i w.heap.size)) ∧ w'.cell? ⟨f, 4, none⟩ = some (.slice (some ⟨g, 0, none⟩) ps.length cap) ∧ w.grownBy w' (some g))
    case first =>
      go_region_with (go_at_call 105; refine HC2.out.mono ?_; rintro e w1 ⟨rfl, h1, g1, m3, mA, m0, mz⟩)
      all_goals
        go_wp2
        go_meet
        case rel =>
          refine ⟨(Below.heap_setCell _ _ _ _ (by show w.heap.size ≠ g; omega)).trans h1, row_set (HO.out.kept g1 (ownNe _)), ?_, gb_s ⟨g1.os, g1.tape, g1.output, g1.size, fun k hk _ => g1.block k hk (by simp)⟩⟩
          rw [World.cell?_of_block (a := ⟨f, 4, none⟩) (Below.heap_setCell _ _ _ _ (by show f ≠ g; exact hfg))]
          exact m3
    case rest =>
      obtain ⟨h1, h2, h3, h4⟩ := hcut
      have p1 := ptrsAt_of (by simpa using h2 : wc.ownsRow 0 120 1 (.slice (some ⟨g, 0, none⟩) (ps.set i w.heap.size).length cap) (ps.set i w.heap.size).length (ptrs (ps.set i w.heap.size))) i (by simpa using hi)
      simp only [List.getElem_set_self] at p1
      have H1 : Hid (wc.heap[w.heap.size]? = some (cntObj ag x)) := h1
      have H2 : Hid (wc.ownsRow 0 120 1 (.slice (some ⟨g, 0, none⟩) ps.length cap) ps.length (ptrs (ps.set i w.heap.size))) := h2
      clear h1 h2
      go_wp2
      go_ret
      exact Or.inr ⟨hlt, rfl, H1.out, H2.out, h4⟩
  · obtain rfl : ac = ag := by omega
    have hlt' : ¬ (ac : Int) < (ac : Int) := by omega
    go_enter Tryz.func70, Tryz.ntmps70
    go_wp2_with fail
    go_quiet (fail)
    go_wp2
    go_ret
    exact Or.inl ⟨by simp, rfl, gb_drewN _ _ _⟩


theorem GT.At.labOf {w : World} {t : GT} {g : GF} (h : GT.At w t) (hg : g ∈ t.fams) (hage : g.age = t.age) : GF.Lab t.lab t.age g := by
  have := h.labF g hg
  unfold GF.Labd at this
  rw [if_pos hage] at this
  exact this
theorem GF.Lab.cnt' {lab : Nat → Role} {A : Nat} {g : GF} (h : GF.Lab lab A g) {c : GC} (hc : c ∈ g.ser) : lab c.b = .cnt g.nm c.x.plain ∨ lab c.b = .shr := by
  rw [h.cnt c hc]
  split
  · exact Or.inl rfl
  · exact Or.inr rfl

theorem gFind (g : GF) (t : List UInt8) (m : Nat) (w : World) (h : GF.At w g) (ho : GF.Ok m g) :
    Calls Tryz.prog 65 #[.pointer (some ⟨g.b, 0, none⟩), .string (B t)] w
      fun e w' => e = .returned (.tuple #[.int .i64 (kplace lt t (g.ser.map fun c => c.x.plain) : Int), .bool (kfnd lt t (g.ser.map fun c => c.x.plain))]) ∧ w.grownBy w' none :=
  findM_any g.b g.age g.nm g.kind g.lv g.sv 0 (g.ser.map GC.b) (g.ser.map fun c => c.x.plain) t w h.blk (by simpa using h.rows) (keyedC h) (by simp; have := ho.len; omega) ho.srt

theorem gAdd (t : GT) (A B' : List GF) (g : GF) (p : List UInt8) (m : Nat) (w : World) (h : GT.At w t) (e : t.fams = A ++ g :: B') (hdist : ∀ k, k ∈ A ∨ k ∈ B' → k.nm ≠ g.nm) (hage : g.age = t.age) (ho : GF.Ok m g)
    (hf : kfnd lt p (g.ser.map fun c => c.x.plain) = false) (h24 : g.ser.length < 24) (hp : p.length ≤ 400) :
    Calls Tryz.prog 68 #[.pointer (some ⟨g.b, 0, none⟩), .string (B p)] w
      fun r w' => r = .returned (.tuple #[]) ∧ ∃ t' g', g' = { g with sv := g'.sv, ser := kins g.ser (kplace lt p (g.ser.map fun c => c.x.plain)) ⟨w.heap.size, t.age, zeroCnt p⟩ } ∧ Upd t t' w w' (A ++ g' :: B') ∧ GF.Ok m g' := by
  have hgm : g ∈ t.fams := by rw [e]; simp
  have hg := h.each g hgm
  have hL := h.labOf hgm hage
  refine (add_any g.b g.age g.nm g.kind g.lv g.sv 0 (g.ser.map GC.b) (g.ser.map fun c => c.x.plain) p w hg.blk (by simpa using hg.rows) (keyedC hg) (by simp; have := ho.len; omega) ho.srt hf).mono ?_
  rintro r w' ⟨rfl, sv', h1, h2, h3, h4⟩
  have hpl : kplace lt p (g.ser.map fun c => c.x.plain) ≤ g.ser.length := by have := kplace_le lt p (g.ser.map fun c => c.x.plain); simpa using this
  obtain ⟨i, hi⟩ : ∃ i, kplace lt p (g.ser.map fun c => c.x.plain) = i := ⟨_, rfl⟩
  have hsrt := ksrt_ins ltB _ _ ho.srt hf
  rw [hi] at h2 hpl hsrt ⊢
  have hlen : (kins g.ser i (⟨w.heap.size, t.age, zeroCnt p⟩ : GC)).length = g.ser.length + 1 := kins_len _ _ _ hpl
  have hsame : ∀ b, b < w.heap.size → b ≠ g.b → w'.heap[b]? = w.heap[b]? := fun b hb hne => h4.block b hb (by simpa using hne)
  have hgbl := lt_of hg.blk
  have hsvlt : ∀ b ∈ sv'.ownBlock.toList, w.heap.size + 1 ≤ b ∧ b < w'.heap.size := fun b hb => by
    have hb' : sv'.ownBlock = some b := by simpa using hb
    exact h2.lt b hb'
  have hn : w.heap.size < w'.heap.size := lt_of h3
  refine ⟨rfl, _, { g with sv := sv', ser := kins g.ser i ⟨w.heap.size, t.age, zeroCnt p⟩ }, rfl, upd_fam (g' := { g with sv := sv', ser := kins g.ser i ⟨w.heap.size, t.age, zeroCnt p⟩ }) h e hdist rfl rfl hage ?_ (fun k => if k = w.heap.size then .cnt g.nm p else .arr g.nm) ?_ [g.b] (Kept.of_some h4 _ (Or.inl (by simp))) ?_, ?_⟩
  · refine ⟨h1, own_frame hg.lims fun b hb => hsame b (own_lt hg.lims b hb) (fun e' => ?_), ?_, ?_⟩
    · have := hL.lv b hb
      rw [e', hL.b] at this; cases this
    · show w'.ownsRow 0 120 1 sv' (kins g.ser i (⟨w.heap.size, t.age, zeroCnt p⟩ : GC)).length (ptrs ((kins g.ser i (⟨w.heap.size, t.age, zeroCnt p⟩ : GC)).map GC.b))
      rw [hlen, kins_map]
      have := own_base0 h2
      simpa using this
    · intro c hc
      rcases kins_mem hc with rfl | hc
      · show w'.heap[w.heap.size]? = some (cntObj t.age (zeroCnt p))
        rw [← hage]; exact h3
      · refine (hsame c.b (lt_of (hg.cnts c hc)) (fun e' => ?_)).trans (hg.cnts c hc)
        rcases hL.cnt' hc with h5 | h5 <;> rw [e', hL.b] at h5 <;> cases h5
  · refine ⟨(patch_old hgbl).trans hL.b, fun b hb => (patch_old (own_lt hg.lims b hb)).trans (hL.lv b hb), fun b hb => ?_, fun c hc => ?_⟩
    · have := hsvlt b hb
      rw [patch_new (by omega) this.2, if_neg (by omega)]
    · rcases kins_mem hc with rfl | hc
      · rw [patch_new (Nat.le_refl _) hn, if_pos rfl, if_pos rfl]; rfl
      · rw [patch_old (lt_of (hg.cnts c hc))]; exact hL.cnt c hc
  · intro b hb
    have : b = g.b := by simpa using hb
    rw [this, hL.b]; rfl
  · refine ⟨ho.kind, ho.lims, ?_, ?_, ?_, ?_, ho.lb⟩
    · show KSrt lt ((kins g.ser i _).map fun c => c.x.plain)
      rw [kins_map]; exact hsrt
    · show (kins g.ser i _).length ≤ 24
      rw [hlen]; omega
    · intro c hc
      rcases kins_mem hc with rfl | hc
      · exact CntOk.zero _ _ hp
      · exact ho.each c hc
    · intro c hc
      rcases kins_mem hc with rfl | hc
      · exact Nat.le_of_eq hage.symm
      · exact ho.ages c hc

theorem ser_put {g : GF} {m : Nat} {C D : List GC} {c c' : GC} (ho : GF.Ok m g) (e : g.ser = C ++ c :: D) (m' : Nat) (hm : m ≤ m') (hp : c'.x.plain = c.x.plain) (hx : CntOk m' c'.x) (ha : c'.age ≤ g.age) : GF.Ok m' { g with ser := C ++ c' :: D } := by
  refine ⟨ho.kind, ho.lims, ?_, ?_, ?_, ?_, ho.lb⟩
  · have hs := ho.srt
    rw [e] at hs
    show KSrt lt ((C ++ c' :: D).map fun c => c.x.plain)
    simpa [hp] using hs
  · have := ho.len
    rw [e] at this
    simpa using this
  · intro d hd
    simp only [List.mem_append, List.mem_cons] at hd
    rcases hd with hd | rfl | hd
    · exact (ho.each d (by rw [e]; simp [hd])).mono hm
    · exact hx
    · exact (ho.each d (by rw [e]; simp [hd])).mono hm
  · intro d hd
    simp only [List.mem_append, List.mem_cons] at hd
    rcases hd with hd | rfl | hd
    · exact ho.ages d (by rw [e]; simp [hd])
    · exact ha
    · exact ho.ages d (by rw [e]; simp [hd])
theorem plain_ne {g : GF} {m : Nat} {C D : List GC} {c : GC} (ho : GF.Ok m g) (e : g.ser = C ++ c :: D) : ∀ d, d ∈ C ∨ d ∈ D → d.x.plain ≠ c.x.plain := by
  intro d hd he
  have hs := ho.srt
  rw [e] at hs
  unfold KSrt at hs
  simp only [List.map_append, List.map_cons, List.pairwise_append, List.pairwise_cons, List.mem_map, List.mem_cons] at hs
  rcases hd with hd | hd
  · have := hs.2.2 _ ⟨d, hd, rfl⟩ _ (Or.inl rfl)
    rw [he, lt_irrefl] at this; cases this
  · have := hs.2.1.1 _ ⟨d, hd, rfl⟩
    rw [he, lt_irrefl] at this; cases this

theorem gCount (t : GT) (A B' : List GF) (g : GF) (n : Int) (C D : List GC) (c : GC) (m : Nat) (w : World) (h : GT.At w t) (eF : t.fams = A ++ g :: B') (hdist : ∀ k, k ∈ A ∨ k ∈ B' → k.nm ≠ g.nm) (hage : g.age = t.age) (ho : GF.Ok m g)
    (e : g.ser = C ++ c :: D) (hca : c.age = t.age) (hn : inB n = true) (hm : m ≤ 4611686018427387904) :
    Calls Tryz.prog 69 #[.pointer (some ⟨g.b, 0, none⟩), .pointer (some ⟨c.b, 0, none⟩), .int .i64 n] w
      fun r w' => r = .returned (.tuple #[]) ∧ ∃ t', Upd t t' w w' (A ++ { g with ser := C ++ ⟨c.b, c.age, countP g.kind g.ls n c.x⟩ :: D } :: B') ∧ GF.Ok (m + 1) { g with ser := C ++ ⟨c.b, c.age, countP g.kind g.ls n c.x⟩ :: D } := by
  have hgm : g ∈ t.fams := by rw [eF]; simp
  have hg := h.each g hgm
  have hL := h.labOf hgm hage
  have hc : c ∈ g.ser := by rw [e]; simp
  have hlc : t.lab c.b = .cnt g.nm c.x.plain := by rw [hL.cnt c hc, if_pos hca]
  have hfc : g.b ≠ c.b := fun e' => by rw [← e', hL.b] at hlc; cases hlc
  have hlv : g.lv.ownBlock ≠ some c.b := fun e' => by
    have := hL.lv c.b (by simp [e'])
    rw [hlc] at this; cases this
  refine (count_any g.b c.b g.age c.age g.nm g.kind g.lv g.sv 0 g.ls n c.x m w hg.blk (hg.cnts c hc) hfc (ho.each c hc) hm hn ho.kind hg.lims hlv ho.lims.1 ho.lims.2).mono ?_
  rintro r w' ⟨rfl, h1, h2⟩
  have hsame : ∀ b, b < w.heap.size → t.lab b ≠ .cnt g.nm c.x.plain → w'.heap[b]? = w.heap[b]? := fun b hb hne => h2.block b hb (fun e' => hne (by rw [show b = c.b by simpa using e']; exact hlc))
  have eb : (C ++ (⟨c.b, c.age, countP g.kind g.ls n c.x⟩ : GC) :: D).map GC.b = g.ser.map GC.b := by rw [e]; simp
  refine ⟨rfl, _, upd_fam (g' := { g with ser := C ++ ⟨c.b, c.age, countP g.kind g.ls n c.x⟩ :: D }) h eF hdist rfl rfl hage ?_ (fun _ => .shr) ?_ [c.b] (Kept.of_some h2 _ (Or.inl (by simp))) ?_, ser_put ho e (m + 1) (Nat.le_succ m) (countP_plain _ _ _ _) ((ho.each c hc).count g.kind g.ls n hn) (ho.ages c hc)⟩
  · refine ⟨(hsame _ (lt_of hg.blk) (by rw [hL.b]; simp)).trans hg.blk, own_frame hg.lims fun b hb => hsame b (own_lt hg.lims b hb) (by rw [hL.lv b hb]; simp), ?_, ?_⟩
    · show w'.ownsRow 0 120 1 g.sv (C ++ (⟨c.b, c.age, countP g.kind g.ls n c.x⟩ : GC) :: D).length (ptrs ((C ++ (⟨c.b, c.age, countP g.kind g.ls n c.x⟩ : GC) :: D).map GC.b))
      rw [eb, show (C ++ (⟨c.b, c.age, countP g.kind g.ls n c.x⟩ : GC) :: D).length = g.ser.length from by rw [e]; simp]
      exact own_frame hg.rows fun b hb => hsame b (own_lt hg.rows b hb) (by rw [hL.sv b hb]; simp)
    · intro d hd
      simp only [List.mem_append, List.mem_cons] at hd
      have hold : ∀ d, d ∈ C ∨ d ∈ D → w'.heap[d.b]? = some (cntObj d.age d.x) := fun d hd => by
        have hd' : d ∈ g.ser := by
          rw [e]; simp only [List.mem_append, List.mem_cons]
          rcases hd with h | h
          · exact Or.inl h
          · exact Or.inr (Or.inr h)
        refine (hsame d.b (lt_of (hg.cnts d hd')) (fun e' => ?_)).trans (hg.cnts d hd')
        rcases hL.cnt' hd' with h5 | h5
        · rw [h5] at e'
          have : d.x.plain = c.x.plain := by injection e'
          exact plain_ne ho e d hd this
        · rw [h5] at e'; cases e'
      rcases hd with hd | rfl | hd
      · exact hold d (Or.inl hd)
      · exact h1
      · exact hold d (Or.inr hd)
  · refine ⟨(patch_old (lt_of hg.blk)).trans hL.b, fun b hb => (patch_old (own_lt hg.lims b hb)).trans (hL.lv b hb), fun b hb => (patch_old (own_lt hg.rows b hb)).trans (hL.sv b hb), fun d hd => ?_⟩
    simp only [List.mem_append, List.mem_cons] at hd
    have hold : ∀ d ∈ g.ser, patch w.heap.size w'.heap.size t.lab (fun _ => .shr) d.b = if d.age = t.age then .cnt g.nm d.x.plain else .shr := fun d hd => (patch_old (lt_of (hg.cnts d hd))).trans (hL.cnt d hd)
    rcases hd with hd | rfl | hd
    · exact hold d (by rw [e]; simp [hd])
    · have := hold c hc
      simpa [countP_plain] using this
    · exact hold d (by rw [e]; simp [hd])
  · intro b hb
    have : b = c.b := by simpa using hb
    rw [this, hlc]; rfl

theorem gOwn (t : GT) (A B' : List GF) (g : GF) (C D : List GC) (c : GC) (m : Nat) (w : World) (h : GT.At w t) (eF : t.fams = A ++ g :: B') (hdist : ∀ k, k ∈ A ∨ k ∈ B' → k.nm ≠ g.nm) (hage : g.age = t.age) (ho : GF.Ok m g) (e : g.ser = C ++ c :: D) :
    Calls Tryz.prog 70 #[.pointer (some ⟨g.b, 0, none⟩), .int .i64 (C.length : Int)] w
      fun r w' => ∃ t' c', r = .returned (.pointer (some ⟨c'.b, 0, none⟩)) ∧ c'.age = t.age ∧ c'.x = c.x ∧ Upd t t' w w' (A ++ { g with ser := C ++ c' :: D } :: B') ∧ GF.Ok m { g with ser := C ++ c' :: D } := by
  have hgm : g ∈ t.fams := by rw [eF]; simp
  have hg := h.each g hgm
  have hL := h.labOf hgm hage
  have hc : c ∈ g.ser := by rw [e]; simp
  have hlt : C.length < g.ser.length := by rw [e]; simp
  obtain ⟨gb, cap, hsv⟩ : ∃ gb cap, g.sv = .slice (some ⟨gb, 0, none⟩) g.ser.length cap := by
    rcases hg.rows.2 with ⟨_, h0⟩ | ⟨g', cap', cur, hv, _⟩
    · omega
    · exact ⟨g', cap', hv⟩
  have hl : (g.ser.map GC.b).length = g.ser.length := by simp
  have hblk := hg.blk
  have hrows := hg.rows
  rw [hsv] at hblk hrows
  have hlg : t.lab gb = .arr g.nm := hL.sv gb (by rw [hsv]; simp [Value.ownBlock])
  refine (famOwn_any g.b g.age g.nm g.kind g.lv gb cap C.length c.b c.age (g.ser.map GC.b) c.x w (by rw [hl]; exact hblk) (by rw [hl]; exact hrows) (by rw [hl]; exact hlt) (by simp [e]) (hg.cnts c hc) (ho.each c hc).len (ho.ages c hc)).mono ?_
  rintro r w' (⟨ea, rfl, g1⟩ | ⟨ea, rfl, h1, h2, h3⟩)
  · have hu := Upd.same h g1
    refine ⟨t, c, rfl, ea.trans hage, rfl, ?_, ?_⟩
    · rw [← e, ← eF]; exact hu
    · rw [← e]; exact ho
  · rw [hl] at h2
    have hsame : ∀ b, b < w.heap.size → t.lab b ≠ .arr g.nm → w'.heap[b]? = w.heap[b]? := fun b hb hne => h3.block b hb (fun e' => hne (by rw [show b = gb by simpa using e']; exact hlg))
    have eb : (C ++ (⟨w.heap.size, t.age, c.x⟩ : GC) :: D).map GC.b = (g.ser.map GC.b).set C.length w.heap.size := by rw [e]; simp
    have hn : w.heap.size < w'.heap.size := lt_of h1
    refine ⟨_, ⟨w.heap.size, t.age, c.x⟩, rfl, rfl, rfl, upd_fam (g' := { g with ser := C ++ ⟨w.heap.size, t.age, c.x⟩ :: D }) h eF hdist rfl rfl hage ?_ (fun _ => .cnt g.nm c.x.plain) ?_ [gb] (Kept.of_some h3 _ (Or.inl (by simp))) ?_, ser_put ho e m (Nat.le_refl m) rfl (ho.each c hc) (Nat.le_of_eq hage.symm)⟩
    · refine ⟨(hsame _ (lt_of hg.blk) (by rw [hL.b]; simp)).trans hg.blk, own_frame hg.lims fun b hb => hsame b (own_lt hg.lims b hb) (by rw [hL.lv b hb]; simp), ?_, ?_⟩
      · show w'.ownsRow 0 120 1 g.sv (C ++ (⟨w.heap.size, t.age, c.x⟩ : GC) :: D).length (ptrs ((C ++ (⟨w.heap.size, t.age, c.x⟩ : GC) :: D).map GC.b))
        rw [eb, show (C ++ (⟨w.heap.size, t.age, c.x⟩ : GC) :: D).length = g.ser.length from by rw [e]; simp, hsv]
        exact h2
      · intro d hd
        simp only [List.mem_append, List.mem_cons] at hd
        have hold : ∀ d ∈ g.ser, w'.heap[d.b]? = some (cntObj d.age d.x) := fun d hd => by
          refine (hsame d.b (lt_of (hg.cnts d hd)) (fun e' => ?_)).trans (hg.cnts d hd)
          rcases hL.cnt' hd with h5 | h5 <;> rw [h5] at e' <;> cases e'
        rcases hd with hd | rfl | hd
        · exact hold d (by rw [e]; simp [hd])
        · show w'.heap[w.heap.size]? = some (cntObj t.age c.x)
          rw [← hage]; exact h1
        · exact hold d (by rw [e]; simp [hd])
    · refine ⟨(patch_old (lt_of hg.blk)).trans hL.b, fun b hb => (patch_old (own_lt hg.lims b hb)).trans (hL.lv b hb), fun b hb => (patch_old (own_lt hg.rows b hb)).trans (hL.sv b hb), fun d hd => ?_⟩
      simp only [List.mem_append, List.mem_cons] at hd
      have hold : ∀ d ∈ g.ser, patch w.heap.size w'.heap.size t.lab (fun _ => .cnt g.nm c.x.plain) d.b = if d.age = t.age then .cnt g.nm d.x.plain else .shr := fun d hd => (patch_old (lt_of (hg.cnts d hd))).trans (hL.cnt d hd)
      rcases hd with hd | rfl | hd
      · exact hold d (by rw [e]; simp [hd])
      · rw [patch_new (Nat.le_refl _) hn, if_pos rfl]
      · exact hold d (by rw [e]; simp [hd])
    · intro b hb
      have : b = gb := by simpa using hb
      rw [this, hlg]; rfl

theorem gRemove (t : GT) (A B' : List GF) (g : GF) (i m : Nat) (w : World) (h : GT.At w t) (eF : t.fams = A ++ g :: B') (hdist : ∀ k, k ∈ A ∨ k ∈ B' → k.nm ≠ g.nm) (hage : g.age = t.age) (ho : GF.Ok m g) (hi : i < g.ser.length) :
    Calls Tryz.prog 79 #[.pointer (some ⟨g.b, 0, none⟩), .int .i64 (i : Int)] w
      fun r w' => r = .returned (.tuple #[]) ∧ ∃ t' g', g' = { g with sv := g'.sv, ser := cut1 g.ser i } ∧ Upd t t' w w' (A ++ g' :: B') ∧ GF.Ok m g' := by
  have hgm : g ∈ t.fams := by rw [eF]; simp
  have hg := h.each g hgm
  have hL := h.labOf hgm hage
  obtain ⟨gb, cap, hsv⟩ : ∃ gb cap, g.sv = .slice (some ⟨gb, 0, none⟩) g.ser.length cap := by
    rcases hg.rows.2 with ⟨_, h0⟩ | ⟨g', cap', cur, hv, _⟩
    · omega
    · exact ⟨g', cap', hv⟩
  have hblk := hg.blk
  have hrows := hg.rows
  rw [hsv] at hblk hrows
  have hl : (g.ser.map GC.b).length = g.ser.length := by simp
  have hlen := ho.len
  have hlg : t.lab gb = .arr g.nm := hL.sv gb (by rw [hsv]; simp [Value.ownBlock])
  refine (remove_any g.b g.age gb cap i g.nm g.kind g.lv (g.ser.map GC.b) w (by rw [hl]; exact hblk) (by rw [hl]; exact hrows) (by rw [hl]; exact hi) (by rw [hl]; omega)).mono ?_
  rintro r w' ⟨rfl, h1, h2, h3⟩
  rw [hl] at h1 h2
  have hsame : ∀ b, b < w.heap.size → t.lab b ≠ .fam g.nm → t.lab b ≠ .arr g.nm → w'.heap[b]? = w.heap[b]? := fun b hb n1 n2 => h3.block b hb (fun hm => by
    simp only [List.mem_cons, List.not_mem_nil, or_false] at hm
    rcases hm with rfl | rfl
    · exact n1 hL.b
    · exact n2 hlg)
  refine ⟨rfl, _, { g with sv := .slice (some ⟨gb, 0, none⟩) (g.ser.length - 1) cap, ser := cut1 g.ser i }, rfl, upd_fam (g' := { g with sv := .slice (some ⟨gb, 0, none⟩) (g.ser.length - 1) cap, ser := cut1 g.ser i }) h eF hdist rfl rfl hage ?_ (fun _ => .shr) ?_ [g.b, gb] h3 ?_, ⟨ho.kind, ho.lims, ?_, ?_, fun c hc => ho.each c (cut1_mem hc), fun c hc => ho.ages c (cut1_mem hc), ho.lb⟩⟩
  · refine ⟨h1, own_frame hg.lims fun b hb => hsame b (own_lt hg.lims b hb) (by rw [hL.lv b hb]; simp) (by rw [hL.lv b hb]; simp), ?_, fun c hc => ?_⟩
    · show w'.ownsRow 0 120 1 _ (cut1 g.ser i).length (ptrs ((cut1 g.ser i).map GC.b))
      rw [cut1_len _ _ hi, cut1_map]; exact h2
    · have hc' := cut1_mem hc
      refine (hsame c.b (lt_of (hg.cnts c hc')) (fun e' => ?_) (fun e' => ?_)).trans (hg.cnts c hc')
      · rcases hL.cnt' hc' with h5 | h5 <;> rw [h5] at e' <;> cases e'
      · rcases hL.cnt' hc' with h5 | h5 <;> rw [h5] at e' <;> cases e'
  · refine ⟨(patch_old (lt_of hg.blk)).trans hL.b, fun b hb => (patch_old (own_lt hg.lims b hb)).trans (hL.lv b hb), fun b hb => ?_, fun c hc => (patch_old (lt_of (hg.cnts c (cut1_mem hc)))).trans (hL.cnt c (cut1_mem hc))⟩
    have : b = gb := by simpa [Value.ownBlock] using hb
    rw [this, patch_old (own_lt hg.rows gb (by rw [hsv]; simp [Value.ownBlock]))]; exact hlg
  · intro b hb
    simp only [List.mem_cons, List.not_mem_nil, or_false] at hb
    rcases hb with rfl | rfl
    · rw [hL.b]; rfl
    · rw [hlg]; rfl
  · show KSrt lt ((cut1 g.ser i).map fun c => c.x.plain)
    rw [cut1_map]
    have hs := ho.srt
    unfold KSrt at hs ⊢
    have hsp := split_at (g.ser.map fun c => c.x.plain) i (by simpa using hi)
    rw [hsp] at hs
    unfold cut1
    rw [List.pairwise_append] at hs ⊢
    exact ⟨hs.1, (List.pairwise_cons.1 hs.2.1).2, fun a ha b hb => hs.2.2 a ha b (by simp [hb])⟩
  · show (cut1 g.ser i).length ≤ 24
    rw [cut1_len _ _ hi]; omega

end Go.Proofs.YtcfdemhokbddiaaGreatDoor
