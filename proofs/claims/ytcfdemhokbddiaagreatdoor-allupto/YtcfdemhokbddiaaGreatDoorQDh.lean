/-
  The document's Lines, walked.
-/
import Derived.Test.YtcfdemhokbddiaaGreatDoorQDa

namespace Go.Proofs.YtcfdemhokbddiaaGreatDoor
open Go.RowKit

/-- The lines of the first families that are not below a name. -/
def linTo (T : List Fam) (fr : List UInt8) (j : Nat) : List (List UInt8) := ((T.take j).filter fun f => !lt f.nm fr).flatMap famLines
theorem linTo_in (T : List Fam) (fr : List UInt8) (j : Nat) (h : j < T.length) (hl : lt (T[j]).nm fr = false) : linTo T fr (j + 1) = linTo T fr j ++ famLines T[j] := by
  unfold linTo
  rw [take_snoc' T j h, List.filter_append, List.flatMap_append]
  simp [hl]
theorem linTo_out (T : List Fam) (fr : List UInt8) (j : Nat) (h : j < T.length) (hl : lt (T[j]).nm fr = true) : linTo T fr (j + 1) = linTo T fr j := by
  unfold linTo
  rw [take_snoc' T j h, List.filter_append, List.flatMap_append]
  simp [hl]
/-- The text at a place in an order; none: the empty one. -/
def nthT (S : List (List UInt8)) (j : Nat) : List UInt8 := S.getD j []
theorem nthT_lt (S : List (List UInt8)) (j : Nat) (h : j < S.length) : nthT S j = S[j] := by unfold nthT; rw [List.getD_eq_getElem?_getD, List.getElem?_eq_getElem h]; rfl
theorem nthT_end (S : List (List UInt8)) (j : Nat) (h : S.length ≤ j) : nthT S j = [] := by unfold nthT; rw [List.getD_eq_getElem?_getD, List.getElem?_eq_none h]; rfl
/-- Where the loop over families has come. -/
structure LI (Wn : World) (T : List Fam) (fr : List UInt8) (j : Nat) (v : Value) (wr : World) : Prop where
  row : wr.ownsRow Wn.heap.size 9 1 v (linTo T fr j).length (strs (linTo T fr j))
  gb : Wn.grownBy wr none
theorem sub_len {α β : Type} (g : α → List β) (p : α → Bool) : ∀ l : List α, ((l.filter p).flatMap g).length ≤ (l.flatMap g).length
  | [] => by simp
  | x :: l => by
    have := sub_len g p l
    rw [List.filter_cons]
    split
    · simp only [List.flatMap_cons, List.length_append]; omega
    · simp only [List.flatMap_cons, List.length_append]; omega
theorem serL_len {kind : Int} {ls : List Int} (hl : ls.length ≤ 4) : ∀ s : List Cnt, (s.flatMap (serLines kind ls)).length ≤ 5 * s.length
  | [] => by simp
  | c :: s => by
    have := serL_len (kind := kind) hl s
    have h1 : (serLines kind ls c).length ≤ 5 := by unfold serLines; simp; omega
    simp only [List.flatMap_cons, List.length_append, List.length_cons]; omega
theorem fams_len : ∀ {T : List Fam}, (∀ f ∈ T, f.ls.length ≤ 4) → (T.flatMap famLines).length ≤ T.length + 5 * sizeOfAll T
  | [], _ => by simp
  | f :: T, h => by
    have h1 := fams_len (T := T) fun g hg => h g (by simp [hg])
    have h2 := serL_len (kind := f.kind) (h f (by simp)) f.ser
    simp only [List.flatMap_cons, List.length_append, List.length_cons, famLines, sizeOfAll, List.map_cons, List.sum_cons] at h1 ⊢
    omega
theorem size_le24 {w : World} {T : List Fam} {r : RB} (h : DC w T r) : sizeOfAll T ≤ 24 ∧ T.length ≤ 8 := by
  have h1 := h.rel.texts.length_eq
  have h2 := h.rel.fams.length_eq
  rw [← size_plains] at h1
  have h3 := h.slen
  have h4 := h.flen
  simp [textsOf, RB.view] at h1
  simp [famsOf, RB.view] at h2
  omega
theorem ser_le24 {w : World} {T : List Fam} {r : RB} (h : DC w T r) {f : Fam} (hf : f ∈ T) : f.ser.length ≤ 24 := by
  have h1 := (size_le24 h).1
  obtain ⟨A, B', e⟩ := List.append_of_mem hf
  rw [e] at h1
  simp [sizeOfAll] at h1
  omega
theorem linTo_len {w : World} {T : List Fam} {r : RB} (h : DC w T r) (fr : List UInt8) (j : Nat) : (linTo T fr j).length ≤ 1000 := by
  have h1 := sub_len famLines (fun f => !lt f.nm fr) (T.take j)
  have h2 : ((T.take j).flatMap famLines).length ≤ (T.flatMap famLines).length := by
    have e : T.flatMap famLines = (T.take j).flatMap famLines ++ (T.drop j).flatMap famLines := by rw [← List.flatMap_append, List.take_append_drop]
    rw [e, List.length_append]; omega
  have h3 := fams_len (T := T) fun f hf => (fit_facts (h.rel.fit f hf)).2.1
  have h4 := size_le24 h
  unfold linTo; omega
/-- The lines of a family's first series, behind what came ahead. -/
def serTo (LT : List (List UInt8)) (XT : List UInt8) (f : Fam) (i : Nat) : List (List UInt8) := LT ++ XT :: (f.ser.take i).flatMap (serLines f.kind f.ls)
theorem serTo_succ (LT : List (List UInt8)) (XT : List UInt8) (f : Fam) (i : Nat) (h : i < f.ser.length) : serTo LT XT f (i + 1) = serTo LT XT f i ++ serLines f.kind f.ls f.ser[i] := by
  unfold serTo
  rw [take_snoc' f.ser i h, List.flatMap_append]
  simp
theorem serTo_len {LT : List (List UInt8)} {XT : List UInt8} {f : Fam} (i : Nat) (hl : f.ls.length ≤ 4) (hs : f.ser.length ≤ 24) (h : LT.length ≤ 1000) : (serTo LT XT f i).length ≤ 1200 := by
  have h1 := serL_len (kind := f.kind) hl (f.ser.take i)
  have h2 := List.length_take_le i f.ser
  have h3 : (f.ser.take i).length ≤ f.ser.length := by rw [List.length_take]; omega
  unfold serTo
  simp only [List.length_append, List.length_cons]; omega
theorem own_base {w : World} {base : Nat} {e : TypeId} {v : Value} {n : Nat} {xs : List Value} (h : w.ownsRow base e 1 v n xs) : ∀ b ∈ v.ownBlock.toList, base ≤ b := fun b hb => by
  rcases h.2 with ⟨h1, _⟩ | ⟨g, cap, cur, h1, h2, _⟩
  · rw [h1] at hb; simp [Value.ownBlock] at hb
  · rw [h1] at hb; simp [Value.ownBlock] at hb; omega
theorem slBlk_own {v : Value} {b : Nat} (h : b ∈ slBlk v) : b ∈ v.ownBlock.toList := by
  unfold slBlk at h
  split at h
  · split at h
    · simp at h
    · simpa [Value.ownBlock] using h
  · simp at h
/-- Where the loop over a family's series has come. -/
structure LJ (Wn : World) (fb : Nat) (fo : Obj) (tv : Value) (TX LT : List (List UInt8)) (XT : List UInt8) (f : Fam) (i : Nat) (v : Value) (w : World) : Prop where
  row : w.ownsRow Wn.heap.size 9 1 v (serTo LT XT f i).length (strs (serTo LT XT f i))
  gb : Wn.grownBy w none
  fam : w.heap[fb]? = some fo
  tx : StrSl w tv TX
  far : ∀ b ∈ v.ownBlock.toList, b ≠ fb ∧ b ∉ slBlk tv

set_option maxRecDepth 100000 in
set_option maxHeartbeats 8000000 in
theorem lines86_any (T : List Fam) (r : RB) (fr : List UInt8) (w : World) (h : DC w T r) :
    Calls Tryz.prog 86 #[.pointer (some ⟨r.b, 0, none⟩), .string (B fr)] w fun e w' => ∃ v, e = .returned v ∧ w'.ownsRow w.heap.size 9 1 v (linTo T fr T.length).length (strs (linTo T fr T.length)) ∧ w.grownBy w' none := by
  have HD : Hid (DC w T r) := h
  obtain ⟨c0, c1, _, _⟩ := rb_cells h.at_
  obtain ⟨fa, fc, hfv, _, hfa⟩ := own_shape3 h.at_.frows
  obtain ⟨sa, sc, hsv, _, hsa⟩ := own_shape3 h.at_.srows
  have hflen := h.flen
  have hslen := h.slen
  have HFC : Hid (∀ k (hk : k < r.fams.length), ∃ ga, fa = some ⟨ga, 0, none⟩ ∧ w.cell? ⟨ga, k * 3, none⟩ = some (.string (B (r.fams[k]).nm)) ∧ w.cell? ⟨ga, k * 3 + 1, none⟩ = some (.int .i64 (r.fams[k]).kind) ∧ w.cell? ⟨ga, k * 3 + 2, none⟩ = some (r.fams[k]).lv) := fun k hk => by
    obtain ⟨ga, e⟩ : ∃ ga, fa = some ⟨ga, 0, none⟩ := by
      rcases hfa with ⟨_, h0, _⟩ | ⟨ga, h1, _⟩
      · omega
      · exact ⟨ga, h1⟩
    have hr := h.at_.frows
    rw [hfv, e] at hr
    have q0 := row3_cell hr (fun x => rfl) k hk 0 (by omega) _ rfl
    rw [Nat.add_zero] at q0
    exact ⟨ga, e, q0, row3_cell hr (fun x => rfl) k hk 1 (by omega) _ rfl, row3_cell hr (fun x => rfl) k hk 2 (by omega) _ rfl⟩
  have HSC : Hid (∀ k (hk : k < r.ser.length), ∃ ga, sa = some ⟨ga, 0, none⟩ ∧ w.cell? ⟨ga, k * 3, none⟩ = some (.string (B (r.ser[k]).fam)) ∧ w.cell? ⟨ga, k * 3 + 1, none⟩ = some (.string (B (r.ser[k]).text)) ∧ w.cell? ⟨ga, k * 3 + 2, none⟩ = some (r.ser[k]).nv) := fun k hk => by
    obtain ⟨ga, e⟩ : ∃ ga, sa = some ⟨ga, 0, none⟩ := by
      rcases hsa with ⟨_, h0, _⟩ | ⟨ga, h1, _⟩
      · omega
      · exact ⟨ga, h1⟩
    have hr := h.at_.srows
    rw [hsv, e] at hr
    have q0 := row3_cell hr (fun x => rfl) k hk 0 (by omega) _ rfl
    rw [Nat.add_zero] at q0
    exact ⟨ga, e, q0, row3_cell hr (fun x => rfl) k hk 1 (by omega) _ rfl, row3_cell hr (fun x => rfl) k hk 2 (by omega) _ rfl⟩
  rw [hfv] at c0
  rw [hsv] at c1
  have HC0 : Hid (w.cell? ⟨r.b, 0, none⟩ = some (.slice fa r.fams.length fc)) := c0
  have HC1 : Hid (w.cell? ⟨r.b, 1, none⟩ = some (.slice sa r.ser.length sc)) := c1
  clear h hfv hsv hfa hsa c0 c1
  go_enter Tryz.func86, Tryz.ntmps86
  go_wp2_with fail
  go_loopw [5, 6] (fun v i wr => ∃ k : Nat, i = .int .i64 (k : Int) ∧ k ≤ r.fams.length ∧ Hid (wr.ownsRow w.heap.size 9 1 v k (strs ((r.fams.take k).map RF.nm)) ∧ w.grownBy wr none)) (fun _ i _ => r.fams.length - (intOf i).toNat)
  case atStart => exact ⟨0, rfl, Nat.zero_le _, own_nil _ _ _, gb_refl _ _⟩
  case round =>
    obtain ⟨k, rfl, hk, HR⟩ := hrel
    obtain ⟨va, vc, rfl, _, _⟩ := own_shape1 HR.out.1
    have C0 := gb_cell HR.out.2 HC0.out (by simp)
    by_cases hlt : k < r.fams.length
    · obtain ⟨ga, rfl, q0, _, _⟩ := HFC.out k hlt
      have Q0 := gb_cell HR.out.2 q0 (by simp)
      have HTK : Hid ((r.fams.take (k + 1)).map RF.nm = (r.fams.take k).map RF.nm ++ [(r.fams[k]).nm]) := by
        show _ = _
        rw [take_snoc' r.fams k hlt, List.map_append]; rfl
      obtain ⟨x, hx⟩ : ∃ x, (r.fams[k]).nm = x := ⟨_, rfl⟩
      rw [hx] at Q0 HTK
      have hki : (k : Int) < (r.fams.length : Int) := by omega
      have hr3 : (wr.alloc (.cells #[.string (B x)] 9)).ownsRow w.heap.size 9 1 (.slice va k vc) k (strs ((r.fams.take k).map RF.nm)) := own_frame HR.out.1 fun b hb => (gb_alloc (gb_refl wr none) _).block b (own_lt HR.out.1 b hb) (by simp)
      have hi3 : (wr.alloc (.cells #[.string (B x)] 9)).ownsRow wr.heap.size 9 1 (.slice (some ⟨wr.heap.size, 0, none⟩) 1 1) 1 (strs [x]) := one_row (alloc_new _ _ _ rfl)
      have HG3 : Hid (w.grownBy (wr.alloc (.cells #[.string (B x)] 9)) none) := gb_alloc HR.out.2 _
      have HR3 : Hid ((wr.alloc (.cells #[.string (B x)] 9)).ownsRow w.heap.size 9 1 (.slice va k vc) k (strs ((r.fams.take k).map RF.nm))) := hr3
      have hsz : w.heap.size ≤ (wr.alloc (.cells #[.string (B x)] 9)).heap.size := HG3.out.size
      clear q0 hx
      go_wp2_with (at_builtin; refine wpList_append_rows _ rfl _ _ rfl rfl w.heap.size wr.heap.size _ k (strs ((r.fams.take k).map RF.nm)) rfl hr3 _ 1 [x] rfl hi3 hsz (by omega) ?_; intro v' w4 own4 g4; obtain ⟨xa, xc, rfl, _, _⟩ := own_shape1 own4)
      go_roundw
      case rel => exact ⟨k + 1, by go_num, by omega, ⟨by rw [HTK.out, ← strs_snoc]; exact own4, gb_row1 HG3.out HR3.out g4⟩⟩
      case measure => simp [intOf]; omega
    · obtain rfl : k = r.fams.length := by omega
      have hki : ¬ (r.fams.length : Int) < (r.fams.length : Int) := by omega
      have hstr := (strSl_of_row HR.out.1).2
      rw [List.take_length] at hstr
      have HNS : Hid (StrSl wr (.slice va r.fams.length vc) (r.fams.map RF.nm)) := hstr
      have HLE : Hid (∀ V a, wr.grownBy V none → Calls Tryz.prog 119 #[.slice va r.fams.length vc, .string (B a)] V fun e w' => ∃ b, e = .returned (.string (B b)) ∧ LeastTo (r.fams.map RF.nm) a (r.fams.map RF.nm).length b ∧ ∃ q, w' = V.drewN q) := fun V a gV => least_any _ _ a V (HNS.out.frame gV.size fun b hb => gV.block b (HNS.out.lt b hb) (by simp)) (by simp; omega)
      have HGN : Hid (w.grownBy wr none) := HR.out.2
      have HTL : Hid (T.length = r.fams.length) := by
        show _ = _
        have := HD.out.rel.fams.length_eq
        simpa [famsOf, RB.view] using this
      clear hstr HR
      obtain ⟨Wn, hWn⟩ : ∃ Wn, Wn = wr := ⟨_, rfl⟩
      subst hWn
      go_wp2_with fail
      refine (HLE.out _ [] (gb_refl _ _)).mono ?_
      rintro e w1 ⟨b1, rfl, hb1, q, rfl⟩
      have hfirst : b1 = nthT (T.map Fam.nm) 0 := next_first (HD.out.fams) HD.out.srt HD.out.nm_ne hb1
      subst hfirst
      clear hb1
      go_wp2_with fail
      go_loopw [7, 8] (fun v nm w2 => ∃ j : Nat, nm = .string (B (nthT (T.map Fam.nm) j)) ∧ j ≤ T.length ∧ Hid (LI Wn T fr j v w2)) (fun _ nm _ => rank (T.map Fam.nm) (strOf nm))
      case atStart => exact ⟨0, rfl, Nat.zero_le _, own_nil _ _ _, gb_drewN _ _ _⟩
      case round =>
        obtain ⟨j, rfl, hj, HR⟩ := hrel
        obtain ⟨oa, oc, rfl, _, _⟩ := own_shape1 HR.out.row
        by_cases hjl : j < T.length
        · have hnx : nthT (T.map Fam.nm) j = (T[j]).nm := by rw [nthT_lt _ _ (by simpa using hjl)]; simp
          obtain ⟨f, hf⟩ : ∃ f, T[j] = f := ⟨_, rfl⟩
          have hfm : f ∈ T := by rw [← hf]; exact List.getElem_mem hjl
          rw [hf] at hnx
          have HNX : Hid (∀ b, LeastTo (r.fams.map RF.nm) f.nm (r.fams.map RF.nm).length b → b = nthT (T.map Fam.nm) (j + 1)) := fun b hb =>
            next_on HD.out.fams HD.out.srt j (by simpa using hjl) (b := b) (by rw [List.getElem_map, hf]; exact hb)
          have HRK : Hid (rank (T.map Fam.nm) (nthT (T.map Fam.nm) (j + 1)) < rank (T.map Fam.nm) f.nm) := by
            show _ < _
            rw [← hnx]
            unfold nthT
            rw [rank_at HD.out.srt HD.out.nm_ne (j + 1) (by simp; omega), rank_at HD.out.srt HD.out.nm_ne j (by simp; omega)]
            simp; omega
          have HLO := fun hh => linTo_out T fr j hjl hh
          have HLN := fun hh => linTo_in T fr j hjl hh
          rw [hf] at HLO HLN
          have hne : f.nm ≠ [] := HD.out.rel.named f hfm
          have hE : ¬ (B f.nm).toList = [] := by rw [toList_B]; exact hne
          have hemp : (B f.nm).toList.isEmpty = false := by rw [toList_B]; cases hq : f.nm with | nil => exact absurd hq hne | cons _ _ => rfl
          have HFM : Hid (f ∈ T) := hfm
          rw [hnx]
          clear hnx hf hne hfm
          cases hlf : lt f.nm fr with
          | true =>
            have hless : Op.bytesLess (B f.nm).toList (B fr).toList = true := by rw [toList_B, toList_B]; exact hlf
            have HLT : Hid (linTo T fr (j + 1) = linTo T fr j) := HLO hlf
            clear HLO HLN hlf
            go_wp2_with fail
            refine (HLE.out _ f.nm HR.out.gb).mono ?_
            rintro e w3 ⟨b2, rfl, hb2, q2, rfl⟩
            obtain rfl := HNX.out b2 hb2
            clear hb2
            go_wp2
            go_roundw
            case rel => exact ⟨j + 1, rfl, by omega, ⟨by rw [HLT.out]; exact own_frame HR.out.row fun b hb => rfl, gb_d HR.out.gb⟩⟩
            case measure => rw [strOf_B, strOf_B]; exact HRK.out
          | false =>
            have hless : Op.bytesLess (B f.nm).toList (B fr).toList = false := by rw [toList_B, toList_B]; exact hlf
            have HLT : Hid (linTo T fr (j + 1) = linTo T fr j ++ famLines f) := HLN hlf
            clear HLO HLN hlf
            obtain ⟨kf, hkf, fn1, fn2, fn3, hlook⟩ := HD.out.famAt HFM.out
            have HFC2 := HD.out.famCall hlook
            obtain ⟨ga, rfl, g0, g1, g2⟩ := HFC.out kf hkf
            have hlv := HD.out.at_.lims _ (List.getElem_mem hkf)
            rw [fn3] at hlv
            obtain ⟨la, lc, hlvs, _, _⟩ := own_shape1 hlv
            rw [fn1] at g0
            rw [fn2] at g1
            rw [hlvs] at g2 hlv
            have HLV : Hid (IntSl w (.slice la f.ls.length lc) f.ls) := IntSl.of hlv
            have HFCL : Hid (∀ V, Wn.grownBy V none → Calls Tryz.prog 83 #[.pointer (some ⟨r.b, 0, none⟩), .string (B f.nm)] V fun e w' => e = .returned (.int .i64 (kf : Int)) ∧ w' = V) := fun V gV => HFC2 V (gb_trans HGN.out gV)
            have GB : Hid (w.grownBy wr none) := gb_trans HGN.out HR.out.gb
            have x0 := gb_cell GB.out HC0.out (by simp)
            have x1 := gb_cell GB.out g0 (by simp)
            have x2 := gb_cell GB.out g1 (by simp)
            have x3 := gb_cell GB.out g2 (by simp)
            have hkfi : (kf : Int) < (r.fams.length : Int) := by omega
            clear fn1 fn2 fn3 hlook HFC2 g0 g1 g2 hlvs hlv
            go_upto_region 11 with fail
            go_cut [9] from 36 to 115 (fun v w3 => v = .pointer (some ⟨wr.heap.size, 0, none⟩) ∧ w3.heap[wr.heap.size]? = some (.cells #[.string (B f.nm), .int .i64 f.kind, .slice la f.ls.length lc] 154) ∧ wr.grownBy w3 none)
            case first =>
              go_region_held3 (fun w' => w'.cell? ⟨r.b, 0, none⟩ = some (.slice (some ⟨ga, 0, none⟩) r.fams.length fc) ∧ w'.cell? ⟨ga, kf * 3, none⟩ = some (.string (B f.nm)) ∧ w'.cell? ⟨ga, kf * 3 + 1, none⟩ = some (.int .i64 f.kind) ∧ w'.cell? ⟨ga, kf * 3 + 2, none⟩ = some (.slice la f.ls.length lc)) (go_keep) ((go_at_call 83; refine (HFCL.out _ (by first | exact HR.out.gb | exact gb_d HR.out.gb | exact gb_alloc HR.out.gb _ | exact gb_d (gb_alloc HR.out.gb _) | exact gb_alloc (gb_d HR.out.gb) _)).mono ?_; rintro rr w' ⟨rfl, rfl⟩))
              all_goals
                go_wp2
                go_meet
                case rel => exact ⟨rfl, alloc_new _ _ _ rfl, gb_d (q := 1) (gb_alloc (gb_refl _ _) _)⟩
            case rest =>
              obtain ⟨rfl, hp, gc⟩ := hcut
              obtain ⟨w3, hw3⟩ : ∃ w3, w3 = wc := ⟨_, rfl⟩
              subst hw3
              obtain ⟨w2, hw2⟩ : ∃ w2, w2 = wr := ⟨_, rfl⟩
              subst hw2
              have hkd := (fit_facts (HD.out.rel.fit f HFM.out)).1
              have fk : w3.cell? ⟨w2.heap.size, 1, none⟩ = some (.int .i64 f.kind) := by unfold World.cell?; simp only [hp]; rfl
              have HFB : Hid (w3.heap[w2.heap.size]? = some (.cells #[.string (B f.nm), .int .i64 f.kind, .slice la f.ls.length lc] 154)) := hp
              have HG3 : Hid (Wn.grownBy w3 none) := gb_trans HR.out.gb gc
              have HRO : Hid (w3.ownsRow Wn.heap.size 9 1 (.slice oa (linTo T fr j).length oc) (linTo T fr j).length (strs (linTo T fr j))) := own_frame HR.out.row fun b hb => gc.block b (own_lt HR.out.row b hb) (by simp)
              have HOL : Hid (∀ b ∈ (Value.slice oa (linTo T fr j).length oc).ownBlock.toList, b < w2.heap.size) := own_lt HR.out.row
              have hw23 : w2.heap.size < w3.heap.size := lt_of hp
              clear hp gc x0 x1 x2 x3 HFCL
              go_upto_region 12 with fail
              go_cut [10] from 36 to 115 (fun v w4 => v = .string (B (kindW f.kind)) ∧ w3.grownBy w4 none)
              case first =>
                rcases hkd with hq | hq | hq
                all_goals
                  have HQ : Hid (f.kind = _) := hq
                  rw [hq] at fk
                  clear hq
                  go_wp2
                  go_meet
                  case rel => exact ⟨by rw [HQ.out]; rfl, by first | exact gb_alloc (gb_refl _ _) _ | exact gb_d (gb_alloc (gb_refl _ _) _)⟩
              case rest =>
                obtain ⟨rfl, gd⟩ := hcut
                obtain ⟨w4, hw4⟩ : ∃ w4, w4 = wc := ⟨_, rfl⟩
                subst hw4
                have hnl := HD.out.nml f HFM.out
                have hkl : (kindW f.kind).length ≤ 9 := by unfold kindW; split <;> (try split) <;> simp
                have t1 : ∀ w, (Op.stringOp .add ⟨#[35, 32]⟩ (B f.nm)).run Tryz.prog w = .ok (.string (B ([35, 32] ++ f.nm))) w := add_lists [35, 32] f.nm (by simp) (by omega)
                have t2 : ∀ w, (Op.stringOp .add (B ([35, 32] ++ f.nm)) ⟨#[32]⟩).run Tryz.prog w = .ok (.string (B ([35, 32] ++ f.nm ++ [32]))) w := add_lists _ [32] (by simp; omega) (by simp)
                have t3 : ∀ w, (Op.stringOp .add (B ([35, 32] ++ f.nm ++ [32])) (B (kindW f.kind))).run Tryz.prog w = .ok (.string (B (titleP f.nm f.kind))) w := add_lists _ _ (by simp; omega) (by omega)
                have HLB : Hid (famLines f = titleP f.nm f.kind :: f.ser.flatMap (serLines f.kind f.ls)) := rfl
                generalize titleP f.nm f.kind = XT at t3 HLB
                generalize B ([35, 32] ++ f.nm ++ [32]) = Y2 at t2 t3
                generalize B ([35, 32] ++ f.nm) = Y1 at t1 t2
                obtain ⟨LT, hLT⟩ : ∃ LT, linTo T fr j = LT := ⟨_, rfl⟩
                have hlen := linTo_len HD.out fr j
                rw [hLT] at HRO HOL hlen ⊢
                have HLT2 : Hid (linTo T fr (j + 1) = LT ++ famLines f) := by rw [← hLT]; exact HLT.out
                have hr4 : (w4.alloc (.cells #[.string (B XT)] 9)).ownsRow Wn.heap.size 9 1 (.slice oa LT.length oc) LT.length (strs LT) := own_frame HRO.out fun b hb => (gb_alloc gd _).block b (own_lt HRO.out b hb) (by simp)
                have hi4 : (w4.alloc (.cells #[.string (B XT)] 9)).ownsRow w4.heap.size 9 1 (.slice (some ⟨w4.heap.size, 0, none⟩) 1 1) 1 (strs [XT]) := one_row (alloc_new _ _ _ rfl)
                have HG4 : Hid (Wn.grownBy (w4.alloc (.cells #[.string (B XT)] 9)) none) := gb_alloc (gb_trans HG3.out gd) _
                have HR4 : Hid ((w4.alloc (.cells #[.string (B XT)] 9)).ownsRow Wn.heap.size 9 1 (.slice oa LT.length oc) LT.length (strs LT)) := hr4
                have HFB4 : Hid ((w4.alloc (.cells #[.string (B XT)] 9)).heap[w2.heap.size]? = some (.cells #[.string (B f.nm), .int .i64 f.kind, .slice la f.ls.length lc] 154)) := ((gb_alloc gd _).block _ hw23 (by simp)).trans HFB.out
                have hsz : Wn.heap.size ≤ (w4.alloc (.cells #[.string (B XT)] 9)).heap.size := HG4.out.size
                have hw24 : w2.heap.size < (w4.alloc (.cells #[.string (B XT)] 9)).heap.size := lt_of HFB4.out
                clear hLT gd fk HRO HFB HG3 hkl hnl hkd
                go_wp2_with (at_builtin; refine wpList_append_rows3 _ rfl _ _ rfl rfl Wn.heap.size w4.heap.size (.slice oa LT.length oc) LT.length (strs LT) rfl hr4 _ 1 [XT] rfl hi4 hsz (by omega) ?_; intro v' w5 own5 g5 hft5; obtain ⟨xa, xc, rfl, _, _⟩ := own_shape1 own5)
                have HG5 : Hid (Wn.grownBy w5 none) := gb_row1 HG4.out HR4.out g5
                have HFB5 : Hid (w5.heap[w2.heap.size]? = some (.cells #[.string (B f.nm), .int .i64 f.kind, .slice la f.ls.length lc] 154)) := (g5.block _ hw24 (fun e => by have := HOL.out w2.heap.size (by rw [← e]; simp); omega)).trans HFB4.out
                have HRO5 : Hid (w5.ownsRow Wn.heap.size 9 1 (.slice xa (LT.length + 1) xc) (LT.length + 1) (strs (LT ++ [XT]))) := by rw [← strs_snoc]; exact own5
                have HFA5 : Hid (∀ b ∈ (Value.slice xa (LT.length + 1) xc).ownBlock.toList, b ≠ w2.heap.size ∧ b < w5.heap.size) := fun b hb => by
                  refine ⟨fun e => ?_, own_lt own5 b hb⟩
                  rcases hft5 with h5 | h5
                  · rw [h5] at hb; have := HOL.out b hb; omega
                  · rw [h5] at hb; simp at hb; simp at hw24; omega
                clear own5 g5 hft5 hr4 hi4 hsz hw24 HG4 HR4 HFB4 HOL
                go_loopw [11, 12] (fun v i w6 => ∃ k : Nat, i = .int .i64 (k : Int) ∧ k ≤ r.ser.length ∧ Hid (w6.ownsRow w5.heap.size 9 1 v (txTo r f.nm k).length (strs (txTo r f.nm k)) ∧ w5.grownBy w6 none)) (fun _ i _ => r.ser.length - (intOf i).toNat)
                case atStart => exact ⟨0, rfl, Nat.zero_le _, own_nil _ _ _, gb_refl _ _⟩
                case round =>
                  obtain ⟨k, rfl, hk, HS⟩ := hrel
                  obtain ⟨ta, tc, rfl, _, _⟩ := own_shape1 HS.out.1
                  have GBW : Hid (w.grownBy wr none) := gb_trans HGN.out (gb_trans HG5.out HS.out.2)
                  have C1 := gb_cell GBW.out HC1.out (by simp)
                  by_cases hklt : k < r.ser.length
                  · obtain ⟨sb, rfl, q0, q1, _⟩ := HSC.out k hklt
                    have Q0 := gb_cell GBW.out q0 (by simp)
                    have Q1 := gb_cell GBW.out q1 (by simp)
                    have HTI := fun e => txTo_in r f.nm k hklt e
                    have HTO := fun e => txTo_out r f.nm k hklt e
                    have htl := txTo_len r f.nm k
                    obtain ⟨xf, hxf⟩ : ∃ xf, (r.ser[k]).fam = xf := ⟨_, rfl⟩
                    obtain ⟨xt, hxt⟩ : ∃ xt, (r.ser[k]).text = xt := ⟨_, rfl⟩
                    rw [hxf] at Q0 HTI HTO
                    rw [hxt] at Q1 HTI
                    have hki : (k : Int) < (r.ser.length : Int) := by omega
                    clear q0 q1 hxf hxt
                    by_cases he : xf = f.nm
                    · have heq : ((B xf).toList == (B f.nm).toList) = true := by rw [toList_B, toList_B]; simpa using he
                      have HT : Hid (txTo r f.nm (k + 1) = txTo r f.nm k ++ [xt]) := HTI he
                      obtain ⟨TX, hTX⟩ : ∃ TX, txTo r f.nm k = TX := ⟨_, rfl⟩
                      rw [hTX] at HT HS htl
                      have hr6 : (wr.alloc (.cells #[.string (B xt)] 9)).ownsRow w5.heap.size 9 1 (.slice ta TX.length tc) TX.length (strs TX) := own_frame HS.out.1 fun b hb => (gb_alloc (gb_refl wr none) _).block b (own_lt HS.out.1 b hb) (by simp)
                      have hi6 : (wr.alloc (.cells #[.string (B xt)] 9)).ownsRow wr.heap.size 9 1 (.slice (some ⟨wr.heap.size, 0, none⟩) 1 1) 1 (strs [xt]) := one_row (alloc_new _ _ _ rfl)
                      have HG6 : Hid (w5.grownBy (wr.alloc (.cells #[.string (B xt)] 9)) none) := gb_alloc HS.out.2 _
                      have HR6 : Hid ((wr.alloc (.cells #[.string (B xt)] 9)).ownsRow w5.heap.size 9 1 (.slice ta TX.length tc) TX.length (strs TX)) := hr6
                      have hsz : w5.heap.size ≤ (wr.alloc (.cells #[.string (B xt)] 9)).heap.size := HG6.out.size
                      clear he HTI HTO
                      rw [hTX]
                      clear hTX
                      go_wp2_with (at_builtin; refine wpList_append_rows _ rfl _ _ rfl rfl w5.heap.size wr.heap.size (.slice ta TX.length tc) TX.length (strs TX) rfl hr6 _ 1 [xt] rfl hi6 hsz (by omega) ?_; intro v' w7 own7 g7; obtain ⟨xa7, xc7, rfl, _, _⟩ := own_shape1 own7)
                      go_roundw
                      case rel => exact ⟨k + 1, by go_num, by omega, ⟨by rw [HT.out, ← strs_snoc, List.length_append]; exact own7, gb_row1 HG6.out HR6.out g7⟩⟩
                      case measure => simp [intOf]; omega
                    · have heq : ((B xf).toList == (B f.nm).toList) = false := by rw [toList_B, toList_B]; simpa using he
                      have HT : Hid (txTo r f.nm (k + 1) = txTo r f.nm k) := HTO he
                      clear he HTI HTO
                      go_wp2
                      go_roundw
                      case rel => exact ⟨k + 1, by go_num, by omega, by rw [HT.out]; exact HS.out⟩
                      case measure => simp [intOf]; omega
                  · obtain rfl : k = r.ser.length := by omega
                    have hki : ¬ (r.ser.length : Int) < (r.ser.length : Int) := by omega
                    obtain ⟨w6, hw6⟩ : ∃ w6, w6 = wr := ⟨_, rfl⟩
                    subst hw6
                    have hts := (strSl_of_row HS.out.1).2
                    have hlow6 : ∀ b ∈ (Value.slice ta (txTo r f.nm r.ser.length).length tc).ownBlock.toList, w5.heap.size ≤ b := own_base HS.out.1
                    obtain ⟨TX, hTX⟩ : ∃ TX, txTo r f.nm r.ser.length = TX := ⟨_, rfl⟩
                    have HMEM : Hid (∀ p, p ∈ TX ↔ p ∈ f.ser.map Cnt.plain) := fun p => by rw [← hTX]; exact HD.out.texts HFM.out p
                    have htl := txTo_len r f.nm r.ser.length
                    rw [hTX] at hts htl hlow6 ⊢
                    have HTS : Hid (StrSl w6 (.slice ta TX.length tc) TX) := hts
                    have HLX : Hid (∀ V a, StrSl V (.slice ta TX.length tc) TX → Calls Tryz.prog 119 #[.slice ta TX.length tc, .string (B a)] V fun e w' => ∃ b, e = .returned (.string (B b)) ∧ LeastTo TX a TX.length b ∧ ∃ q, w' = V.drewN q) := fun V a hV => least_any _ _ a V hV (by omega)
                    have HJ0 : Hid (∀ q, LJ Wn w2.heap.size (.cells #[.string (B f.nm), .int .i64 f.kind, .slice la f.ls.length lc] 154) (.slice ta TX.length tc) TX LT XT f 0 (.slice xa (LT.length + 1) xc) (w6.drewN q)) := fun q => by
                      have e0 : serTo LT XT f 0 = LT ++ [XT] := by simp [serTo]
                      refine ⟨?_, gb_d (gb_trans HG5.out HS.out.2), (HS.out.2.block _ (lt_of HFB5.out) (by simp)).trans HFB5.out, HTS.out.frame (Nat.le_refl _) (fun _ _ => rfl), fun b hb => ⟨(HFA5.out b hb).1, fun hm => ?_⟩⟩
                      · rw [e0, List.length_append]
                        exact own_frame HRO5.out fun b hb => HS.out.2.block b (own_lt HRO5.out b hb) (by simp)
                      · have h1 := (HFA5.out b hb).2
                        have h2 := hlow6 b (slBlk_own hm)
                        omega
                    have hrs : (f.ser.length : Nat) ≤ 24 := ser_le24 HD.out HFM.out
                    clear hTX hts htl hlow6 HS HRO5 HFA5 HFB5 HG5
                    go_wp2_with fail
                    refine (HLX.out _ [] HTS.out).mono ?_
                    rintro e w7 ⟨b7, rfl, hb7, q7, rfl⟩
                    have hf7 : b7 = nthT (f.ser.map Cnt.plain) 0 := next_first HMEM.out (HD.out.sers f HFM.out) (HD.out.plain_ne HFM.out) hb7
                    subst hf7
                    clear C1
                    clear hb7
                    go_wp2_with fail
                    go_loopw [7, 13] (fun v t w8 => ∃ i : Nat, t = .string (B (nthT (f.ser.map Cnt.plain) i)) ∧ i ≤ f.ser.length ∧ Hid (LJ Wn w2.heap.size (.cells #[.string (B f.nm), .int .i64 f.kind, .slice la f.ls.length lc] 154) (.slice ta TX.length tc) TX LT XT f i v w8)) (fun _ t _ => rank (f.ser.map Cnt.plain) (strOf t))
                    case atStart => exact ⟨0, rfl, Nat.zero_le _, HJ0.out _⟩
                    case round =>
                      obtain ⟨i, rfl, hi, HJ⟩ := hrel
                      obtain ⟨ua, uc, rfl, _, _⟩ := own_shape1 HJ.out.row
                      clear HJ0
                      by_cases hil : i < f.ser.length
                      · obtain ⟨c, hc⟩ : ∃ c, f.ser[i] = c := ⟨_, rfl⟩
                        have hcm : c ∈ f.ser := by rw [← hc]; exact List.getElem_mem hil
                        have hnx : nthT (f.ser.map Cnt.plain) i = c.plain := by rw [nthT_lt _ _ (by simpa using hil)]; simp [hc]
                        have HNC : Hid (∀ b, LeastTo TX c.plain TX.length b → b = nthT (f.ser.map Cnt.plain) (i + 1)) := fun b hb =>
                          next_on HMEM.out (HD.out.sers f HFM.out) i (by simpa using hil) (b := b) (by rw [List.getElem_map, hc]; exact hb)
                        have HRC : Hid (rank (f.ser.map Cnt.plain) (nthT (f.ser.map Cnt.plain) (i + 1)) < rank (f.ser.map Cnt.plain) c.plain) := by
                          show _ < _
                          rw [← hnx]
                          unfold nthT
                          rw [rank_at (HD.out.sers f HFM.out) (HD.out.plain_ne HFM.out) (i + 1) (by simp; omega), rank_at (HD.out.sers f HFM.out) (HD.out.plain_ne HFM.out) i (by simp; omega)]
                          simp; omega
                        have hpn : c.plain ≠ [] := HD.out.plain_ne HFM.out c.plain (List.mem_map_of_mem hcm)
                        have hE : ¬ (B c.plain).toList = [] := by rw [toList_B]; exact hpn
                        have hemp : (B c.plain).toList.isEmpty = false := by rw [toList_B]; cases hq : c.plain with | nil => exact absurd hq hpn | cons _ _ => rfl
                        have hst := serTo_succ LT XT f i hil
                        rw [hc] at hst
                        have hsl := serTo_len (LT := LT) (XT := XT) i (fit_facts (HD.out.rel.fit f HFM.out)).2.1 hrs hlen
                        obtain ⟨ks, hks, s1, s2, s3, s4, hlook⟩ := HD.out.serAt HFM.out hcm
                        have HSQ := HD.out.serCall hlook
                        obtain ⟨sb, rfl, g0, g1, g2⟩ := HSC.out ks hks
                        have hnv := HD.out.at_.nums _ (List.getElem_mem hks)
                        have hne4 := HD.out.each _ (List.getElem_mem hks)
                        obtain ⟨na, nc, hnvs, _, _⟩ := own_shape1 hnv
                        rw [s1] at g1
                        rw [hnvs] at g2 hnv
                        obtain ⟨xf, hxf⟩ : ∃ xf, (r.ser[ks]).fam = xf := ⟨_, rfl⟩
                        rw [hxf] at g0
                        obtain ⟨ns, hns⟩ : ∃ ns, (r.ser[ks]).ns = ns := ⟨_, rfl⟩
                        rw [hns] at g2 hnv s2 s3 s4 hne4
                        have GBW : Hid (w.grownBy wr none) := gb_trans HGN.out HJ.out.gb
                        have hSLl : (serLines f.kind f.ls c).length ≤ 5 := by have := (fit_facts (HD.out.rel.fit f HFM.out)).2.1; unfold serLines; simp; omega
                        have hSL : docSer f.kind f.ls c.plain ns = serLines f.kind f.ls c := by rw [docSer_eq (HD.out.rel.fit f HFM.out), ← s4]
                        obtain ⟨SL, hSLe⟩ : ∃ SL, serLines f.kind f.ls c = SL := ⟨_, rfl⟩
                        have HLN : Hid (∀ V, wr.grownBy V none → Calls Tryz.prog 120 #[.agg #[.string (B f.nm), .int .i64 f.kind, .slice la f.ls.length lc], .agg #[.string (B xf), .string (B c.plain), .slice na ns.length nc]] V fun e w' => ∃ ya yc base9, e = .returned (.slice ya SL.length yc) ∧ w'.ownsRow base9 9 1 (.slice ya SL.length yc) SL.length (strs SL) ∧ wr.grownBy w' none) := fun V gV => by
                          have gV' := gb_trans GBW.out gV
                          have := lines_any f.nm xf c.plain f.kind (.slice la f.ls.length lc) (.slice na ns.length nc) f.ls ns V (HD.out.rel.fit f HFM.out) (HD.out.lb f HFM.out) (HLV.out.gb gV') ((IntSl.of hnv).gb gV') s2 hne4 s3 (HD.out.txl f HFM.out c hcm)
                          rw [hSL, hSLe] at this
                          refine this.mono fun e w' ⟨v, h1, h2, h3⟩ => ?_
                          obtain ⟨ya, yc, rfl, _, _⟩ := own_shape1 h2
                          exact ⟨ya, yc, _, h1, h2, gb_trans gV h3⟩
                        have HSCL : Hid (∀ V, wr.grownBy V none → Calls Tryz.prog 85 #[.pointer (some ⟨r.b, 0, none⟩), .string (B c.plain)] V fun e w' => e = .returned (.int .i64 (ks : Int)) ∧ w' = V) := fun V gV => HSQ V (gb_trans GBW.out gV)
                        rw [hSLe] at hst hSLl
                        have HST : Hid (serTo LT XT f (i + 1) = serTo LT XT f i ++ SL) := hst
                        obtain ⟨SI, hSI⟩ : ∃ SI, serTo LT XT f i = SI := ⟨_, rfl⟩
                        have HRI : Hid (wr.ownsRow Wn.heap.size 9 1 (.slice ua SI.length uc) SI.length (strs SI)) := by rw [← hSI]; exact HJ.out.row
                        have HFI : Hid (∀ b ∈ (Value.slice ua SI.length uc).ownBlock.toList, b ≠ w2.heap.size ∧ b ∉ slBlk (.slice ta TX.length tc)) := by rw [← hSI]; exact HJ.out.far
                        rw [hSI] at HST hsl ⊢
                        have x0 : wr.cell? ⟨w2.heap.size, 0, none⟩ = some (.string (B f.nm)) := by unfold World.cell?; simp only [HJ.out.fam]; rfl
                        have x1 : wr.cell? ⟨w2.heap.size, 1, none⟩ = some (.int .i64 f.kind) := by unfold World.cell?; simp only [HJ.out.fam]; rfl
                        have x2 : wr.cell? ⟨w2.heap.size, 2, none⟩ = some (.slice la f.ls.length lc) := by unfold World.cell?; simp only [HJ.out.fam]; rfl
                        have x3 := gb_cell GBW.out HC1.out (by simp)
                        have x4 := gb_cell GBW.out g0 (by simp)
                        have x5 := gb_cell GBW.out g1 (by simp)
                        have x6 := gb_cell GBW.out g2 (by simp)
                        have hnb : ∀ b, b < w.heap.size → some b ≠ (Value.slice ua SI.length uc).ownBlock := fun b hb e => by
                          have h1 := own_base HRI.out b (by rw [← e]; simp)
                          have h2 := HGN.out.size
                          omega
                        have hnb1 := hnb r.b (World.block_lt_of_cell? _ _ HC1.out)
                        have hnb2 := hnb sb (World.block_lt_of_cell? _ _ g0)
                        have hnb3 : some w2.heap.size ≠ (Value.slice ua SI.length uc).ownBlock := fun e => (HFI.out w2.heap.size (by rw [← e]; simp)).1 rfl
                        have hksi : (ks : Int) < (r.ser.length : Int) := by omega
                        rw [hnx]
                        clear hnb hnx hcm hpn hst s1 s2 s3 s4 hlook HSQ g0 g1 g2 hnv hnvs hxf hns hSL hSLe hSI hne4 hc
                        go_upto_region 23 with fail
                        go_region_held3 (fun w' => w'.cell? ⟨w2.heap.size, 0, none⟩ = some (.string (B f.nm)) ∧ w'.cell? ⟨w2.heap.size, 1, none⟩ = some (.int .i64 f.kind) ∧ w'.cell? ⟨w2.heap.size, 2, none⟩ = some (.slice la f.ls.length lc) ∧ w'.cell? ⟨r.b, 1, none⟩ = some (.slice (some ⟨sb, 0, none⟩) r.ser.length sc) ∧ w'.cell? ⟨sb, ks * 3, none⟩ = some (.string (B xf)) ∧ w'.cell? ⟨sb, ks * 3 + 1, none⟩ = some (.string (B c.plain)) ∧ w'.cell? ⟨sb, ks * 3 + 2, none⟩ = some (.slice na ns.length nc)) (first | go_keep | exact ⟨p0, p1, p2, p3, p4, p5, p6⟩) ((first
                          | (go_at_call 85; refine (HSCL.out _ (by first | exact gb_refl _ _ | exact gb_drewN _ _ _)).mono ?_; rintro rr w' ⟨rfl, rfl⟩)
                          | (go_at_call 120; refine (HLN.out _ (by first | exact gb_refl _ _ | exact gb_drewN _ _ _)).mono ?_; rintro rr w9 ⟨ya, yc, base9, rfl, hrow9, g9⟩; have p0 := gb_cell g9 x0 (by simp); have p1 := gb_cell g9 x1 (by simp); have p2 := gb_cell g9 x2 (by simp); have p3 := gb_cell g9 x3 (by simp); have p4 := gb_cell g9 x4 (by simp); have p5 := gb_cell g9 x5 (by simp); have p6 := gb_cell g9 x6 (by simp); have HG9 : Hid (wr.grownBy w9 none) := g9; have hr9 := own_frame HRI.out (fun b hb => g9.block b (own_lt HRI.out b hb) (by simp)); have hs9 : Wn.heap.size ≤ w9.heap.size := (gb_trans HJ.out.gb g9).size)
                          | (refine step_append_rows3 rfl _ _ rfl rfl Wn.heap.size base9 (.slice ua SI.length uc) SI.length (strs SI) (by simp [Act.eval]) hr9 (.slice ya SL.length yc) SL.length SL (by simp [Act.eval]) hrow9 hs9 (by omega) ?_; intro v' w10 own10 g10 hft10; obtain ⟨za, zc, rfl, _, _⟩ := own_shape1 own10; have p0 := gb_cell g10 p0 hnb3; have p1 := gb_cell g10 p1 hnb3; have p2 := gb_cell g10 p2 hnb3; have p3 := gb_cell g10 p3 hnb1; have p4 := gb_cell g10 p4 hnb2; have p5 := gb_cell g10 p5 hnb2; have p6 := gb_cell g10 p6 hnb2)))
                        all_goals
                          have HO10 : Hid (w10.ownsRow Wn.heap.size 9 1 (.slice za (SI.length + SL.length) zc) (SI.length + SL.length) (strs SI ++ strs SL)) := own10
                          have HG10 : Hid (Wn.grownBy w10 none) := gb_row1 (gb_trans HJ.out.gb HG9.out) hr9 g10
                          have HJ10 : Hid (LJ Wn w2.heap.size (.cells #[.string (B f.nm), .int .i64 f.kind, .slice la f.ls.length lc] 154) (.slice ta TX.length tc) TX LT XT f (i + 1) (.slice za (SI.length + SL.length) zc) w10) := by
                            have hfo := HFI.out
                            refine ⟨?_, HG10.out, ?_, ?_, fun b hb => ?_⟩
                            · rw [HST.out, List.length_append]
                              have e : strs SI ++ strs SL = strs (SI ++ SL) := by simp [strs]
                              rw [← e]; exact HO10.out
                            · exact ((g10.block _ (by have := lt_of HJ.out.fam; have := HG9.out.size; omega) (fun e => (hfo w2.heap.size (by rw [← e]; simp)).1 rfl)).trans (HG9.out.block _ (lt_of HJ.out.fam) (by simp))).trans HJ.out.fam
                            · exact HJ.out.tx.frame (Nat.le_trans HG9.out.size g10.size) fun b hb => (g10.block b (by have := HJ.out.tx.lt b hb; have := HG9.out.size; omega) (fun e => (hfo b (by rw [← e]; simp)).2 hb)).trans (HG9.out.block b (HJ.out.tx.lt b hb) (by simp))
                            · rcases hft10 with h5 | h5
                              · rw [h5] at hb; exact hfo b hb
                              · rw [h5] at hb
                                have e : b = w9.heap.size := by simpa using hb
                                have := HG9.out.size
                                refine ⟨fun e2 => ?_, fun hm => ?_⟩
                                · have := lt_of HJ.out.fam; omega
                                · have := HJ.out.tx.lt b hm; omega
                          clear own10 g10 hft10 HO10 hr9 hrow9 hs9 x0 x1 x2 x3 x4 x5 x6 p0 p1 p2 p3 p4 p5 p6 g9
                          go_wp2_with fail
                          refine (HLX.out _ c.plain HJ10.out.tx).mono ?_
                          rintro e w11 ⟨b2, rfl, hb2, q2, rfl⟩
                          obtain rfl := HNC.out b2 hb2
                          clear hb2
                          go_wp2
                          go_roundw
                          case rel => exact ⟨i + 1, rfl, by omega, ⟨own_frame HJ10.out.row fun b hb => rfl, gb_d HJ10.out.gb, HJ10.out.fam, HJ10.out.tx.frame (Nat.le_refl _) (fun _ _ => rfl), HJ10.out.far⟩⟩
                          case measure => rw [strOf_B, strOf_B]; exact HRC.out
                      · obtain rfl : i = f.ser.length := by omega
                        have hnx : nthT (f.ser.map Cnt.plain) f.ser.length = [] := nthT_end _ _ (by simp)
                        rw [hnx]
                        have hE : (B []).toList = [] := toList_B []
                        have hrow : wr.ownsRow Wn.heap.size 9 1 (.slice ua (serTo LT XT f f.ser.length).length uc) (linTo T fr (j + 1)).length (strs (linTo T fr (j + 1))) := by
                          have e1 : linTo T fr (j + 1) = serTo LT XT f f.ser.length := by
                            rw [HLT2.out, HLB.out]; unfold serTo; rw [List.take_length]
                          rw [e1]; exact HJ.out.row
                        have HRW : Hid (wr.ownsRow Wn.heap.size 9 1 (.slice ua (serTo LT XT f f.ser.length).length uc) (linTo T fr (j + 1)).length (strs (linTo T fr (j + 1)))) := hrow
                        have HGW : Hid (Wn.grownBy wr none) := HJ.out.gb
                        clear hrow
                        go_wp2_with fail
                        refine (HLE.out _ f.nm HGW.out).mono ?_
                        rintro e w9 ⟨b2, rfl, hb2, q2, rfl⟩
                        obtain rfl := HNX.out b2 hb2
                        clear hb2
                        go_wp2
                        go_roundw
                        case rel => exact ⟨j + 1, rfl, by omega, ⟨own_frame HRW.out fun b hb => rfl, gb_d HGW.out⟩⟩
                        case measure => rw [strOf_B, strOf_B]; exact HRK.out
        · obtain rfl : j = T.length := by omega
          have hnx : nthT (T.map Fam.nm) T.length = [] := nthT_end _ _ (by simp)
          rw [hnx]
          have hE : (B []).toList = [] := toList_B []
          go_wp2
          go_ret
          exact ⟨_, rfl, own_low HR.out.row HGN.out.size, gb_trans HGN.out HR.out.gb⟩

end Go.Proofs.YtcfdemhokbddiaaGreatDoor
