/-
  A reading read to its end: rest, whole.
-/
import Derived.Test.YtcfdemhokbddiaaGreatDoorQUa

namespace Go.Proofs.YtcfdemhokbddiaaGreatDoor
open Go.RowKit

theorem page_rest {R : RdV} {n : Nat} {L : List (List UInt8)} {d : Nat} {k : Int} (hn : n < 3) (hR : R[n]? = some (some (L, d))) (h1 : 1 ≤ k) (h2 : k ≤ 20) :
    pageP R n k = if k.toNat < L.length then ((L.take k.toNat, true, 0), R.set n (some (L.drop k.toNat, 0))) else ((L, false, 0), R.set n none) := by
  unfold pageP
  rw [if_neg (by omega), Int.toNat_natCast, hR]
  show (if k < 1 ∨ 20 < k then _ else _) = _
  rw [if_neg (by omega)]
theorem page_none {R : RdV} {n : Nat} {k : Int} (hn : n < 3) (hR : R[n]? = some none) : pageP R n k = (([], false, 8), R) := by
  unfold pageP
  rw [if_neg (by omega), Int.toNat_natCast, hR]

/-- Where a reading that is read to its end has come. -/
structure RestI (base m n : Nat) (t : GT) (L : List (List UInt8)) (w : World) (i : Nat) (vo : Value) (wr : World) : Prop where
  ex : ∃ t' done L' d, L = done ++ L' ∧ Stp base m t t' w wr ∧ t'.own = t.own ∧ t'.view = t.view ∧ t'.rview = t.rview.set n (some (L', d)) ∧ wr.ownsRow w.heap.size 9 1 vo done.length (strs done) ∧ i ≤ done.length ∧ (i = 0 ∨ L' ≠ [])

set_option maxRecDepth 100000 in
set_option maxHeartbeats 2000000 in
theorem rest_any (base m n : Nat) (t : GT) (L : List (List UInt8)) (d : Nat) (sv : Value) (zs : List Int) (w : World) (hb : Bd base m w t) (hm : m ≤ 4611686018427387904) (hn : n < 3) (hR : t.rview[n]? = some (some (L, d))) (hL : L.length ≤ 99) (hz : FarI t.own w sv zs) (hzl : zs.length ≤ 9223372036854775807) :
    Calls Tryz.prog 18 #[.pointer (some ⟨t.b, 0, none⟩), .int .i64 (n : Int), sv] w fun e w' => ∃ t' v, e = .returned (.tuple #[v, .bool true]) ∧ Stp base m t t' w w' ∧ t'.own = t.own ∧ t'.view = t.view ∧ t'.rview = t.rview.set n none ∧ w'.ownsRow w.heap.size 9 1 v L.length (strs L) := by
  have hnl : n < t.rview.length := (List.getElem?_eq_some_iff.1 hR).1
  have HI0 : Hid (RestI base m n t L w 0 (.slice none 0 0) w) := ⟨⟨t, [], L, d, rfl, .refl hb, rfl, rfl, by
    apply List.ext_getElem?
    intro j
    rw [List.getElem?_set]
    split
    · rename_i e; subst e; exact hR
    · rfl, own_nil _ _ _, Nat.le_refl _, Or.inl rfl⟩⟩
  obtain ⟨sa, scap, hsv, _⟩ := id hz
  subst hsv
  have HLT : Hid (∀ b ∈ t.own, b < w.heap.size) := hb.lt
  have HFAR : Hid (FarI t.own w (.slice sa zs.length scap) zs) := hz
  have hbs := hb.size
  clear hb hz hR
  go_enter Tryz.func18, Tryz.ntmps18
  go_wp2_with fail
  go_loopw [8, 9] (fun vo v wr => ∃ i : Nat, v = .int .i64 (i : Int) ∧ i ≤ 99 ∧ Hid (RestI base m n t L w i vo wr)) (fun _ v _ => 100 - (intOf v).toNat)
  case atStart => exact ⟨0, rfl, by omega, HI0.out⟩
  case round =>
    obtain ⟨i, rfl, hi, HR⟩ := hrel
    obtain ⟨t', done, L', d', hLd, hst, hown, hview, hrv, hrow, hid, hne⟩ := HR.out.ex
    have hfar := HFAR.out.kept hst.kept (fun b hb => Or.inl hb)
    have hi100 : (i : Int) < 100 := by omega
    obtain ⟨oa, oc, rfl, _, _⟩ := own_shape1 hrow
    have HSZ : Hid (Calls Tryz.prog 17 #[.slice sa zs.length scap, .int .i64 (i : Int)] wr _) := size_any _ zs t.own i wr hfar (by omega) hzl
    obtain ⟨k, hk⟩ : ∃ k, sizeP zs i = k := ⟨_, rfl⟩
    obtain ⟨hk1, hk2⟩ := sizeP_bound zs i
    rw [hk] at HSZ hk1 hk2
    have hcp := cPage hst.bd n k hm
    rw [hst.b] at hcp
    have HCP : Hid (Calls Tryz.prog 16 #[.pointer (some ⟨t.b, 0, none⟩), .int .i64 (n : Int), .int .i64 k] wr _) := hcp
    have hRn : t'.rview[n]? = some (some (L', d')) := by rw [hrv, List.getElem?_set, if_pos rfl, if_pos hnl]
    have HPE := page_rest hn hRn hk1 hk2
    have HPH : Hid (pageP t'.rview n k = _) := HPE
    have HST : Hid (Stp base m t t' w wr) := hst
    have HOW : Hid (t'.own = t.own) := hown
    have HVI : Hid (t'.view = t.view) := hview
    have HRV : Hid (t'.rview = t.rview.set n (some (L', d'))) := hrv
    have HRO : Hid (wr.ownsRow w.heap.size 9 1 (.slice oa done.length oc) done.length (strs done)) := hrow
    have HLD : Hid (L = done ++ L') := hLd
    have HNE : Hid (i = 0 ∨ L' ≠ []) := hne
    have hdl : done.length + L'.length ≤ 99 := by have := congrArg List.length hLd; simp at this; omega
    clear hst hown hview hrv hrow hLd hfar hne hcp HPE hRn HR hk
    go_wp2_with fail
    refine HSZ.out.mono ?_
    rintro e wr1 ⟨rfl, rfl⟩
    go_wp2_with fail
    refine HCP.out.mono ?_
    rintro e w2 ⟨t2, v, lines, more, c, rfl, hst2, hown2, hview2, hrow2, hpg⟩
    rw [HPH.out] at hpg
    obtain ⟨la, lc, rfl, _, _⟩ := own_shape1 hrow2
    have hsz1 := HST.out.kept.size
    have hrowO : w2.ownsRow w.heap.size 9 1 (.slice oa done.length oc) done.length (strs done) := own_frame HRO.out fun b hb => hst2.kept.block b (own_lt HRO.out b hb) (fun hm' => by
      rw [HOW.out] at hm'
      have hb' : (Value.slice oa done.length oc).ownBlock = some b := by simpa using hb
      have h2 := (HRO.out.lt b hb').1
      have h3 := HLT.out b hm'
      omega)
    have HST2 : Hid (Stp base m t' t2 wr1 w2) := hst2
    have HOW2 : Hid (t2.own = t'.own) := hown2
    have HVI2 : Hid (t2.view = t'.view) := hview2
    have HR2 : Hid (w2.ownsRow wr1.heap.size 9 1 (.slice la lines.length lc) lines.length (strs lines)) := hrow2
    have HRO2 : Hid (w2.ownsRow w.heap.size 9 1 (.slice oa done.length oc) done.length (strs done)) := hrowO
    have hsz2 := hst2.kept.size
    clear hst2 hown2 hview2 hrow2 hrowO HCP HSZ
    by_cases hlt : k.toNat < L'.length
    · rw [if_pos hlt] at hpg
      simp only [Prod.mk.injEq] at hpg
      obtain ⟨⟨hl, rfl, rfl⟩, hrv2⟩ := hpg
      have hll : lines.length = k.toNat := by rw [hl]; simp; omega
      have hl0 : ((lines.length : Int) == 0) = false := beq_eq_false_iff_ne.2 (by omega)
      have HLI : Hid (lines = L'.take k.toNat) := hl
      have HRV2 : Hid (t2.rview = t'.rview.set n (some (L'.drop k.toNat, 0))) := hrv2
      have hbd : done.length + lines.length ≤ 99 := by omega
      have HLL : Hid (lines.length = k.toNat) := hll
      clear hl hrv2 hll
      go_wp2_with (at_builtin; refine wpList_append_rows _ rfl _ _ rfl rfl w.heap.size wr1.heap.size _ done.length (strs done) rfl HRO2.out _ lines.length lines rfl HR2.out (by omega) (by omega) ?_; intro v' w3 own3 g3)
      obtain ⟨na, nc, rfl, _, _⟩ := own_shape1 own3
      have HO3 : Hid (w3.ownsRow w.heap.size 9 1 (.slice na (done.length + lines.length) nc) (done.length + lines.length) (strs done ++ strs lines)) := own3
      have HG3 : Hid (w2.grownBy w3 (Value.slice oa done.length oc).ownBlock) := g3
      clear own3 g3
      go_wp2
      go_roundw
      case rel =>
        have hkE : Kept (Value.slice oa done.length oc).ownBlock.toList w2 w3 := by
          cases hq : (Value.slice oa done.length oc).ownBlock with
          | none => have := HG3.out; rw [hq] at this; exact Kept.of_none this _
          | some g => have := HG3.out; rw [hq] at this; exact Kept.of_some this _ (Or.inl (by simp))
        have hge : ∀ b ∈ (Value.slice oa done.length oc).ownBlock.toList, w.heap.size ≤ b := fun b hb => (HRO2.out.lt b (by simpa using hb)).1
        have hbd3 : Bd base m w3 t2 := HST2.out.bd.kept hkE fun b hb => ⟨by have := hge b hb; omega, fun hm' => by
          rw [HOW2.out, HOW.out] at hm'
          have := HLT.out b hm'; have := hge b hb; omega⟩
        refine ⟨i + 1, by go_num, by omega, ⟨t2, done ++ lines, L'.drop k.toNat, 0, ?_, ⟨hbd3, HST2.out.b.trans HST.out.b, ?_, ?_⟩, HOW2.out.trans HOW.out, HVI2.out.trans HVI.out, ?_, ?_, ?_, Or.inr ?_⟩⟩
        · rw [HLD.out, HLI.out, List.append_assoc, List.take_append_drop]
        · exact ((HST.out.kept.then HST2.out.kept HST.out.sub).then hkE fun b hb => Or.inr (hge b hb))
        · intro x hx
          rw [HOW2.out, HOW.out] at hx
          exact Or.inl hx
        · rw [HRV2.out, HRV.out, List.set_set]
        · have e : strs done ++ strs lines = strs (done ++ lines) := by simp [strs]
          rw [List.length_append, ← e]; exact HO3.out
        · rw [List.length_append, HLL.out]; omega
        · intro e
          have := congrArg List.length e
          simp at this; omega
      case measure => simp [intOf]; omega
    · rw [if_neg hlt] at hpg
      simp only [Prod.mk.injEq] at hpg
      obtain ⟨⟨rfl, rfl, rfl⟩, hrv2⟩ := hpg
      have HRV2 : Hid (t2.rview = t'.rview.set n none) := hrv2
      have hbd : done.length + lines.length ≤ 99 := by omega
      clear hrv2
      go_wp2_with (at_builtin; refine wpList_append_rows _ rfl _ _ rfl rfl w.heap.size wr1.heap.size _ done.length (strs done) rfl HRO2.out _ lines.length lines rfl HR2.out (by omega) (by omega) ?_; intro v' w3 own3 g3)
      obtain ⟨na, nc, rfl, _, _⟩ := own_shape1 own3
      have g3' : w2.grownBy w3 (Value.slice oa done.length oc).ownBlock := g3
      have hkE : Kept (Value.slice oa done.length oc).ownBlock.toList w2 w3 := by
        cases hq : (Value.slice oa done.length oc).ownBlock with
        | none => have := g3'; rw [hq] at this; exact Kept.of_none this _
        | some g => have := g3'; rw [hq] at this; exact Kept.of_some this _ (Or.inl (by simp))
      have hge : ∀ b ∈ (Value.slice oa done.length oc).ownBlock.toList, w.heap.size ≤ b := fun b hb => (HRO2.out.lt b (by simpa using hb)).1
      have hbd3 : Bd base m w3 t2 := HST2.out.bd.kept hkE fun b hb => ⟨by have := hge b hb; omega, fun hm' => by
        rw [HOW2.out, HOW.out] at hm'
        have := HLT.out b hm'; have := hge b hb; omega⟩
      have HS3 : Hid (Stp base m t t2 w w3) := ⟨hbd3, HST2.out.b.trans HST.out.b, (HST.out.kept.then HST2.out.kept HST.out.sub).then hkE fun b hb => Or.inr (hge b hb), fun x hx => by
        rw [HOW2.out, HOW.out] at hx
        exact Or.inl hx⟩
      have HO3 : Hid (w3.ownsRow w.heap.size 9 1 (.slice na (done.length + lines.length) nc) (done.length + lines.length) (strs done ++ strs lines)) := own3
      have hR3 : t2.rview[n]? = some none := by rw [HRV2.out, HRV.out, List.set_set, List.getElem?_set, if_pos rfl, if_pos hnl]
      have hcp3 := cPage hbd3 n 1 hm
      rw [page_none hn hR3, HS3.out.b] at hcp3
      have HCP3 : Hid (Calls Tryz.prog 16 #[.pointer (some ⟨t.b, 0, none⟩), .int .i64 (n : Int), .int .i64 1] w3 _) := hcp3
      clear own3 g3 g3' hkE hge hbd3 hR3 hcp3
      go_wp2_with fail
      refine HCP3.out.mono ?_
      rintro e w4 ⟨t4, v4, lines4, more4, c4, rfl, hst4, hown4, hview4, hrow4, hpg4⟩
      simp only [Prod.mk.injEq] at hpg4
      obtain ⟨⟨rfl, rfl, rfl⟩, hrv4⟩ := hpg4
      obtain ⟨qa, qc, rfl, _, _⟩ := own_shape1 hrow4
      have HS4 : Hid (Stp base m t2 t4 w3 w4) := hst4
      have HE4 : Hid (t4.own = t2.own ∧ t4.view = t2.view ∧ t4.rview = t2.rview) := ⟨hown4, hview4, hrv4⟩
      clear hst4 hown4 hview4 hrow4 hrv4
      go_wp2
      refine bodyPost_ret (v := .tuple #[.slice na (done.length + lines.length) nc, .bool true]) (by simp [results, Tryz.results18, go_sem]) rfl ?_
      refine ⟨t4, _, rfl, HS3.out.trans HS4.out, HE4.out.1.trans (HOW2.out.trans HOW.out), HE4.out.2.1.trans (HVI2.out.trans HVI.out), ?_, ?_⟩
      · rw [HE4.out.2.2, HRV2.out, HRV.out, List.set_set]
      · have e : strs done ++ strs lines = strs L := by rw [HLD.out]; simp [strs]
        have e2 : L.length = done.length + lines.length := by rw [HLD.out, List.length_append]
        rw [e2, ← e]
        refine own_frame HO3.out fun b hb => HS4.out.kept.block b (own_lt HO3.out b hb) (fun hm' => ?_)
        rw [HOW2.out, HOW.out] at hm'
        have h1 := HLT.out b hm'
        have h2 := (HO3.out.lt b (by simpa using hb)).1
        omega

theorem open_free {V : List Fam} {R : RdV} {i : Nat} (h : freeP R = some i) : openP V R [] = (((i : Int), 0), R.set i (some (linesP V, 0))) := by
  unfold openP
  rw [if_neg (by simp), h]
  have e : kplace lt [] (V.map Fam.nm) = 0 := by
    cases hq : V.map Fam.nm with
    | nil => rfl
    | cons x l => unfold kplace; rw [if_neg (by cases x <;> simp [lt, Op.bytesLess])]
  show (_, _) = _
  rw [e, List.drop_zero]

set_option maxRecDepth 100000 in
set_option maxHeartbeats 1000000 in
theorem whole_any (base m i : Nat) (t : GT) (k : Int) (w : World) (hb : Bd base m w t) (hm : m + 1 ≤ 4611686018427387904) (hf : freeP t.rview = some i) (hi : i < 3) (hL : (linesP t.view).length ≤ 99) (hk : I64 k) :
    Calls Tryz.prog 14 #[.pointer (some ⟨t.b, 0, none⟩), .int .i64 k] w fun e w' => ∃ t' v, e = .returned (.tuple #[v, .bool true]) ∧ Stp base (m + 1) t t' w w' ∧ t'.view = t.view ∧ t'.rview = t.rview ∧ w'.ownsRow w.heap.size 9 1 v (linesP t.view).length (strs (linesP t.view)) ∧ ∀ b ∈ v.ownBlock.toList, b ∉ t'.own := by
  have HO : Hid (Calls Tryz.prog 15 #[.pointer (some ⟨t.b, 0, none⟩), .string ⟨#[]⟩] w _) := cOpen hb ⟨#[]⟩ (by omega)
  have HF : Hid (freeP t.rview = some i) := hf
  have hbs := hb.size
  clear hb hf
  go_enter Tryz.func14, Tryz.ntmps14
  go_wp2_with fail
  refine HO.out.mono ?_
  rintro e w1 ⟨t1, n, c, rfl, hst, hview, hop⟩
  rw [open_free HF.out] at hop
  simp only [Prod.mk.injEq] at hop
  obtain ⟨⟨rfl, rfl⟩, hrv⟩ := hop
  have hil : i < t.rview.length ∧ t.rview[i]? = some none := by
    have := HF.out
    unfold freeP at this
    rw [List.findIdx?_eq_some_iff_getElem] at this
    obtain ⟨h1, h2, _⟩ := this
    refine ⟨h1, ?_⟩
    rw [List.getElem?_eq_getElem h1]
    cases hq : t.rview[i] with
    | none => rfl
    | some r => rw [hq] at h2; cases h2
  have hR1 : t1.rview[i]? = some (some (linesP t.view, 0)) := by rw [hrv, List.getElem?_set, if_pos rfl, if_pos hil.1]
  have hlt1 := hst.bd.lt
  have hbd2 := hst.bd.gb (gb_alloc (gb_refl w1 none) (.cells #[.int .i64 k] 3))
  have hfar : FarI t1.own (w1.alloc (.cells #[.int .i64 k] 3)) (.slice (some ⟨w1.heap.size, 0, none⟩) 1 1) [k] := by
    refine ⟨_, 1, rfl, Nat.le_refl _, by simpa using hk, Or.inr ⟨w1.heap.size, 0, rfl, fun hm' => by have := hlt1 _ hm'; omega, by simp, fun j hj => ?_⟩⟩
    have e : j = 0 := by simpa using hj
    subst e
    exact alloc_cell _ _ _
  have hre := rest_any base (m + 1) i t1 (linesP t.view) 0 (.slice (some ⟨w1.heap.size, 0, none⟩) 1 1) [k] _ hbd2 hm hi hR1 hL hfar (by simp)
  rw [hst.b] at hre
  have HRE : Hid (Calls Tryz.prog 18 #[.pointer (some ⟨t.b, 0, none⟩), .int .i64 (i : Int), .slice (some ⟨w1.heap.size, 0, none⟩) 1 1] (w1.alloc (.cells #[.int .i64 k] 3)) _) := hre
  have HST : Hid (Stp base (m + 1) t t1 w w1) := hst
  have HE : Hid (t1.view = t.view ∧ t1.rview = t.rview.set i (some (linesP t.view, 0)) ∧ t.rview[i]? = some none) := ⟨hview, hrv, hil.2⟩
  clear hst hview hrv hil hR1 hlt1 hbd2 hfar hre
  go_wp2_with fail
  refine HRE.out.mono ?_
  rintro e w2 ⟨t2, v, rfl, hst2, hown2, hview2, hrv2, hrow2⟩
  obtain ⟨va, vc, rfl, _, _⟩ := own_shape1 hrow2
  have HS2 : Hid (Stp base (m + 1) t1 t2 (w1.alloc (.cells #[.int .i64 k] 3)) w2) := hst2
  have HE2 : Hid (t2.view = t1.view ∧ t2.rview = t1.rview.set i none) := ⟨hview2, hrv2⟩
  have HOW : Hid (t2.own = t1.own) := hown2
  have HR2 : Hid (w2.ownsRow (w1.alloc (.cells #[.int .i64 k] 3)).heap.size 9 1 (.slice va (linesP t.view).length vc) (linesP t.view).length (strs (linesP t.view))) := hrow2
  clear hst2 hview2 hrv2 hrow2
  go_wp2
  refine bodyPost_ret (v := .tuple #[.slice va (linesP t.view).length vc, .bool true]) (by simp [results, Tryz.results14, go_sem]) rfl ?_
  refine ⟨t2, _, rfl, HST.out.trans (.from (gb_alloc (gb_refl _ _) _) HS2.out), HE2.out.1.trans HE.out.1, ?_, own_mono HR2.out (by have := HST.out.kept.size; simp; omega), fun b hb hm' => by
    rw [HOW.out] at hm'
    have h1 := HST.out.bd.lt b hm'
    have h2 := (HR2.out.lt b (by simpa using hb)).1
    simp at h2; omega⟩
  rw [HE2.out.2, HE.out.2.1, List.set_set]
  apply List.ext_getElem?
  intro j
  rw [List.getElem?_set]
  split
  · rename_i e; subst e
    split
    · exact HE.out.2.2.symm
    · rename_i h; rw [List.getElem?_eq_none (by omega)]
  · rfl

end Go.Proofs.YtcfdemhokbddiaaGreatDoor
