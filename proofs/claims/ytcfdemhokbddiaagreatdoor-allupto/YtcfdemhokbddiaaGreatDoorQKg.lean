/-
  limitsFit; the name of a text of any length, IsName; strings.Clone, slices.Clone.
-/
import Derived.Test.YtcfdemhokbddiaaGreatDoorQKf
import Derived.Test.YtcfdemhokbddiaaGreatDoorQM
import Derived.Test.YtcfdemhokbddiaaGreatDoorQMa
import Derived.Shelf.Pu.Clone
import Derived.Lib.SliceRun

namespace Go.Proofs.YtcfdemhokbddiaaGreatDoor
open Go.RowKit

/-- Are there families of that kind with these limits? -/
def fitB (kind : Int) (xs : List Int) : Bool :=
  if kind = 1 ∨ kind = 2 then decide (xs = []) else if kind = 3 then decide (1 ≤ xs.length ∧ xs.length ≤ 4) && (riseB xs && (inB (xs.headD 0) && inB (xs.getLastD 0))) else false

set_option maxRecDepth 100000 in
set_option maxHeartbeats 1000000 in
theorem limitsFit_any (kind : Int) (v : Value) (xs : List Int) (w : World) (hv : IntSl w v xs) :
    Calls Tryz.prog 87 #[.int .i64 kind, v] w fun e w' => e = .returned (.bool (fitB kind xs)) ∧ w.grownBy w' none := by
  obtain ⟨sa, ca, rfl, hc, hxs⟩ := hv
  by_cases h1 : kind = 1
  · subst h1
    have HE : Hid (fitB 1 xs = ((xs.length : Int) == 0)) := by show _ = _; simp only [fitB]; rw [Bool.eq_iff_iff]; simp
    go_enter Tryz.func87, Tryz.ntmps87
    go_wp2
    go_ret
    exact ⟨by rw [HE.out]; rfl, gb_refl _ _⟩
  by_cases h2 : kind = 2
  · subst h2
    have HE : Hid (fitB 2 xs = ((xs.length : Int) == 0)) := by show _ = _; simp only [fitB]; rw [Bool.eq_iff_iff]; simp
    go_enter Tryz.func87, Tryz.ntmps87
    go_wp2
    go_ret
    exact ⟨by rw [HE.out]; rfl, gb_refl _ _⟩
  by_cases h3 : kind = 3
  · subst h3
    have HF : Hid (fitB 3 xs = (decide (1 ≤ xs.length ∧ xs.length ≤ 4) && (riseB xs && (inB (xs.headD 0) && inB (xs.getLastD 0))))) := by show _ = _; simp [fitB]
    by_cases ha : 1 ≤ xs.length
    · by_cases hb : xs.length ≤ 4
      · rcases hxs with h | ⟨b, off, rfl, hI⟩
        · rw [h] at ha; simp at ha
        have HI : Hid (IntsAt w b off xs) := hI
        have ha' : (1 : Int) ≤ (xs.length : Int) := by omega
        have hb' : (xs.length : Int) ≤ 4 := by omega
        have H0 : Hid (xs[0] = xs.headD 0) := by
          show _ = _
          cases xs with
          | nil => simp at ha
          | cons x xs => rfl
        have HL : Hid (xs[xs.length - 1] = xs.getLastD 0) := by
          show _ = _
          cases xs with
          | nil => simp at ha
          | cons x xs => simp [List.getLastD_eq_getLast?, List.getLast?_eq_getElem?]
        clear hI
        go_enter Tryz.func87, Tryz.ntmps87
        go_wp2_with fail
        refine (rise_any b off ca xs _ HI.out hb hc).mono ?_
        rintro e w1 ⟨rfl, g1⟩
        cases hr : riseB xs with
        | false =>
          have HR : Hid (riseB xs = false) := hr
          clear hr
          go_wp2
          go_ret
          exact ⟨by rw [HF.out, HR.out]; simp, g1⟩
        | true =>
          have HR : Hid (riseB xs = true) := hr
          clear hr
          have d0 := HI.out.gb g1 0 (by omega)
          have dl := HI.out.gb g1 (xs.length - 1) (by omega)
          rw [Nat.add_zero] at d0
          rw [H0.out] at d0
          rw [HL.out] at dl
          generalize xs.headD 0 = x0 at d0 HF
          generalize xs.getLastD 0 = xl at dl HF
          go_wp2_with fail
          refine (inBounds_any x0 _).mono ?_
          rintro e w2 ⟨rfl, rfl⟩
          cases hr0 : inB x0 with
          | false =>
            have HR0 : Hid (inB x0 = false) := hr0
            clear hr0
            go_wp2
            go_ret
            exact ⟨by rw [HF.out, HR0.out]; simp, g1⟩
          | true =>
            have HR0 : Hid (inB x0 = true) := hr0
            clear hr0
            have hw : ((xs.length : Int) - 1).toNat = xs.length - 1 := by omega
            go_wp2_with fail
            refine (inBounds_any xl _).mono ?_
            rintro e w3 ⟨rfl, rfl⟩
            clear hw
            go_wp2
            go_ret
            refine ⟨?_, g1⟩
            rw [HF.out, HR0.out, HR.out, decide_eq_true (⟨ha, hb⟩ : 1 ≤ xs.length ∧ xs.length ≤ 4)]; simp
      · have hb' : ¬ (xs.length : Int) ≤ 4 := by omega
        have ha' : (1 : Int) ≤ (xs.length : Int) := by omega
        go_enter Tryz.func87, Tryz.ntmps87
        go_wp2
        go_ret
        refine ⟨?_, gb_refl _ _⟩
        rw [HF.out, decide_eq_false (fun h => hb h.2)]; simp
    · have ha' : ¬ (1 : Int) ≤ (xs.length : Int) := by omega
      go_enter Tryz.func87, Tryz.ntmps87
      go_wp2
      go_ret
      refine ⟨?_, gb_refl _ _⟩
      rw [HF.out, decide_eq_false (fun h => ha h.1)]; simp
  · have HE : Hid (fitB kind xs = false) := by show _ = _; simp [fitB, h1, h2, h3]
    have h1' : (kind == 1) = false := by simpa using h1
    have h2' : (kind == 2) = false := by simpa using h2
    have h3' : (kind == 3) = false := by simpa using h3
    go_enter Tryz.func87, Tryz.ntmps87
    go_wp2
    go_ret
    exact ⟨by rw [HE.out]; rfl, gb_refl _ _⟩

set_option maxHeartbeats 400000 in
theorem name_big (b : Nat) (s : ByteArray) (n : Nat) (w : World) (hb : w.heap[b]? = some (rdr s n)) (hn : n ≤ s.size) (hs : n ≤ 100) :
    Calls Tryz.prog 92 #[.pointer (some ⟨b, 0, none⟩)] w fun e w' => ∃ m, m = n + nameLen 0 (s.data.toList.drop n) ∧ m ≤ s.size ∧
      e = .returned (.tuple #[.string (s.extract n m), .bool (decide (n < m))]) ∧ w'.heap[b]? = some (rdr s m) ∧ w.grownBy w' (some b) := by
  have c0 := cell0 hb
  have c1 := cell1 hb
  go_enter Tryz.func92, Tryz.ntmps92
  go_wp2
  go_loopw [] (fun wr => ∃ m, wr.heap[b]? = some (rdr s m) ∧ w.grownBy wr (some b) ∧ n ≤ m ∧ m ≤ s.size ∧ m - n ≤ 12 ∧ nameLen 0 (s.data.toList.drop n) = (m - n) + nameLen (m - n) (s.data.toList.drop m))
    (fun wr => n + 13 - posOf b wr)
  case atStart => exact ⟨n, hb, gb_refl _ _, Nat.le_refl _, hn, by omega, by simp⟩
  case round =>
    obtain ⟨m, hm, hg, h1, h2, h3, h4⟩ := hrel
    clear c0 c1
    have c0 := cell0 hm
    have c1 := cell1 hm
    have H4 : Hid (nameLen 0 (s.data.toList.drop n) = (m - n) + nameLen (m - n) (s.data.toList.drop m)) := h4
    clear h4
    by_cases hlt : m < s.size
    · have he : Hid (∀ k, _) := fun k => ended_f b s m (wr.drewN k) hm hlt
      have hlt' : (m : Int) < (s.size : Int) := by omega
      have hd : Hid (s.data.toList.drop m = _) := drop_cons s m hlt
      by_cases h12 : m - n < 12
      · have h12' : (m : Int) - (n : Int) < 12 := by omega
        have e0 : ((m : Int) == (n : Int)) = (m - n == 0) := by rw [Bool.eq_iff_iff]; simp; omega
        cases hnb : nameB (s[m].toNat : Int) (m - n == 0)
        · have hN : Hid (∀ k, Calls Tryz.prog 125 #[.int .u8 (s[m].toNat : Int), .bool ((m : Int) == (n : Int))] (wr.drewN k) fun e w' => e = .returned (.bool false) ∧ w' = wr.drewN k) :=
            fun k => (nameByte_any (s[m].toNat : Int) ((m : Int) == (n : Int)) (wr.drewN k)).mono fun e w' ⟨h1, h2⟩ => ⟨by rw [h1, e0, hnb], h2⟩
          have HN : Hid (nameB (s[m].toNat : Int) (m - n == 0) = false) := hnb
          clear e0 hnb
          go_wp2_with fail
          go_quiet (first | (go_at_call 93; exact Calls.quiet_of (he.out _)) | (go_at_call 125; exact Calls.quiet_of_same (hN.out _)))
          go_wp2
          go_quiet (fail)
          go_wp2
          go_ret2
          refine ⟨m, ?_, h2, ?_, hm, gb_d (gb_d hg)⟩
          · have := H4.out
            rw [hd.out] at this
            simp [nameLen, HN.out] at this
            omega
          · exact ret_pair rfl (by simp)
        · have hN : Hid (∀ k, Calls Tryz.prog 125 #[.int .u8 (s[m].toNat : Int), .bool ((m : Int) == (n : Int))] (wr.drewN k) fun e w' => e = .returned (.bool true) ∧ w' = wr.drewN k) :=
            fun k => (nameByte_any (s[m].toNat : Int) ((m : Int) == (n : Int)) (wr.drewN k)).mono fun e w' ⟨h1, h2⟩ => ⟨by rw [h1, e0, hnb], h2⟩
          have HN : Hid (nameB (s[m].toNat : Int) (m - n == 0) = true) := hnb
          have f1 := froz1 hm
          clear e0 hnb
          go_wp2_with fail
          go_quiet (first | (go_at_call 93; exact Calls.quiet_of (he.out _)) | (go_at_call 125; exact Calls.quiet_of_same (hN.out _)))
          go_wp2
          go_roundw
          case rel =>
            refine ⟨m + 1, rdr_set (w := wr.drewN _) hm (m + 1) _ (by omega), gb_s (gb_d hg), by omega, by omega, by omega, ?_⟩
            rw [H4.out, hd.out]
            simp [nameLen, HN.out, h12]
            rw [show m + 1 - n = m - n + 1 from by omega]; omega
          case measure =>
            rw [posOf_rdr hm, posOf_rdr (rdr_set (w := wr.drewN _) hm (m + 1) _ (by omega))]
            omega
      · have h12' : decide ((m : Int) - (n : Int) < 12) = false := by simp; omega
        go_wp2_with fail
        go_quiet ((go_at_call 93; exact Calls.quiet_of (he.out _)))
        go_wp2
        go_quiet (fail)
        go_wp2
        go_ret2
        refine ⟨m, ?_, h2, ?_, hm, gb_d (gb_d hg)⟩
        · have := H4.out
          rw [show m - n = 12 from by omega, nameLen_full] at this
          omega
        · exact ret_pair rfl (by simp)
    · have he : Hid (∀ k, _) := fun k => ended_t b s m (wr.drewN k) hm (by omega)
      go_wp2_with fail
      go_quiet ((go_at_call 93; exact Calls.quiet_of (he.out _)))
      go_wp2
      go_quiet (fail)
      go_wp2
      go_ret2
      refine ⟨m, ?_, h2, ?_, hm, gb_d (gb_d hg)⟩
      · have e1 : m = s.size := by omega
        have := H4.out
        subst e1
        rw [drop_all] at this
        simp [nameLen] at this
        omega
      · exact ret_pair rfl (by simp)

def isNameB (l : List UInt8) : Bool := decide (0 < nameLen 0 l) && decide (nameLen 0 l = l.length)

set_option maxHeartbeats 400000 in
theorem isName_any (s : ByteArray) (w : World) :
    Calls Tryz.prog 58 #[.string s] w fun e w' => e = .returned (.bool (isNameB s.data.toList)) ∧ w.grownBy w' none := by
  have hb : (w.alloc (rdr s 0)).heap[w.heap.size]? = some (rdr s 0) := alloc_new _ _ _ rfl
  go_enter Tryz.func58, Tryz.ntmps58
  go_wp2_with fail
  refine (name_big w.heap.size s 0 _ (by exact hb) (Nat.zero_le _) (by omega)).mono ?_
  rintro e w1 ⟨m, hm, hms, rfl, q1, g1⟩
  have G1 : w.grownBy w1 none := gb_new (gb_alloc (gb_refl _ _) _) g1 (Nat.le_refl _)
  simp only [List.drop_zero, Nat.zero_add] at hm
  have HM : Hid (m = nameLen 0 s.data.toList) := hm
  clear hm g1 hb
  by_cases h0 : 0 < m
  · have h0' : decide (0 < m) = true := by simpa using h0
    go_wp2_with fail
    refine (ended_any w.heap.size s m _ (by exact q1)).mono ?_
    rintro e w2 ⟨rfl, q, rfl⟩
    go_wp2
    go_ret
    refine ⟨?_, gb_d G1⟩
    refine ret_bool ?_
    unfold isNameB
    rw [← HM.out, h0']
    show _ = (true && decide (m = s.size))
    rw [Bool.eq_iff_iff]; simp; omega
  · have h0' : decide (0 < m) = false := by simpa using h0
    go_wp2
    go_ret
    refine ⟨?_, G1⟩
    unfold isNameB
    rw [← HM.out, h0']; rfl

def laysPu25_ren : Go.Shelf.Ren := ⟨fun | 25 => 155 | n => n, fun | 0 => 0 | 3 => 3 | 4 => 4 | 5 => 5 | 9 => 9 | 37 => 133 | 47 => 194 | n => n, fun | n => n⟩
theorem laysPu25 : Go.Proofs.LaysPu.n25 Tryz.prog laysPu25_ren := {
  mixed := by kernel_rfl
  f25 := Tryz.func155.trans (congrArg some (by kernel_rfl))
  t0 := Tryz.underlying0
  a0 := Tryz.isAgg0
  z0 := Tryz.sizeOf0
  v0 := Tryz.zeroValue0
  i0 := by kernel_rfl
  t3 := Tryz.underlying3
  a3 := Tryz.isAgg3
  z3 := Tryz.sizeOf3
  v3 := Tryz.zeroValue3
  i3 := by kernel_rfl
  t4 := Tryz.underlying4
  a4 := Tryz.isAgg4
  z4 := Tryz.sizeOf4
  v4 := Tryz.zeroValue4
  i4 := by kernel_rfl
  t5 := Tryz.underlying5
  a5 := Tryz.isAgg5
  z5 := Tryz.sizeOf5
  v5 := Tryz.zeroValue5
  i5 := by kernel_rfl
  t9 := Tryz.underlying9
  a9 := Tryz.isAgg9
  z9 := Tryz.sizeOf9
  v9 := Tryz.zeroValue9
  i9 := by kernel_rfl
  t37 := Tryz.underlying133
  a37 := Tryz.isAgg133
  z37 := Tryz.sizeOf133
  v37 := Tryz.zeroValue133
  i37 := by kernel_rfl
  t47 := Tryz.underlying194
  a47 := Tryz.isAgg194
  z47 := Tryz.sizeOf194
  v47 := Tryz.zeroValue194
  i47 := by kernel_rfl }

theorem gb_of_below {w w' : World} (h : Below w.heap.size w w') : w.grownBy w' none := ⟨h.os, h.tape, h.output, h.size, fun k hk _ => h.block k hk⟩

set_option maxHeartbeats 400000 in
theorem clone_any (s : ByteArray) (w : World) (hs : s.size ≤ 100) :
    Calls Tryz.prog 123 #[.string s] w fun e w' => e = .returned (.string s) ∧ w.grownBy w' none := by
  go_enter Tryz.func123, Tryz.ntmps123
  go_wp2_with fail
  refine (Go.Proofs.AnyPu.stringslite_Clone laysPu25 s _ (by omega)).mono ?_
  rintro e w1 ⟨rfl, b1⟩
  go_wp2
  go_ret
  exact ⟨rfl, gb_of_below b1⟩

set_option maxRecDepth 100000 in
set_option maxHeartbeats 400000 in
theorem cloneI_any (v : Value) (xs : List Int) (w : World) (hv : IntSl w v xs) (hl : xs.length ≤ 4) :
    Calls Tryz.prog 124 #[v] w fun e w' => ∃ u, e = .returned u ∧ w'.ownsRow w.heap.size 3 1 u xs.length (ints xs) ∧ w.grownBy w' none := by
  obtain ⟨i0, hi, hz0, hz1, hz2⟩ := info_parts Tryz.info3
  have HI : Hid (Tryz.prog.info? 3 = some i0 ∧ i0.zero = some (.int .i64 0) ∧ i0.size = 1 ∧ i0.bytes = 8) := ⟨hi, hz0, hz1, hz2⟩
  clear hi hz0 hz1 hz2
  obtain ⟨sa, ca, rfl, hc, hxs⟩ := hv
  have own0 := own_emptyI w
  cases sa with
  | none =>
    obtain rfl : xs = [] := by
      rcases hxs with h | ⟨b, off, h, _⟩
      · exact h
      · cases h
    have hq := fun (w : World) (a : Option Addr) (n c n' c' : Nat) => Lib.run_eql_slice_nil (P := Tryz.prog) w 26 3 a n c n' c' Tryz.underlying26
    go_enter Tryz.func124, Tryz.ntmps124
    go_wp2
    go_ret
    exact ⟨_, rfl, World.ownsRow_nil _ _ _ _, gb_refl _ _⟩
  | some ad =>
    have HX : Hid (∀ j u, (ints xs)[j]? = some u → (w.alloc (.cells #[] 3)).cell? (ad.add j) = some u) := by
      intro j u hj
      rcases hxs with h | ⟨b, off, h, hI⟩
      · subst h; simp [ints] at hj
      · cases h
        have hjl : j < xs.length := by
          have := (List.getElem?_eq_some_iff.1 hj).1
          simpa [ints] using this
        have h1 := gb_cell (gb_alloc (gb_refl w none) (.cells #[] 3)) (hI j hjl) (by simp)
        rw [Addr.add_lit, h1]
        simp [ints, hjl] at hj
        rw [hj]
    have HL : Hid ((ints xs).length = xs.length * 1) := by show _ = _; simp [ints]
    have hq := fun (w : World) (a : Option Addr) (n c n' c' : Nat) => Lib.run_eql_slice_nil (P := Tryz.prog) w 26 3 a n c n' c' Tryz.underlying26
    go_enter Tryz.func124, Tryz.ntmps124
    go_wp2_with (at_builtin; refine wpList_append_own _ rfl _ _ 26 rfl w.heap.size 3 i0 (.int .i64 0) 1 8 Tryz.underlying26 HI.out.1 HI.out.2.1 HI.out.2.2.1 HI.out.2.2.2 rfl (by decide) _ 0 [] rfl own0 ad xs.length ca (ints xs) rfl HL.out HX.out (ints_one _) (by unfold maxLen; omega) (by omega) (by simp) ?_; intro u w1 own1 g1 _)
    go_ret
    refine ⟨_, rfl, ?_, gb_new (gb_alloc (gb_refl _ _) _) g1 (Nat.le_refl _)⟩
    rw [Nat.zero_add, List.nil_append] at own1
    exact own1

end Go.Proofs.YtcfdemhokbddiaaGreatDoor
