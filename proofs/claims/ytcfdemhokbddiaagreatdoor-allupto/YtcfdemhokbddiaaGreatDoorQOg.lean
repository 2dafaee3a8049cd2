/-
  The board's calls, as whoever holds a board sees them: New, Family, Change, Drop, Open, Page, Tick.
-/
import Derived.Test.YtcfdemhokbddiaaGreatDoorQOf

namespace Go.Proofs.YtcfdemhokbddiaaGreatDoor
open Go.RowKit Go.Shelf

attribute [local go_sem] Oper.semAt_some

set_option maxRecDepth 100000 in
set_option maxHeartbeats 400000 in
theorem bFamily_any (t : GT) (nm : List UInt8) (kind : Int) (v : Value) (xs : List Int) (m : Nat) (w : World) (h : GT.At w t) (ho : GT.Ok m t) (hv : IntSl w v xs) (hm : xs.length ≤ 9223372036854775807) :
    Calls Tryz.prog 33 #[.pointer (some ⟨t.b, 0, none⟩), .string (B nm), .int .i64 kind, v] w fun e w' => ∃ t' code, e = .returned (.int .i64 code) ∧ Out m t t' w w' ∧ t'.rds = t.rds ∧ (code, t'.view) = famP t.view nm kind xs := by
  have HC : Hid (Calls Tryz.prog 57 #[.pointer (some ⟨t.b, 0, none⟩), .string (B nm), .int .i64 kind, v] w _) := tallyFamily_any t nm kind v xs m w h ho hv hm
  obtain ⟨sa, ca, rfl⟩ := intSl_shape hv
  clear h ho hv
  go_enter Tryz.func33, Tryz.ntmps33
  go_wp2_with fail
  refine HC.out.mono ?_
  rintro e w1 ⟨t', code, rfl, h1, h2, h3⟩
  have HR : Hid (Out m t t' w w1 ∧ t'.rds = t.rds ∧ (code, t'.view) = famP t.view nm kind xs) := ⟨h1, h2, h3⟩
  clear h1 h2 h3
  go_wp2
  go_ret
  exact ⟨t', code, rfl, HR.out⟩

set_option maxRecDepth 100000 in
set_option maxHeartbeats 400000 in
theorem bChange_any (t : GT) (s : ByteArray) (n : Int) (m : Nat) (w : World) (h : GT.At w t) (ho : GT.Ok m t) (hm : m ≤ 4611686018427387904) :
    Calls Tryz.prog 20 #[.pointer (some ⟨t.b, 0, none⟩), .string s, .int .i64 n] w fun e w' => ∃ t' code, e = .returned (.int .i64 code) ∧ Out (m + 1) t t' w w' ∧ t'.rds = t.rds ∧ (code, t'.view) = chgP t.view s.data.toList n := by
  have HC : Hid (Calls Tryz.prog 36 #[.pointer (some ⟨t.b, 0, none⟩), .string s, .int .i64 n] w _) := tallyChange_any t s n m w h ho hm
  clear h ho
  go_enter Tryz.func20, Tryz.ntmps20
  go_wp2_with fail
  refine HC.out.mono ?_
  rintro e w1 ⟨t', code, rfl, h1, h2, h3⟩
  have HR : Hid (Out (m + 1) t t' w w1 ∧ t'.rds = t.rds ∧ (code, t'.view) = chgP t.view s.data.toList n) := ⟨h1, h2, h3⟩
  clear h1 h2 h3
  go_wp2
  go_ret
  exact ⟨t', code, rfl, HR.out⟩

set_option maxRecDepth 100000 in
set_option maxHeartbeats 400000 in
theorem bDrop_any (t : GT) (s : ByteArray) (m : Nat) (w : World) (h : GT.At w t) (ho : GT.Ok m t) :
    Calls Tryz.prog 27 #[.pointer (some ⟨t.b, 0, none⟩), .string s] w fun e w' => ∃ t' code, e = .returned (.int .i64 code) ∧ Out m t t' w w' ∧ t'.rds = t.rds ∧ (code, t'.view) = drpP t.view s.data.toList := by
  have HC : Hid (Calls Tryz.prog 41 #[.pointer (some ⟨t.b, 0, none⟩), .string s] w _) := tallyDrop_any t s m w h ho
  clear h ho
  go_enter Tryz.func27, Tryz.ntmps27
  go_wp2_with fail
  refine HC.out.mono ?_
  rintro e w1 ⟨t', code, rfl, h1, h2, h3⟩
  have HR : Hid (Out m t t' w w1 ∧ t'.rds = t.rds ∧ (code, t'.view) = drpP t.view s.data.toList) := ⟨h1, h2, h3⟩
  clear h1 h2 h3
  go_wp2
  go_ret
  exact ⟨t', code, rfl, HR.out⟩

set_option maxRecDepth 100000 in
set_option maxHeartbeats 400000 in
theorem bTick_any (t : GT) (m : Nat) (w : World) (h : GT.At w t) (ho : GT.Ok m t) (hrd : RdOk t) :
    Calls Tryz.prog 22 #[.pointer (some ⟨t.b, 0, none⟩)] w fun e w' => e = .returned (.tuple #[]) ∧ ∃ t', Out m t t' w w' ∧ t'.own = t.own ∧ RdOk t' ∧ t'.view = t.view ∧ t'.rview = tickP t.rview := by
  have HC : Hid (Calls Tryz.prog 37 #[.pointer (some ⟨t.b, 3, none⟩)] w _) := rdTick_any t m w h ho hrd
  clear h ho hrd
  go_enter Tryz.func22, Tryz.ntmps22
  go_wp2_with fail
  refine HC.out.mono ?_
  rintro e w1 ⟨rfl, h1⟩
  have HR : Hid (∃ t', Out m t t' w w1 ∧ t'.own = t.own ∧ RdOk t' ∧ t'.view = t.view ∧ t'.rview = tickP t.rview) := h1
  clear h1
  go_wp2
  go_end0
  exact ⟨rfl, HR.out⟩

set_option maxRecDepth 100000 in
set_option maxHeartbeats 400000 in
theorem bPage_any (t : GT) (n k : Int) (m : Nat) (w : World) (h : GT.At w t) (ho : GT.Ok m t) (hrd : RdOk t) (hm : m ≤ 4611686018427387904) (ht : Tab w) (h0 : ∀ b ∈ t.own, b ≠ 0) :
    Calls Tryz.prog 16 #[.pointer (some ⟨t.b, 0, none⟩), .int .i64 n, .int .i64 k] w (PageOut m t n k w) := by
  have HC : Hid (Calls Tryz.prog 35 #[.pointer (some ⟨t.b, 3, none⟩), .int .i64 n, .int .i64 k] w _) := rdPage_any t n k m w h ho hrd hm ht h0
  clear h ho hrd ht h0
  go_enter Tryz.func16, Tryz.ntmps16
  go_wp2_with fail
  refine HC.out.mono ?_
  rintro e w1 ⟨t', v, lines, more, c, rfl, h1, h2, h3, h4, h5, h6⟩
  have HR : Hid (Out m t t' w w1 ∧ t'.own = t.own ∧ RdOk t' ∧ t'.view = t.view ∧ w1.ownsRow w.heap.size 9 1 v lines.length (strs lines) ∧ ((lines, more, c), t'.rview) = pageP t.rview n k) := ⟨h1, h2, h3, h4, h5, h6⟩
  obtain ⟨sa, sc, rfl, _, _⟩ := own_shape1 h5
  clear h1 h2 h3 h4 h5 h6
  go_wp2
  refine bodyPost_ret (v := .tuple #[.slice sa lines.length sc, .bool more, .int .i64 c]) (by simp [results, Tryz.results16, go_sem]) rfl ?_
  exact ⟨t', _, lines, more, c, rfl, HR.out⟩

set_option maxRecDepth 100000 in
set_option maxHeartbeats 400000 in
theorem bOpen_any (t : GT) (s : ByteArray) (m : Nat) (w : World) (h : GT.At w t) (ho : GT.Ok m t) (hrd : RdOk t) (hm : m ≤ 4611686018427387904) :
    Calls Tryz.prog 15 #[.pointer (some ⟨t.b, 0, none⟩), .string s] w fun e w' => ∃ t' i c, e = .returned (.tuple #[.int .i64 i, .int .i64 c]) ∧ Out (m + 1) t t' w w' ∧ RdOk t' ∧ t'.view = t.view ∧ ((i, c), t'.rview) = openP t.view t.rview s.data.toList := by
  have HC : Hid (Calls Tryz.prog 34 #[.pointer (some ⟨t.b, 3, none⟩), .pointer (some ⟨t.b, 0, none⟩), .string s] w.drew fun e w' => ∃ t' i c, e = .returned (.tuple #[.int .i64 i, .int .i64 c]) ∧ Out (m + 1) t t' w w' ∧ RdOk t' ∧ t'.view = t.view ∧ ((i, c), t'.rview) = openP t.view t.rview s.data.toList) :=
    (rdOpen_any t s m w.drew (h.gb (gb_drew (gb_refl _ _))) ho hrd hm).mono fun e w' ⟨t', i, c, h1, h2, h3⟩ => ⟨t', i, c, h1, .from (gb_drew (gb_refl _ _)) h2, h3⟩
  clear h ho hrd
  refine (callsIn_wide (n := 3)).1 ?_
  refine callsIn_of_wp Tryz.func15 rfl trivial ?_ rfl
  simp only [Tryz.ntmps15, List.size_toArray, List.length_cons, List.length_nil, Nat.reduceAdd, Nat.reduceSub, Array.replicate_succ, Array.replicate_zero, List.push_toArray, List.append_toArray, List.nil_append, List.cons_append]
  gi_wp2
  refine region_held (fun _ => True) (by kernel_rfl) ?_
  have hS : True := trivial
  refine wpAnyS_put (i := 0) (v := ?_) rfl rfl rfl (by kernel_rfl) (by kernel_rfl) (by kernel_rfl) (fun _ _ _ h => h) ⟨Or.inl ⟨by rfl, ?_⟩, fun _ => rfl⟩ hS ?_
  rotate_left
  · intro w' hSw
    go_simp
    try with_reducible rfl
  simp only [Act.put, List.setIfInBounds_toArray, List.set_cons_zero, List.set_cons_succ]
  refine wpAnyS_put (i := 1) (v := ?_) rfl rfl rfl (by kernel_rfl) (by kernel_rfl) (by kernel_rfl) (fun _ _ _ h => h) ⟨Or.inl ⟨by rfl, ?_⟩, fun _ => rfl⟩ hS ?_
  rotate_left
  · intro w' hSw
    go_simp
    try with_reducible rfl
  simp only [Act.put, List.setIfInBounds_toArray, List.set_cons_zero, List.set_cons_succ]
  refine wpAnyS_put (i := 2) (v := ?_) rfl rfl rfl (by kernel_rfl) (by kernel_rfl) (by kernel_rfl) (fun _ _ _ h => h) ⟨Or.inl ⟨by rfl, ?_⟩, fun _ => rfl⟩ hS ?_
  rotate_left
  · intro w' hSw
    go_simp
    try with_reducible rfl
  simp only [Act.put, List.setIfInBounds_toArray, List.set_cons_zero, List.set_cons_succ]
  refine wpAnyS_put (i := 3) (v := ?_) rfl rfl rfl (by kernel_rfl) (by kernel_rfl) (by kernel_rfl) (fun _ _ _ h => h) ⟨Or.inl ⟨by rfl, ?_⟩, fun _ => rfl⟩ hS ?_
  rotate_left
  · intro w' hSw
    go_simp
    try with_reducible rfl
  simp only [Act.put, List.setIfInBounds_toArray, List.set_cons_zero, List.set_cons_succ]
  refine wpAnyS_put (i := 4) (v := ?_) rfl rfl rfl (by kernel_rfl) (by kernel_rfl) (by kernel_rfl) (fun _ _ _ h => h) ⟨Or.inl ⟨by rfl, ?_⟩, fun _ => rfl⟩ hS ?_
  rotate_left
  · intro w' hSw
    go_simp
    try with_reducible rfl
  simp only [Act.put, List.setIfInBounds_toArray, List.set_cons_zero, List.set_cons_succ]
  refine wpAnyS_put (i := 5) (v := ?_) rfl rfl rfl (by kernel_rfl) (by kernel_rfl) (by kernel_rfl) (fun _ _ _ h => h) ⟨Or.inl ⟨by rfl, ?_⟩, fun _ => rfl⟩ hS ?_
  rotate_left
  · intro w' hSw
    go_simp
    try with_reducible rfl
  simp only [Act.put, List.setIfInBounds_toArray, List.set_cons_zero, List.set_cons_succ]
  refine wpAnyS_put (i := 6) (v := ?_) rfl rfl rfl (by kernel_rfl) (by kernel_rfl) (by kernel_rfl) (fun _ _ _ h => h) ⟨Or.inl ⟨by rfl, ?_⟩, fun _ => rfl⟩ hS ?_
  rotate_left
  · intro w' hSw
    go_simp
    try with_reducible rfl
  simp only [Act.put, List.setIfInBounds_toArray, List.set_cons_zero, List.set_cons_succ]
  refine wpAnyS_one (i := 7) rfl (by kernel_rfl) (fun K hK => ?_)
  rw [if_pos (by rfl)]
  gi_wp2
  refine ⟨trivial, (callsIn_wide.2 HC.out).mono ?_⟩
  rintro e w1 ⟨t', i, c, rfl, h1⟩
  have HR : Hid (Out (m + 1) t t' w w1 ∧ RdOk t' ∧ t'.view = t.view ∧ ((i, c), t'.rview) = openP t.view t.rview s.data.toList) := h1
  clear h1
  refine hK _ _ trivial ?_
  clear hK
  refine wpAnyS_put (i := 8) (v := ?_) rfl rfl rfl (by kernel_rfl) (by kernel_rfl) (by kernel_rfl) (fun _ _ _ h => h) ⟨Or.inl ⟨by rfl, ?_⟩, fun _ => rfl⟩ hS ?_
  rotate_left
  · intro w' hSw
    go_simp
    try with_reducible rfl
  simp only [Act.put, List.setIfInBounds_toArray, List.set_cons_zero, List.set_cons_succ]
  refine wpAnyS_put (i := 9) (v := ?_) rfl rfl rfl (by kernel_rfl) (by kernel_rfl) (by kernel_rfl) (fun _ _ _ h => h) ⟨Or.inl ⟨by rfl, ?_⟩, fun _ => rfl⟩ hS ?_
  rotate_left
  · intro w' hSw
    go_simp
    try with_reducible rfl
  simp only [Act.put, List.setIfInBounds_toArray, List.set_cons_zero, List.set_cons_succ]
  refine wpAnyS_put (i := 10) (v := ?_) rfl rfl rfl (by kernel_rfl) (by kernel_rfl) (by kernel_rfl) (fun _ _ _ h => h) ⟨Or.inl ⟨by rfl, ?_⟩, fun _ => rfl⟩ hS ?_
  rotate_left
  · intro w' hSw
    go_simp
    try with_reducible rfl
  simp only [Act.put, List.setIfInBounds_toArray, List.set_cons_zero, List.set_cons_succ]
  refine wpAnyS_put (i := 11) (v := ?_) rfl rfl rfl (by kernel_rfl) (by kernel_rfl) (by kernel_rfl) (fun _ _ _ h => h) ⟨Or.inl ⟨by rfl, ?_⟩, fun _ => rfl⟩ hS ?_
  rotate_left
  · intro w' hSw
    go_simp
    try with_reducible rfl
  simp only [Act.put, List.setIfInBounds_toArray, List.set_cons_zero, List.set_cons_succ]
  refine wpAnyS_done (by kernel_rfl) ?_ _
  gi_wp2
  refine bodyPost_ret (v := .tuple #[.int .i64 i, .int .i64 c]) (by simp [results, go_sem]) rfl ?_
  exact ⟨t', i, c, rfl, HR.out⟩

set_option maxRecDepth 100000 in
set_option maxHeartbeats 400000 in
theorem bNew_any (w : World) : Calls Tryz.prog 32 #[] w fun e w' => ∃ t, e = .returned (.pointer (some ⟨t.b, 0, none⟩)) ∧ w'.heap.size = w.heap.size + 1 ∧ w.grownBy w' none ∧ GT.At w' t ∧ GT.Ok 0 t ∧ RdOk t ∧ t.view = [] ∧ t.rview = [none, none, none] ∧ t.own = [w.heap.size] := by
  go_enter Tryz.func32, Tryz.ntmps32
  go_wp2
  go_ret
  refine ⟨⟨w.heap.size, 0, 0, .slice none 0 0, [], [none, none, none], [w.heap.size], fun b => if b = w.heap.size then .brd else .out⟩, rfl, by simp, gb_alloc (gb_refl _ _) _, ⟨alloc_new _ _ _ rfl, ⟨rfl, Or.inl ⟨rfl, rfl⟩⟩, by simp, by simp, by simp, by simp [Value.ownBlock], by simp, ?_, ?_, by simp, by simp⟩, ⟨List.Pairwise.nil, by simp, by simp, by simp, by simp, by simp, by simp, by simp, rfl, by simp⟩, fun r hr => by simp at hr, rfl, rfl, rfl⟩
  · intro i r hr
    match i, hr with
    | 0, hr => simp at hr
    | 1, hr => simp at hr
    | 2, hr => simp at hr
    | _ + 3, hr => simp at hr
  · intro b hb
    by_cases e : b = w.heap.size
    · simp [e]
    · simp [e] at hb

end Go.Proofs.YtcfdemhokbddiaaGreatDoor
