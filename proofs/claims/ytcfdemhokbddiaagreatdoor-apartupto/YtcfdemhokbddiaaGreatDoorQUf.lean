/-
  Rows of texts beside a board; a list of acts; what the boards of the keeps tell.
-/
import Derived.Test.YtcfdemhokbddiaaGreatDoorQUe

namespace Go.Proofs.YtcfdemhokbddiaaGreatDoor
open Go.RowKit

/-- A row of texts that no board's call turns. -/
structure Row (t : GT) (w : World) (s : Nat) (v : Value) (ls : List (List UInt8)) : Prop where
  own : w.ownsRow s 9 1 v ls.length (strs ls)
  far : ∀ b ∈ v.ownBlock.toList, b ∉ t.own
theorem Row.lt {t : GT} {w : World} {s : Nat} {v : Value} {ls : List (List UInt8)} (h : Row t w s v ls) : ∀ b ∈ v.ownBlock.toList, s ≤ b ∧ b < w.heap.size := fun b hb => h.own.lt b (by simpa using hb)
theorem Row.stp {base m s : Nat} {t t' : GT} {w w' : World} {v : Value} {ls : List (List UInt8)} (h : Row t w s v ls) (hs : Stp base m t t' w w') : Row t' w' s v ls :=
  ⟨own_frame h.own fun b hb => hs.kept.block b (own_lt h.own b hb) (h.far b hb), fun b hb hm => by
    rcases hs.sub b hm with h1 | h1
    · exact h.far b hb h1
    · have := own_lt h.own b hb; omega⟩
theorem Row.kept {s : Nat} {t : GT} {w w' : World} {v : Value} {ls : List (List UInt8)} {L : List Nat} (h : Row t w s v ls) (hk : Kept L w w') (hL : ∀ b ∈ v.ownBlock.toList, b ∉ L) : Row t w' s v ls :=
  ⟨own_frame h.own fun b hb => hk.block b (own_lt h.own b hb) (hL b hb), h.far⟩
theorem Row.gb {s : Nat} {t : GT} {w w' : World} {v : Value} {ls : List (List UInt8)} (h : Row t w s v ls) (hg : w.grownBy w' none) : Row t w' s v ls := h.kept (Kept.of_none hg []) (by simp)
theorem Row.strAt {s : Nat} {t : GT} {w : World} {v : Value} {ls : List (List UInt8)} (h : Row t w s v ls) : StrAt w v ls := (strAt_of h.own).2
theorem Row.nil (t : GT) (w : World) (s : Nat) : Row t w s (.slice none 0 0) [] := ⟨own_nil _ _ _, by simp [Value.ownBlock]⟩

theorem run_append_rows2 (w : World) (base base' : Nat) (v : Value) (n : Nat) (xs : List Value) (hv : w.ownsRow base 9 1 v n xs) (u : Value) (k : Nat) (ls : List (List UInt8)) (hu : w.ownsRow base' 9 1 u k (strs ls)) (hb : base ≤ w.heap.size) (hn : n + k ≤ 100000) :
    ∃ v' w', (Builtin.append_ #[32, 32] 32 #[v, u]).run Tryz.prog w = .ok v' w' ∧ w'.ownsRow base 9 1 v' (n + k) (xs ++ strs ls) ∧ w.grownBy w' v.ownBlock ∧ (v'.ownBlock = v.ownBlock ∨ v'.ownBlock = some w.heap.size) := by
  obtain ⟨v', w', hr, h2, h3⟩ := run_append_rows w base base' v n xs hv u k ls hu hb hn
  refine ⟨v', w', hr, h2, h3, ?_⟩
  obtain ⟨i0, hi, hz0, hz1, hz2⟩ := info_parts Tryz.info9
  rcases hu.2 with ⟨rfl, rfl⟩ | ⟨g, cap, cur, rfl, _⟩
  · have hr2 := run_append_owned_none w base 32 32 9 i0 1 Tryz.underlying32 hi v n xs hv
    have := hr.symm.trans hr2
    injection this with e1 _
    left; rw [e1]
  · have hl : (strs ls).length = k * i0.size := by rw [hz1]; exact hu.1
    have hnews : ∀ j u, (strs ls)[j]? = some u → w.cell? ((⟨g, 0, none⟩ : Addr).add j) = some u := fun j u hj => own_cells1 hu rfl j u hj
    have h1c : ∀ u ∈ strs ls, u.oneCell' = true := fun u hu => by
      simp only [strs, List.mem_map] at hu
      obtain ⟨a, _, rfl⟩ := hu
      rfl
    rcases hv.2 with ⟨rfl, rfl⟩ | ⟨g', cap', cur', rfl, hbg, hg, hnc, hcm, hcs, htake⟩
    · by_cases hk0 : k = 0
      · subst hk0
        obtain ⟨v2, w2, hq, _, _, hq4⟩ := run_append_own (P := Tryz.prog) w base 32 32 9 i0 (.string ⟨#[]⟩) 1 16 Tryz.underlying32 hi hz0 hz1 hz2 rfl (by omega) _ 0 xs hv ⟨g, 0, none⟩ 0 cap (strs ls) hu.1 hnews h1c (by unfold maxLen; omega) (by omega) hb
        have := hr.symm.trans hq
        injection this with e1 _
        left
        rw [e1, hq4.2 ⟨rfl, rfl⟩]
      · have hr2 := run_append_nil (P := Tryz.prog) w 32 32 9 i0 (.string ⟨#[]⟩) Tryz.underlying32 hi hz0 ⟨g, 0, none⟩ k cap (strs ls) hl hnews (by omega) (by omega) (by rw [hz2]; omega)
        have := hr.symm.trans hr2
        injection this with e1 _
        right; rw [e1]; rfl
    · by_cases hroom : n + k ≤ cap'
      · have hfit : n * i0.size + (strs ls).length ≤ cur'.size := by rw [hl, hz1, hcs]; omega
        have hr2 := run_append_room (P := Tryz.prog) w 32 32 9 i0 Tryz.underlying32 hi g' n cap' cur' hg ⟨g, 0, none⟩ k cap (strs ls) hl hnews h1c hroom hfit
        have := hr.symm.trans hr2
        injection this with e1 _
        left; rw [e1]; rfl
      · have holds : ∀ j u, xs[j]? = some u → w.cell? ((⟨g', 0, none⟩ : Addr).add j) = some u := hv.cells (g := g') rfl
        have hr2 := run_append_grow (P := Tryz.prog) w 32 32 9 i0 (.string ⟨#[]⟩) Tryz.underlying32 hi hz0 ⟨g', 0, none⟩ n cap' xs (by rw [hz1]; exact hv.1) holds ⟨g, 0, none⟩ k cap (strs ls) hl hnews (by omega) (by omega) (growslice_fits (by omega) (by rw [hz2]; omega))
        have := hr.symm.trans hr2
        injection this with e1 _
        right; rw [e1]; rfl

/-- append of one row beside the board onto another: both stand beside it still. -/
theorem wpList_append_row (w : World) {ops : Array Oper} {rest : List Oper} {o : Oper} {a : Act} {Q : Exit → Act → World → Prop} (hg : o.guard = none) (s x : Operand) (hop : o.op = Op.call { callee := Callee.builtin Builtin.append, args := #[s, x], argTypes := #[32, 32] }) (hty : o.type = 32)
    (t : GT) (s1 s2 : Nat) (v u : Value) (ls ks : List (List UInt8)) (hs : a.eval s = v) (hv : Row t w s1 v ls) (hx : a.eval x = u) (hu : Row t w s2 u ks) (hb : s1 ≤ w.heap.size) (hn : ls.length + ks.length ≤ 100000) (hlt : ∀ b ∈ t.own, b < w.heap.size)
    (hK : ∀ v' w', Row t w' s1 v' (ls ++ ks) → Kept v.ownBlock.toList w w' → wpList Tryz.prog ops Q rest (a.put o.dst v') w') : wpList Tryz.prog ops Q (o :: rest) a w := by
  refine wpList_plain hg fun K hK' => ?_
  obtain ⟨v', w', hrun, r1, r2, r3⟩ := run_append_rows2 w s1 s2 v ls.length (strs ls) hv.own u ks.length ks hu.own hb hn
  unfold Oper.wp
  simp [execOp, hop, hty, resolve, invoke, builtin, hs, hx, hrun, Result.andThen]
  refine hK' _ _ (hK v' w' ⟨?_, fun b hb' hm => ?_⟩ ?_)
  · have e : strs ls ++ strs ks = strs (ls ++ ks) := by simp [strs]
    rw [List.length_append, ← e]; exact r1
  · rcases r3 with h | h
    · rw [h] at hb'; exact hv.far b hb' hm
    · rw [h] at hb'
      have e : b = w.heap.size := by simpa using hb'
      have := hlt b hm; omega
  · cases hq : v.ownBlock with
    | none => rw [hq] at r2; exact Kept.of_none r2 _
    | some g => rw [hq] at r2; exact Kept.of_some r2 _ (Or.inl (by simp))

abbrev AA := Int × Int × Int
/-- A list of acts that was handed in. -/
def ActsAt (base : Nat) (w : World) (v : Value) (acts : List AA) : Prop := ∃ sa cap, v = .slice sa acts.length cap ∧ (∀ a ∈ acts, I64 a.1 ∧ I64 a.2.1 ∧ I64 a.2.2) ∧ (acts = [] ∨ ∃ b off, sa = some ⟨b, off, none⟩ ∧ b < base ∧
  ∀ i (h : i < acts.length), w.cell? ⟨b, off + i * 3, none⟩ = some (.int .i64 acts[i].1) ∧ w.cell? ⟨b, off + i * 3 + 1, none⟩ = some (.int .i64 acts[i].2.1) ∧ w.cell? ⟨b, off + i * 3 + 2, none⟩ = some (.int .i64 acts[i].2.2))
theorem ActsAt.below {base : Nat} {w w' : World} {v : Value} {acts : List AA} (h : ActsAt base w v acts) (hb : Below base w w') : ActsAt base w' v acts := by
  obtain ⟨sa, cap, h1, h2, h3⟩ := h
  refine ⟨sa, cap, h1, h2, ?_⟩
  rcases h3 with h3 | ⟨b, off, e, hlt, hc⟩
  · exact Or.inl h3
  · refine Or.inr ⟨b, off, e, hlt, fun i hi => ?_⟩
    obtain ⟨c1, c2, c3⟩ := hc i hi
    exact ⟨by rw [World.cell?_of_block (a := ⟨b, off + i * 3, none⟩) (hb.block b hlt)]; exact c1, by rw [World.cell?_of_block (a := ⟨b, off + i * 3 + 1, none⟩) (hb.block b hlt)]; exact c2, by rw [World.cell?_of_block (a := ⟨b, off + i * 3 + 2, none⟩) (hb.block b hlt)]; exact c3⟩
/-- Numbers that were handed in. -/
def IntsArg (base : Nat) (w : World) (v : Value) (xs : List Int) : Prop := ∃ sa cap, v = .slice sa xs.length cap ∧ xs.length ≤ cap ∧ (∀ x ∈ xs, I64 x) ∧ (xs = [] ∨ ∃ b off, sa = some ⟨b, off, none⟩ ∧ b < base ∧ IntsAt w b off xs)
theorem IntsArg.below {base : Nat} {w w' : World} {v : Value} {xs : List Int} (h : IntsArg base w v xs) (hb : Below base w w') : IntsArg base w' v xs := by
  obtain ⟨sa, cap, h1, h2, h3, h4⟩ := h
  refine ⟨sa, cap, h1, h2, h3, ?_⟩
  rcases h4 with h4 | ⟨b, off, e, hlt, hc⟩
  · exact Or.inl h4
  · exact Or.inr ⟨b, off, e, hlt, fun i hi => by rw [World.cell?_of_block (a := ⟨b, off + i, none⟩) (hb.block b hlt)]; exact hc i hi⟩
theorem IntsArg.far {base : Nat} {w : World} {v : Value} {xs : List Int} (h : IntsArg base w v xs) (L : List Nat) (hL : ∀ b ∈ L, base ≤ b) (hs : base ≤ w.heap.size) : FarI L w v xs := by
  obtain ⟨sa, cap, h1, h2, h3, h4⟩ := h
  refine ⟨sa, cap, h1, h2, h3, ?_⟩
  rcases h4 with h4 | ⟨b, off, e, hlt, hc⟩
  · exact Or.inl h4
  · exact Or.inr ⟨b, off, e, fun hm => by have := hL b hm; omega, by omega, hc⟩

theorem Stp.below {base m : Nat} {t t' : GT} {w w' : World} (h : Stp base m t t' w w') (hl : ∀ b ∈ t.own, base ≤ b) (hs : base ≤ w.heap.size) : Below base w w' := h.kept.below hs hl
theorem gb_below {base : Nat} {w w' : World} (h : w.grownBy w' none) (hs : base ≤ w.heap.size) : Below base w w' := ⟨h.os, h.tape, h.output, h.size, fun b hb => h.block b (by omega) (by simp)⟩

def A5 (i : Nat) : List (List UInt8) := (List.range 5).map (serT i)
theorem A5_len (i : Nat) : (A5 i).length ≤ 6 := by simp [A5]
theorem A5_in (i k : Nat) (hk : k < 5) : serT i k ∈ A5 i := List.mem_map_of_mem (List.mem_range.2 hk)
theorem last_new : lastT ∉ A5 0 := by
  intro h
  obtain ⟨k, hk, e⟩ := List.mem_map.1 h
  rw [List.mem_range] at hk
  match k, hk, e with
  | 0, _, e => exact absurd e (by decide)
  | k + 1, _, e =>
    have := congrArg (fun l => l[5]?) e
    simp [serT, fname, nmH, lastT] at this
theorem KV.mono {A A' : Nat → List (List UInt8)} {V : List Fam} (h : KV A V) (hA : ∀ i, ∀ x ∈ A i, x ∈ A' i) : KV A' V := ⟨h.len, h.nm, h.kind, h.ls, fun i c hc => hA i _ (h.ser i c hc), h.srt⟩

/-- The last line of a series stands among the lines. -/
theorem last_line {V : List Fam} {f : Fam} {c : Cnt} (hf : f ∈ V) (hc : c ∈ f.ser) : lastP f.kind c ∈ linesP V := by
  unfold linesP
  rw [it_lines]
  unfold momT
  rw [List.mem_flatMap]
  refine ⟨_, List.mem_map_of_mem hf, List.mem_cons_of_mem _ ?_⟩
  rw [List.mem_flatten]
  refine ⟨_, List.mem_map_of_mem hc, ?_⟩
  unfold serLines
  rw [List.mem_map]
  refine ⟨f.ls.length, List.mem_range.2 (by omega), ?_⟩
  unfold lineAt
  rw [if_neg (by omega)]

/-- `hits{last="1"}` is changed by 1, and was not there. -/
theorem last_change {V : List Fam} (h : KV A5 V) : chgP V lastT 1 = chgAt V 0 lastT 1 ∧ (chgAt V 0 lastT 1).1 = 0 ∧ KV aList (chgAt V 0 lastT 1).2 ∧ (lastT ++ [32, 49]) ∈ linesP (chgAt V 0 lastT 1).2 ∧ 4 ≤ (linesP (chgAt V 0 lastT 1).2).length := by
  have hkv : KV aList V := h.mono fun i x hx => List.mem_append_left _ hx
  obtain ⟨h1, h2, h3⟩ := chg_kv hkv aList_len 0 (by omega) lastT lastT 1 last_txt last_in (by omega) (fun _ => by omega)
  refine ⟨h1, h2, h3, ?_⟩
  have hl := h.len
  have hfd : kfnd lt lastT ((V.getD 0 default).ser.map Cnt.plain) = false := by
    have hsi : KSrt lt ((V.getD 0 default).ser.map Cnt.plain) := by
      have hg : V.getD 0 default = V[0] := by rw [List.getD_eq_getElem?_getD, List.getElem?_eq_getElem (by omega)]; rfl
      rw [hg]; exact h.srt _ (List.getElem_mem (by omega))
    cases hq : kfnd lt lastT ((V.getD 0 default).ser.map Cnt.plain) with
    | false => rfl
    | true =>
      have := (kfnd_iff ltB lastT _ hsi).1 hq
      obtain ⟨c, hc, e⟩ := List.mem_map.1 this
      have := h.ser 0 c hc
      rw [e] at this
      exact absurd this last_new
  have htk : takesB (V.getD 0 default).kind 1 = true := by rw [h.kind 0 (by omega)]; rfl
  have ht := h.total A5_len
  have e : chgAt V 0 lastT 1 = (0, V.set 0 { V.getD 0 default with ser := kins (V.getD 0 default).ser (kplace lt lastT ((V.getD 0 default).ser.map Cnt.plain)) (countP (V.getD 0 default).kind (V.getD 0 default).ls 1 (zeroCnt lastT)) }) := by
    unfold chgAt
    rw [if_neg (by rw [htk]; simp), if_neg (by rw [hfd]; simp), if_neg (by omega)]
  rw [e]
  have hmem : { V.getD 0 default with ser := kins (V.getD 0 default).ser (kplace lt lastT ((V.getD 0 default).ser.map Cnt.plain)) (countP (V.getD 0 default).kind (V.getD 0 default).ls 1 (zeroCnt lastT)) } ∈ V.set 0 { V.getD 0 default with ser := kins (V.getD 0 default).ser (kplace lt lastT ((V.getD 0 default).ser.map Cnt.plain)) (countP (V.getD 0 default).kind (V.getD 0 default).ls 1 (zeroCnt lastT)) } := by
    refine List.mem_of_getElem? (i := 0) ?_
    rw [List.getElem?_set, if_pos rfl, if_pos (by omega)]
  have hcm : countP (V.getD 0 default).kind (V.getD 0 default).ls 1 (zeroCnt lastT) ∈ kins (V.getD 0 default).ser (kplace lt lastT ((V.getD 0 default).ser.map Cnt.plain)) (countP (V.getD 0 default).kind (V.getD 0 default).ls 1 (zeroCnt lastT)) := by
    unfold kins; simp
  refine ⟨?_, ?_⟩
  · have hln := last_line hmem hcm
    have he : lastP (V.getD 0 default).kind (countP (V.getD 0 default).kind (V.getD 0 default).ls 1 (zeroCnt lastT)) = lastT ++ [32, 49] := by
      rw [h.kind 0 (by omega), h.ls 0 (by omega)]
      kernel_rfl
    rw [← he]; exact hln
  · rw [lines_len]
    obtain ⟨a, b, c, rfl⟩ := h.each
    have hk : (kins a.ser (kplace lt lastT (a.ser.map Cnt.plain)) (countP a.kind a.ls 1 (zeroCnt lastT))).length = a.ser.length + 1 := kins_len _ _ _ (by have := kplace_le lt lastT (a.ser.map Cnt.plain); simpa using this)
    simp only [List.getD_cons_zero, List.set_cons_zero, List.map_cons, List.map_nil, List.sum_cons, List.sum_nil, hk]
    have : 1 ≤ (a.ser.length + 1) * (a.ls.length + 1) := Nat.mul_pos (by omega) (by omega)
    omega

end Go.Proofs.YtcfdemhokbddiaaGreatDoor
