/-
  The document's Change, walked.
-/
import Derived.Test.YtecmkooiaghgcaaGreatDoorKv
import Derived.Deep.DeepCutAuto

namespace Go.Proofs.YtecmkooiaghgcaaGreatDoor
open Go.RowKit

def RChgOut (R : RV) (l : List UInt8) (n : Int) (code : Int) (R' : RV) : Prop :=
  ((readP l).err ≠ 0 ∧ code = ((readP l).err : Int) ∧ R' = R) ∨
  ((readP l).err = 0 ∧ (∀ f ∈ R.fams, f.1 ≠ (readP l).name) ∧ code = 6 ∧ R' = R) ∨
  ((readP l).err = 0 ∧ ∃ f ∈ R.fams, f.1 = (readP l).name ∧
    ((takesB f.2.1 n = false ∧ code = 4 ∧ R' = R) ∨
     (takesB f.2.1 n = true ∧ ∃ A x B', R.ser = A ++ x :: B' ∧ x.2.1 = plainP l ∧ code = 0 ∧ R' = ⟨R.fams, A ++ (x.1, x.2.1, x.2.2 ++ [n]) :: B'⟩) ∨
     (takesB f.2.1 n = true ∧ (∀ x ∈ R.ser, x.2.1 ≠ plainP l) ∧ R.ser.length = 24 ∧ code = 7 ∧ R' = R) ∨
     (takesB f.2.1 n = true ∧ (∀ x ∈ R.ser, x.2.1 ≠ plainP l) ∧ R.ser.length < 24 ∧ code = 0 ∧ R' = ⟨R.fams, R.ser ++ [((readP l).name, plainP l, [n])]⟩)))

theorem row3_froz {w : World} {base : Nat} {e : TypeId} {g n cap o : Nat} {xs : List Value} (h : w.ownsRow base e 3 (.slice (some ⟨g, 0, none⟩) n cap) n xs) : w.frozen? ⟨g, o, none⟩ = false := by
  rcases h.2 with ⟨h1, _⟩ | ⟨g', cap', cur, h1, _, h3, _⟩
  · simp at h1
  · simp at h1; obtain ⟨rfl, rfl⟩ := h1
    unfold World.frozen?; simp only [h3]; simp
theorem kept_of_opt {a b c : World} {o : Option Nat} (h : a.grownBy b none) (k : b.grownBy c o) : Kept o.toList a c :=
  ⟨k.os.trans h.os, k.tape.trans h.tape, k.output.trans h.output, Nat.le_trans h.size k.size, fun i hi hn => (k.block i (Nat.lt_of_lt_of_le hi h.size) (fun e => hn (by rw [← e]; simp))).trans (h.block i hi (by simp))⟩
theorem ROut.trans {m m' : Nat} {r r1 r2 : RB} {w w1 w2 : World} (h : ROut m r r1 w w1) (k : ROut m' r1 r2 w1 w2) : ROut m' r r2 w w2 :=
  ⟨k.at_, k.ok, k.b.trans h.b, k.rest.trans h.rest, h.kept.then k.kept h.sub, fun x hx => by
    rcases k.sub x hx with h1 | h1
    · exact h.sub x h1
    · exact Or.inr (Nat.le_trans h.kept.size h1)⟩

set_option maxRecDepth 100000 in
set_option maxHeartbeats 2000000 in
theorem refChg_any (r : RB) (s : ByteArray) (n : Int) (m : Nat) (w : World) (h : RB.At w r) (ho : RB.Ok m r) (hm : m ≤ 4398046511104) :
    Calls Tryz.prog 18 #[.pointer (some ⟨r.b, 0, none⟩), .string s, .int .i64 n] w fun e w' => ∃ r' code, e = .returned (.int .i64 code) ∧ ROut (m + 1) r r' w w' ∧ RChgOut r.view s.data.toList n code r'.view := by
  have HH : Hid (RB.At w r) := h
  have HO : Hid (RB.Ok m r) := ho
  have HO1 : Hid (RB.Ok (m + 1) r) := ⟨ho.flen, ho.slen, fun x hx => by have := ho.each x hx; omega, ho.flim⟩
  have hP := parse_any s w
  have HPE : Hid ((readP s.data.toList).err = 0 → (if (readP s.data.toList).err = 0 then 0 else (readP s.data.toList).at_) = 0) := fun h => if_pos h
  obtain ⟨T, hT⟩ : ∃ T, readP s.data.toList = T := ⟨_, rfl⟩
  obtain ⟨p, hp⟩ : ∃ p, plainP s.data.toList = p := ⟨_, rfl⟩
  have HT : Hid (readP s.data.toList = T) := hT
  have HPP : Hid (plainP s.data.toList = p) := hp
  obtain ⟨at2, hat2⟩ : ∃ at2, (if (readP s.data.toList).err = 0 then 0 else (readP s.data.toList).at_) = at2 := ⟨_, rfl⟩
  rw [hat2, hT, hp] at hP
  obtain ⟨err, at_, nm, ls⟩ := T
  simp only at hP
  unfold outV at hP
  have HP : Hid (Calls Tryz.prog 32 #[.string s] w _) := hP
  clear h ho hP hT hp hat2 HPE
  go_enter Tryz.func18, Tryz.ntmps18
  go_wp2_with fail
  refine HP.out.mono ?_
  rintro e w1 ⟨rfl, b1⟩
  have g1 := gb_of_below b1
  clear b1 HP
  by_cases h0 : err = 0
  · subst h0
    have HERR : Hid ((readP s.data.toList).err = 0 ∧ (readP s.data.toList).name = nm) := by rw [HT.out]; exact ⟨rfl, rfl⟩
    have hfl := HO.out.flen
    have hsl := HO.out.slen
    go_wp2_with fail
    refine (refFamily_any r nm _ (HH.out.gb g1) (by omega)).mono ?_
    rintro e w2 ⟨rfl, code, rfl, hlook⟩
    rcases hlook with ⟨hno, rfl⟩ | ⟨A, f, B', e1, e2, _, rfl⟩
    · have HNO : Hid (∀ f ∈ r.view.fams, f.1 ≠ (readP s.data.toList).name) := by
        intro f hf
        rw [HERR.out.2]
        simp only [RB.view, List.mem_map] at hf
        obtain ⟨g, hg, rfl⟩ := hf
        exact hno g hg
      clear hno
      go_wp2
      go_ret
      exact ⟨r, _, rfl, .same HH.out HO1.out g1, Or.inr (Or.inl ⟨HERR.out.1, HNO.out, rfl, rfl⟩)⟩
    · have hfm : f ∈ r.fams := by rw [e1]; simp
      have HFM : Hid ((f.nm, f.kind, f.ls) ∈ r.view.fams ∧ (f.nm, f.kind, f.ls).1 = (readP s.data.toList).name) := ⟨List.mem_map_of_mem (f := fun f : RF => (f.nm, f.kind, f.ls)) hfm, by rw [HERR.out.2]; exact e2⟩
      have hat := HH.out.gb g1
      obtain ⟨c0, c1, z0, z1⟩ := rb_cells hat
      obtain ⟨fa, fc, hfv, _, hfa⟩ := own_shape3 hat.frows
      have hal : A.length < r.fams.length := by rw [e1]; simp
      obtain ⟨ga, rfl⟩ : ∃ ga, fa = some ⟨ga, 0, none⟩ := by
        rcases hfa with ⟨_, h0, _⟩ | ⟨ga, h1, _⟩
        · omega
        · exact ⟨ga, h1⟩
      rw [hfv] at c0
      have hr := hat.frows
      rw [hfv] at hr
      have hget : r.fams[A.length]'hal = f := by simp [e1]
      have d1 := row3_cell hr (fun x => rfl) A.length hal 1 (by omega) (.int .i64 f.kind) (by rw [hget]; rfl)
      have hali : (A.length : Int) < (r.fams.length : Int) := by omega
      have hali0 : ¬ (A.length : Int) < 0 := by omega
      have HAT : Hid (RB.At w2 r) := hat
      clear hat hr hget hfv e1 e2 hfm hfa
      go_upto_region 7 with fail
      go_cut [48] (fun b w' => w' = w2 ∧ b = .bool (!(takesB f.kind n)))
      case first =>
        obtain ⟨kind, hkind⟩ : ∃ k, f.kind = k := ⟨_, rfl⟩
        rw [hkind] at d1
        have HTE : Hid (takesB f.kind n = (inB n && (decide (kind ≠ 1) || decide (0 ≤ n)))) := by rw [← hkind]; rfl
        clear hkind
        by_cases hb1 : n < -1000000000
        · have HTK : Hid (takesB f.kind n = false) := by
            show _ = _; rw [HTE.out, show inB n = false from by simp [inB]; omega]; rfl
          go_wp2
          go_meet
          case rel => exact ⟨rfl, by rw [HTK.out]; rfl⟩
        · by_cases hb2 : 1000000000 < n
          · have HTK : Hid (takesB f.kind n = false) := by
              show _ = _; rw [HTE.out, show inB n = false from by simp [inB]; omega]; rfl
            go_wp2
            go_meet
            case rel => exact ⟨rfl, by rw [HTK.out]; rfl⟩
          · have hinB : inB n = true := by simp [inB]; omega
            by_cases hk1 : kind = 1
            · subst hk1
              by_cases hn0 : n < 0
              · have HTK : Hid (takesB f.kind n = false) := by
                  show _ = _; rw [HTE.out, hinB]; simp; omega
                clear hinB
                go_wp2
                go_meet
                case rel => exact ⟨rfl, by rw [HTK.out]; rfl⟩
              · have HTK : Hid (takesB f.kind n = true) := by
                  show _ = _; rw [HTE.out, hinB]; simp; omega
                clear hinB
                go_wp2
                go_meet
                case rel => exact ⟨rfl, by rw [HTK.out]; rfl⟩
            · have hkb : (kind == 1) = false := by simpa using hk1
              have HTK : Hid (takesB f.kind n = true) := by
                show _ = _; rw [HTE.out, hinB]; simp [hk1]
              clear hinB hk1
              go_wp2
              go_meet
              case rel => exact ⟨rfl, by rw [HTK.out]; rfl⟩
      case rest =>
        obtain ⟨rfl, rfl⟩ := hcut
        cases htk : takesB f.kind n with
        | false =>
          have HTK : Hid (takesB f.kind n = false) := htk
          clear htk
          go_wp2
          go_ret
          exact ⟨r, _, rfl, .same HH.out HO1.out g1, Or.inr (Or.inr ⟨HERR.out.1, _, HFM.out.1, HFM.out.2, Or.inl ⟨HTK.out, rfl, rfl⟩⟩)⟩
        | true =>
          have HTK : Hid (takesB f.kind n = true) := htk
          clear htk
          have HS : Hid (Calls Tryz.prog 39 #[.pointer (some ⟨r.b, 0, none⟩), .string (B p)] wc _) := refSeries_any r p wc HAT.out (by omega)
          go_wp2_with fail
          refine HS.out.mono ?_
          rintro e w3 ⟨rfl, code, rfl, hlook⟩
          have HLK : Hid (LookOut r.ser RS.text p code) := hlook
          clear hlook HS
          go_upto_if 53 with fail
          go_cut [12] (fun v w' => ∃ (r1 : RB) (C D : List RS) (x : RS), v = .int .i64 (C.length : Int) ∧ r1.ser = C ++ x :: D ∧ r1.b = r.b ∧ RB.At w' r1 ∧ RB.Ok m r1 ∧ (∀ nv' wf, ROut (m + 1) r1 { r1 with ser := C ++ { x with nv := nv', ns := x.ns ++ [n] } :: D } w' wf → ∃ r', ROut (m + 1) r r' w wf ∧ RChgOut r.view s.data.toList n 0 r'.view))
          case first =>
            rcases HLK.out with ⟨hno, rfl⟩ | ⟨C, x, D, e1, e2, _, rfl⟩
            · have HNS : Hid (∀ x ∈ r.view.ser, x.2.1 ≠ plainP s.data.toList) := by
                intro x hx
                rw [HPP.out]
                simp only [RB.view, List.mem_map] at hx
                obtain ⟨y, hy, rfl⟩ := hx
                exact hno y hy
              clear hno
              obtain ⟨sa1, sc1, hsv1, _, _⟩ := own_shape3 HAT.out.srows
              have HSV1 : Hid (r.sv = .slice sa1 r.ser.length sc1) := hsv1
              have hrow1 := HAT.out.srows
              rw [hsv1] at c1 hrow1
              by_cases h24 : r.ser.length = 24
              · have h24' : ((r.ser.length : Int) == 24) = true := by simp [h24]
                have HV24 : Hid (r.view.ser.length = 24) := by show _ = _; simp [RB.view, h24]
                clear h24 hsv1
                go_wp2
                go_ret
                exact ⟨r, _, rfl, .same HH.out HO1.out g1, Or.inr (Or.inr ⟨HERR.out.1, _, HFM.out.1, HFM.out.2, Or.inr (Or.inr (Or.inl ⟨HTK.out, HNS.out, HV24.out, rfl, rfl⟩))⟩)⟩
              · have h24' : ((r.ser.length : Int) == 24) = false := by simp; omega
                have HV24 : Hid (r.view.ser.length < 24) := by show _ < _; simp [RB.view]; omega
                have h24n : r.ser.length < 24 := by omega
                obtain ⟨i3, hi3, hz30, hz31, hz32⟩ := info_parts Tryz.info3
                have HI3 : Hid (Tryz.prog.info? 3 = some i3 ∧ i3.zero = some (.int .i64 0) ∧ i3.size = 1 ∧ i3.bytes = 8) := ⟨hi3, hz30, hz31, hz32⟩
                obtain ⟨i8, hi8, hz80, hz81, hz82⟩ := info_parts Tryz.info85
                have HI8 : Hid (Tryz.prog.info? 85 = some i8 ∧ i8.zero = some (.agg #[.string ⟨#[]⟩, .string ⟨#[]⟩, .slice none 0 0]) ∧ i8.size = 3 ∧ i8.bytes = 56) := ⟨hi8, hz80, hz81, hz82⟩
                have hbl : r.b < w3.heap.size := lt_of HAT.out.blk
                obtain ⟨_, n2, _, n4⟩ := rb_nodup HAT.out.nodup
                have hnb : some r.b ≠ Value.ownBlock (.slice sa1 r.ser.length sc1) := fun e => (n2 r.b (by rw [hsv1, ← e]; simp)).1 rfl
                have bn := alloc_new w3 (.cells #[.string (B nm), .string (B p), .slice none 0 0] 85) _ rfl
                have gal := gb_alloc (gb_refl w3 none) (.cells #[.string (B nm), .string (B p), .slice none 0 0] 85)
                have c1l := gb_cell gal c1 (by simp)
                have z1l := gb_froz gal hbl z1 (by simp)
                have hnd3 : Hid ((r.ser ++ [(⟨nm, p, .slice none 0 0, []⟩ : RS)]).flatMap (fun x => x.nv.ownBlock.toList)).Nodup := by
                  show List.Nodup _
                  have hn := HAT.out.nodup
                  simp only [RB.own, List.nodup_cons, List.nodup_append] at hn
                  simpa [Value.ownBlock] using hn.2.2.1.2.1.2.1
                clear hi3 hz30 hz31 hz32 hi8 hz80 hz81 hz82 hsv1 n2 n4 h24
                go_wp2_with (at_builtin; refine wpList_append_foot _ rfl _ _ 66 rfl 85 i8 (.agg #[.string ⟨#[]⟩, .string ⟨#[]⟩, .slice none 0 0]) 3 56 Tryz.underlying66 HI8.out.1 HI8.out.2.1 HI8.out.2.2.1 HI8.out.2.2.2 rfl (by decide) (.slice sa1 r.ser.length sc1) r.ser.length (r.ser.flatMap rsCells) rfl (by exact hrow1.alloc _) ⟨w3.heap.size, 0, none⟩ 1 1 (by omega) (rsCells ⟨nm, p, .slice none 0 0, []⟩) rfl rfl (cells_blk _ bn) (fun v hv => by simp [rsCells] at hv; rcases hv with rfl | rfl | rfl <;> rfl) (by unfold maxLen; omega) (by omega) ?_; intro sv' w4 own4 g4 hft4; obtain ⟨ya1, yc1, rfl, _, _⟩ := own_shape3 own4; have z4 := gb_froz g4 (by simp; omega) z1l hnb; have c4 := gb_cell g4 c1l hnb)
                have RO1 := rrow_out HAT.out HO.out (r.ser ++ [(⟨nm, p, .slice none 0 0, []⟩ : RS)]) (fun y hy => by
                    simp only [List.mem_append, List.mem_cons, List.not_mem_nil, or_false] at hy
                    rcases hy with hy | rfl
                    · exact Or.inl hy
                    · exact Or.inr ⟨rfl, rfl⟩) (by simp; omega) hnd3.out (by have := kept_of_opt gal g4; rw [← HSV1.out] at this; exact this) (.slice ya1 (r.ser.length + 1) yc1) (by simpa using own4) (by
                    rcases hft4 with h | h
                    · exact Or.inl (by rw [h, HSV1.out])
                    · exact Or.inr (fun b hb => by
                        rw [h] at hb
                        have : b = (w3.alloc (.cells #[.string (B nm), .string (B p), .slice none 0 0] 85)).heap.size := by simpa using hb
                        simp at this; omega))
                obtain ⟨x1, hx1⟩ : ∃ x1, (⟨nm, p, .slice none 0 0, []⟩ : RS) = x1 := ⟨_, rfl⟩
                have HX1 : Hid (x1.fam = nm ∧ x1.text = p ∧ x1.ns = []) := by rw [← hx1]; exact ⟨rfl, rfl, rfl⟩
                rw [hx1] at RO1
                obtain ⟨r1, hr1⟩ : ∃ r1, ({ r with sv := .slice ya1 (r.ser.length + 1) yc1, ser := r.ser ++ [x1] } : RB) = r1 := ⟨_, rfl⟩
                rw [hr1] at RO1
                have HB1 : Hid (r1.b = r.b) := by show _ = _; rw [← hr1]
                have E1 : Hid (r1.ser = r.ser ++ x1 :: []) := by show _ = _; rw [← hr1]
                have HRF : Hid (r1.fams = r.fams) := by show _ = _; rw [← hr1]
                have HAT1 : Hid (RB.At _ r1) := RO1.at_
                have HOK1 : Hid (RB.Ok m r1) := RO1.ok
                have HRO1 : Hid (ROut m r r1 w3 _) := RO1
                clear RO1 hr1 hx1 hft4 own4 g4 z4 c4 c1l z1l gal bn hnb hbl hrow1 c1 z0 z1 hnd3 c0 d1
                go_meet
                case rel =>
                  refine ⟨r1, r.ser, [], x1, rfl, E1.out, HB1.out, HAT1.out, HOK1.out, fun nv' wf RO => ⟨_, .from g1 (HRO1.out.trans RO), Or.inr (Or.inr ⟨HERR.out.1, _, HFM.out.1, HFM.out.2, Or.inr (Or.inr (Or.inr ⟨HTK.out, HNS.out, HV24.out, rfl, ?_⟩))⟩)⟩⟩
                  obtain ⟨y1, y2, y3⟩ := HX1.out
                  simp [RB.view, HRF.out, y1, y2, y3, HPP.out, HERR.out.2]
            · have E1 : Hid (r.ser = C ++ x :: D) := e1
              have E2 : Hid (x.text = p) := e2
              have hCi0 : ¬ (C.length : Int) < 0 := by omega
              clear e1 e2
              go_wp2
              go_meet
              case rel =>
                refine ⟨r, C, D, x, rfl, E1.out, rfl, HAT.out, HO.out, fun nv' wf RO => ⟨_, .from g1 RO, Or.inr (Or.inr ⟨HERR.out.1, _, HFM.out.1, HFM.out.2, Or.inr (Or.inl ⟨HTK.out, C.map (fun x => (x.fam, x.text, x.ns)), (x.fam, x.text, x.ns), D.map (fun x => (x.fam, x.text, x.ns)), ?_, ?_, rfl, ?_⟩)⟩)⟩⟩
                · simp [RB.view, E1.out]
                · show x.text = _
                  rw [E2.out, HPP.out]
                · simp [RB.view]
          case rest =>
            obtain ⟨r1, C, D, x, rfl, e1, hb1, hat1, hok1, hfin⟩ := hcut
            have HAT1 : Hid (RB.At wc r1) := hat1
            have HOK1 : Hid (RB.Ok m r1) := hok1
            have E1 : Hid (r1.ser = C ++ x :: D) := e1
            have HB1 : Hid (r1.b = r.b) := hb1
            have HFIN : Hid (∀ nv' wf, _) := hfin
            obtain ⟨i3, hi3, hz30, hz31, hz32⟩ := info_parts Tryz.info3
            have HI3 : Hid (Tryz.prog.info? 3 = some i3 ∧ i3.zero = some (.int .i64 0) ∧ i3.size = 1 ∧ i3.bytes = 8) := ⟨hi3, hz30, hz31, hz32⟩
            clear hi3 hz30 hz31 hz32 c0 c1 z0 z1 d1 hat1 hok1 e1 hb1 hfin HAT
            obtain ⟨k1, k2, k3, k4⟩ := rb_nodup HAT1.out.nodup
            have hxm : x ∈ r1.ser := by rw [E1.out]; simp
            have hnum := HAT1.out.nums x hxm
            have hnsl := HOK1.out.each x hxm
            obtain ⟨xa, xc, hxnv, _, _⟩ := own_shape1 hnum
            obtain ⟨sa2, sc2, hsv2, _, hsa2⟩ := own_shape3 HAT1.out.srows
            have hCl : C.length < r1.ser.length := by rw [E1.out]; simp
            obtain ⟨gs, rfl⟩ : ∃ gs, sa2 = some ⟨gs, 0, none⟩ := by
              rcases hsa2 with ⟨_, h0, _⟩ | ⟨ga, h1, _⟩
              · omega
              · exact ⟨ga, h1⟩
            have q1 := (rb_cells HAT1.out).2.1
            rw [hsv2, HB1.out] at q1
            have hr2 := HAT1.out.srows
            rw [hsv2] at hr2
            have hget2 : r1.ser[C.length]'hCl = x := by simp [E1.out]
            have q2 := row3_cell hr2 (fun x => rfl) C.length hCl 2 (by omega) x.nv (by rw [hget2]; rfl)
            have q3 : wc.frozen? ⟨gs, C.length * 3 + 2, none⟩ = false := row3_froz hr2
            rw [hxnv] at q2 hnum
            have hgl := (hr2.lt gs rfl).2
            have hgs : some gs ≠ Value.ownBlock (.slice xa x.ns.length xc) := fun e => by
              rw [← hxnv] at e
              exact (k4 x hxm gs (by rw [← e]; simp)).2.2.1 (by rw [hsv2]; simp [Value.ownBlock])
            have hrb : some r.b ≠ Value.ownBlock (.slice xa x.ns.length xc) := fun e => by
              rw [← hxnv] at e
              exact (k4 x hxm r.b (by rw [← e]; simp)).1 HB1.out.symm
            have HRS : Hid (∀ (wa w2 : World) (nv' : Value), wc.grownBy wa none → wa.grownBy w2 (Value.ownBlock (.slice xa x.ns.length xc)) → w2.ownsRow 0 3 1 nv' (x.ns.length + 1) (ints x.ns ++ [.int .i64 n]) → (nv'.ownBlock = Value.ownBlock (.slice xa x.ns.length xc) ∨ nv'.ownBlock = some wa.heap.size) → ROut (m + 1) r1 { r1 with ser := C ++ { x with nv := nv', ns := x.ns ++ [n] } :: D } wc (w2.setCell ⟨gs, C.length * 3 + 2, none⟩ nv')) := by
              intro wa w2 nv' p1 p2 p3 p4
              rw [← hxnv] at p2 p4
              exact rset_out HAT1.out HOK1.out C D x E1.out n p1 nv' p2 (by simpa [ints] using p3) p4 gs sc2 hsv2
            have ga2 := gb_alloc (gb_refl wc none) (.cells #[.int .i64 n] 3)
            have q1a := gb_cell ga2 q1 (by simp)
            have q2a := gb_cell ga2 q2 (by simp)
            have q3a := gb_froz ga2 hgl q3 (by simp)
            have hnuma := hnum.alloc (.cells #[.int .i64 n] 3)
            have hCi : (C.length : Int) < (r1.ser.length : Int) := by omega
            have hb47 : (x.ns.length + 1) * 8 ≤ 140737488355328 := by omega
            have hmx : x.ns.length + 1 ≤ maxLen := by unfold maxLen; omega
            clear k1 k2 k3 k4 hsv2 hr2 hget2 hxnv hsa2 hxm hnsl hCl
            go_wp2_with fail
            go_region_law (refine step_append_foot rfl _ _ 28 rfl 3 i3 (.int .i64 0) 1 8 Tryz.underlying28 HI3.out.1 HI3.out.2.1 HI3.out.2.2.1 HI3.out.2.2.2 rfl (by decide) (.slice xa x.ns.length xc) x.ns.length (ints x.ns) (by simp [Act.eval]) (by exact hnuma) ⟨wc.heap.size, 0, none⟩ 1 1 (by omega) [.int .i64 n] (by simp [Act.eval]) rfl (by exact cells_new wc _ 3) (fun v hv => by simp at hv; subst hv; rfl) hmx hb47 ?_; intro nv' w5 own5 g5 hft; obtain ⟨ya, yc, rfl, _, _⟩ := own_shape1 own5; have q1' := gb_cell g5 (by exact q1a) hrb; have q2' := gb_cell g5 (by exact q2a) hgs; have q3' := gb_froz g5 (by simp; omega) (by exact q3a) hgs; have RO := HRS.out _ w5 _ (by first | exact gb_d (q := 1) ga2 | exact gb_alloc (gb_d (q := 1) (gb_refl wc none)) _) g5 own5 hft)
            all_goals go_wp2
            all_goals go_ret
            all_goals
              obtain ⟨r', k1, k2⟩ := HFIN.out _ _ RO
              exact ⟨r', 0, rfl, k1, k2⟩
  · have HE : Hid ((readP s.data.toList).err ≠ 0 ∧ (err : Int) = ((readP s.data.toList).err : Int)) := by rw [HT.out]; exact ⟨h0, rfl⟩
    have h0' : ((err : Int) != 0) = true := by simp; omega
    go_wp2
    go_ret
    exact ⟨r, _, rfl, .same HH.out HO1.out g1, Or.inl ⟨HE.out.1, HE.out.2, rfl⟩⟩

end Go.Proofs.YtecmkooiaghgcaaGreatDoor
