/- expr.reader: fail, is, take, must, skip. -/
import Derived.Test.YtnkbpcenkbihpaaDoorRead
namespace Go.Proofs.YtnkbpcenkbihpaaDoor
open Go.ChangeShapes Go.WideShapes Go.ChangeAt Go.RowKit
set_option linter.unusedVariables false
set_option linter.unusedSimpArgs false
set_option maxRecDepth 100000
/-- A call moved the reader to here. -/
structure Moved (b : Nat) (A : Option Addr) (n c : Nat) (ts : List Tok) (en : Int) (s : PS) (w w' : World) : Prop where
  rd : RdAt b A n c ts en s w'
  only : Only b w w'
theorem peekF_lt {ts : List Tok} {s : PS} (h : (peekF ts s).kd ≠ 0) : s.fe = 0 ∧ s.p < ts.length := by
  unfold peekF at h
  by_cases hf : s.fe = 0
  · rw [if_pos hf] at h
    refine ⟨hf, ?_⟩
    rcases Nat.lt_or_ge s.p ts.length with h1 | h1
    · exact h1
    · rw [List.getElem?_eq_none h1] at h; exact absurd rfl h
  · rw [if_neg hf] at h; exact absurd rfl h
theorem isF_lt {ts : List Tok} {s : PS} {kd : Int} {tx : ByteArray} (hk : kd ≠ 0) (h : isF ts s kd tx = true) : s.fe = 0 ∧ s.p < ts.length := by
  refine peekF_lt ?_
  unfold isF Tok.same at h
  rw [Bool.and_eq_true] at h
  have := of_decide_eq_true h.1
  rw [this]; exact hk
theorem Only.setNew {b g : Nat} {w w' : World} (h : Only b w w') (hg : w.heap.size ≤ g) (i : Nat) (u : Value) : Only b w (w'.setCell ⟨g, i, none⟩ u) := by
  have h1 : w'.grownBy (w'.setCell ⟨g, i, none⟩ u) (some g) := only_setCell (World.grownBy.refl w' (some g)) (p := ⟨g, i, none⟩) (.inl rfl) u
  exact ⟨Nat.le_trans h.size h1.size, h.os, h.tape, h.output, fun q hq hn => (h1.block q (Nat.lt_of_lt_of_le hq h.size) (fun e => by injection e with e; omega)).trans (h.block q hq hn)⟩
theorem RdAt.of {b n c : Nat} {A : Option Addr} {ts : List Tok} {en : Int} {s s' : PS} {w V : World} (h : RdAt b A n c ts en s w) (hb : Blk V b 84 [.slice A n c, .int .i64 s'.p, .int .i64 en, .int .i64 s'.fa, .int .i64 s'.fe]) (ho : Only b w V) (hp : s'.p ≤ n) : RdAt b A n c ts en s' V :=
  ⟨hb, h.row.only rfl ho, hp⟩
theorem Blk.only {g b : Nat} {t : TypeId} {cs : List Value} {w w' : World} (h : Blk w g t cs) (ho : Only b w w') (hg : g ≠ b) : Blk w' g t cs := (ho.block g h.lt hg).trans h.eq
theorem Only.set4 {b g : Nat} {w w' : World} (h : Only b w w') (hg : w.heap.size ≤ g) (v0 v1 v2 v3 : Value) : Only b w (set4W w' g v0 v1 v2 v3) := (((h.setNew hg 0 v0).setNew hg 1 v1).setNew hg 2 v2).setNew hg 3 v3
theorem Blk.far4 {g q : Nat} {t : TypeId} {cs : List Value} {w : World} (h : Blk w q t cs) (hq : q ≠ g) (v0 v1 v2 v3 : Value) : Blk (set4W w g v0 v1 v2 v3) q t cs := (((h.far (p := ⟨g, 0, none⟩) hq v0).far (p := ⟨g, 1, none⟩) hq v1).far (p := ⟨g, 2, none⟩) hq v2).far (p := ⟨g, 3, none⟩) hq v3
set_option maxHeartbeats 2000000 in
theorem fail_any (b : Nat) (A : Option Addr) (n c : Nat) (ts : List Tok) (en : Int) (s : PS) (err : Int) (w : World) (h : RdAt b A n c ts en s w) :
    Calls Tryd.prog 45 #[.pointer (some ⟨b, 0, none⟩), .int .i64 err] w fun e w' => e = .returned (.tuple #[]) ∧ Moved b A n c ts en (failF ts en s err) w w' := by
  have HR := Lib.hid h
  have HL := Lib.hid h.len
  clear h
  go_enter Tryd.func45, Tryd.ntmps45
  obtain ⟨c0, c1, c2, c3, c4⟩ := HR.out.cells
  by_cases hfe : s.fe = 0
  · have hf : (s.fe != 0) = false := by rw [hfe]; rfl
    obtain ⟨lb, hlb⟩ : ∃ g, decide (s.p < n) = g := ⟨_, rfl⟩
    have hg1 := hlb
    have hg2 : decide ((s.p : Int) < n) = lb := by rw [← hlb]; exact decide_eq_decide.2 (by omega)
    have HGB := Lib.hid hlb
    have HFE := Lib.hid hfe
    clear hlb hfe
    go_upto_region 2 with fail
    clear c0 c1 c2 c3 c4
    refine wp_region_facts (R := fun a b => Below a.heap.size a b) (G := (fun W => RdAt b A n c ts en s W ∧ Below w.heap.size w W)) (V := fun i' u' W => match i' with | 0 => u' = .pointer (some ⟨b, 0, none⟩) | 1 => u' = .pointer (some ⟨b, 0, none⟩) | 2 => u' = .pointer (some ⟨b, 1, none⟩) | 3 => u' = .int .i64 s.p | 4 => u' = .pointer (some ⟨b, 0, none⟩) | 5 => u' = .pointer (some ⟨b, 0, none⟩) | 6 => u' = .pointer (some ⟨b, 0, none⟩) | 7 => u' = .slice A n c | 8 => u' = .int .i64 n | 9 => u' = .bool lb | _ => True) (by kernel_rfl) (fun w => Below.refl _ _) (fun a b c h1 h2 => h1.trans (h2.mono h1.size)) (by kernel_rfl) (by kernel_rfl) ?hG ⟨?o0, ?o1, ?o2, ?o3, ?o4, ?o5, ?o6, ?o7, ?o8, ?o9, trivial⟩ ?hend
    case o0 =>
      intro a w hfr hG hd
      refine ⟨fun hw => ?_, fun hw => absurd hw (by simp [Region.wanted])⟩
      have s0 : a.tmps.getD 0 undef = .pointer (some ⟨b, 0, none⟩) := hfr.at 0 (by kernel_rfl)
      refine op_yields (.pointer (some ⟨b, 0, none⟩)) ?_ ?_ ?_
      · simp only [execOp, resolve, List.map_toArray, List.map_cons, List.map_nil, Act.eval, s0]; simp [go_sem, -Array.getD_eq_getD_getElem?, s0]
      · exact Below.refl _ _
      · exact (fun _ _ => rfl)
    case o1 =>
      intro a w hfr hG hd
      obtain ⟨d0, _⟩ := hd
      refine ⟨fun hw => ?_, fun hw => absurd hw (by simp [Region.wanted])⟩
      have s15 : a.tmps.getD 15 undef = .pointer (some ⟨b, 0, none⟩) := (d0 rfl).now
      refine op_yields (.pointer (some ⟨b, 0, none⟩)) ?_ ?_ ?_
      · simp only [execOp, resolve, List.map_toArray, List.map_cons, List.map_nil, Act.eval, s15]; simp [go_sem, -Array.getD_eq_getD_getElem?, s15]
      · exact Below.refl _ _
      · exact (fun _ _ => rfl)
    case o2 =>
      intro a w hfr hG hd
      obtain ⟨d0, _⟩ := hd
      refine ⟨fun hw => ?_, fun hw => absurd hw (by simp [Region.wanted])⟩
      have s16 : a.tmps.getD 16 undef = .pointer (some ⟨b, 0, none⟩) := (d0 rfl).now
      refine op_yields (.pointer (some ⟨b, 1, none⟩)) ?_ ?_ ?_
      · simp only [execOp, resolve, List.map_toArray, List.map_cons, List.map_nil, Act.eval, s16]; simp [go_sem, -Array.getD_eq_getD_getElem?, s16]
      · exact Below.refl _ _
      · exact (fun _ _ => rfl)
    case o3 =>
      intro a w hfr hG hd
      obtain ⟨d0, _⟩ := hd
      refine ⟨fun hw => ?_, fun hw => absurd hw (by simp [Region.wanted])⟩
      have s17 : a.tmps.getD 17 undef = .pointer (some ⟨b, 1, none⟩) := (d0 rfl).now
      obtain ⟨r0, r1, r2, r3, r4⟩ := hG.now.1.cells
      refine op_yields (.int .i64 s.p) ?_ ?_ ?_
      · simp only [execOp, resolve, List.map_toArray, List.map_cons, List.map_nil, Act.eval, s17]; simp [go_sem, -Array.getD_eq_getD_getElem?, s17, r1]
      · exact Below.refl _ _
      · exact (fun _ _ => rfl)
    case o4 =>
      intro a w hfr hG hd
      refine ⟨fun hw => ?_, fun hw => absurd hw (by simp [Region.wanted])⟩
      have s0 : a.tmps.getD 0 undef = .pointer (some ⟨b, 0, none⟩) := hfr.at 0 (by kernel_rfl)
      refine op_yields (.pointer (some ⟨b, 0, none⟩)) ?_ ?_ ?_
      · simp only [execOp, resolve, List.map_toArray, List.map_cons, List.map_nil, Act.eval, s0]; simp [go_sem, -Array.getD_eq_getD_getElem?, s0]
      · exact Below.refl _ _
      · exact (fun _ _ => rfl)
    case o5 =>
      intro a w hfr hG hd
      obtain ⟨d0, _⟩ := hd
      refine ⟨fun hw => ?_, fun hw => absurd hw (by simp [Region.wanted])⟩
      have s19 : a.tmps.getD 19 undef = .pointer (some ⟨b, 0, none⟩) := (d0 rfl).now
      refine op_yields (.pointer (some ⟨b, 0, none⟩)) ?_ ?_ ?_
      · simp only [execOp, resolve, List.map_toArray, List.map_cons, List.map_nil, Act.eval, s19]; simp [go_sem, -Array.getD_eq_getD_getElem?, s19]
      · exact Below.refl _ _
      · exact (fun _ _ => rfl)
    case o6 =>
      intro a w hfr hG hd
      obtain ⟨d0, _⟩ := hd
      refine ⟨fun hw => ?_, fun hw => absurd hw (by simp [Region.wanted])⟩
      have s20 : a.tmps.getD 20 undef = .pointer (some ⟨b, 0, none⟩) := (d0 rfl).now
      refine op_yields (.pointer (some ⟨b, 0, none⟩)) ?_ ?_ ?_
      · simp only [execOp, resolve, List.map_toArray, List.map_cons, List.map_nil, Act.eval, s20]; simp [go_sem, -Array.getD_eq_getD_getElem?, s20]
      · exact Below.refl _ _
      · exact (fun _ _ => rfl)
    case o7 =>
      intro a w hfr hG hd
      obtain ⟨d0, _⟩ := hd
      refine ⟨fun hw => ?_, fun hw => absurd hw (by simp [Region.wanted])⟩
      have s21 : a.tmps.getD 21 undef = .pointer (some ⟨b, 0, none⟩) := (d0 rfl).now
      obtain ⟨r0, r1, r2, r3, r4⟩ := hG.now.1.cells
      refine op_yields (.slice A n c) ?_ ?_ ?_
      · simp only [execOp, resolve, List.map_toArray, List.map_cons, List.map_nil, Act.eval, s21]; simp [go_sem, -Array.getD_eq_getD_getElem?, s21, r0]
      · exact Below.refl _ _
      · exact (fun _ _ => rfl)
    case o8 =>
      intro a w hfr hG hd
      obtain ⟨d0, _⟩ := hd
      refine ⟨fun hw => ?_, fun hw => absurd hw (by simp [Region.wanted])⟩
      have s22 : a.tmps.getD 22 undef = .slice A n c := (d0 rfl).now
      refine op_yields (.int .i64 n) ?_ ?_ ?_
      · simp only [execOp, resolve, List.map_toArray, List.map_cons, List.map_nil, Act.eval, s22]; simp [go_sem, -Array.getD_eq_getD_getElem?, s22]
      · exact Below.refl _ _
      · exact (fun _ _ => rfl)
    case o9 =>
      intro a w hfr hG hd
      obtain ⟨d0, d1, _⟩ := hd
      refine ⟨fun hw => ?_, fun hw => absurd hw (by simp [Region.wanted])⟩
      have s18 : a.tmps.getD 18 undef = .int .i64 s.p := (d0 rfl).now
      have s23 : a.tmps.getD 23 undef = .int .i64 n := (d1 rfl).now
      refine op_yields (.bool lb) ?_ ?_ ?_
      · simp only [execOp, resolve, List.map_toArray, List.map_cons, List.map_nil, Act.eval, s18, s23]; simp [go_sem, -Array.getD_eq_getD_getElem?, s18, s23, hg1, hg2]
      · exact Below.refl _ _
      · exact (fun _ _ => rfl)
    case hG => exact fun w' hb => ⟨HR.out.below ((Below.refl _ _).drew.trans (hb.mono (by simp))), (Below.refl _ _).drew.trans (hb.mono (by simp))⟩
    case hend =>
      intro vs w' hG hv
      have key : vs 9 = .bool lb := by
        obtain ⟨_, _, _, _, _, _, _, _, _, h9, _⟩ := hv
        exact h9.now
      obtain ⟨hr, hb⟩ := hG.now
      have HR2 := Lib.hid hr; have HB2 := Lib.hid hb
      clear hv hG hr hb HR hg1 hg2 hf
      simp only [putAll, Act.put, key]
      clear key
      go_simp
      cases lb with
      | false =>
        have HE := Lib.hid (show failF ts en s err = ⟨s.p, en, err⟩ by
          unfold failF
          rw [if_pos HFE.out, List.getElem?_eq_none (by have := of_decide_eq_false HGB.out; rw [HL.out]; omega)])
        obtain ⟨c0, c1, c2, c3, c4⟩ := HR2.out.cells
        have f3 := HR2.out.blk.frozen 3
        have f4 := HR2.out.blk.frozen 4
        have HM := Lib.hid (show Moved b A n c ts en (failF ts en s err) w ((w'.setCell ⟨b, 3, none⟩ (.int .i64 en)).setCell ⟨b, 4, none⟩ (.int .i64 err)) from ⟨by rw [HE.out]; exact HR2.out.fault en err, ((Only.of_below HB2.out).set 3 _).set 4 _⟩)
        go_wp2_with fail
        go_end0
        exact ⟨rfl, HM.out⟩
      | true =>
        have hp : s.p < n := of_decide_eq_true HGB.out
        obtain ⟨ad, hpl, rfl, _⟩ := (Sees.tok (HR2.out.row.now) hp)
        have HTK := Lib.hid (show ∀ V : World, RdAt b (some ad) n c ts en s V → V.cell? ⟨(ad.add (s.p * 4)).block, (ad.add (s.p * 4)).off + 2, none⟩ = some (.int .i64 ts[s.p].at_) from fun V hV => by
          obtain ⟨ad', _, h1, h2, h3, h4, h5⟩ := Sees.tok hV.row.now hp
          injection h1 with h1; subst h1
          exact h4)
        have HE := Lib.hid (show failF ts en s err = ⟨s.p, ts[s.p].at_, err⟩ by unfold failF; rw [if_pos HFE.out, List.getElem?_eq_getElem hpl])
        generalize ts[s.p] = t at *
        have hp0 : (0 : Int) ≤ s.p := by omega
        have hp1 : (s.p : Int) < n := by omega
        go_upto_region 3 with fail
        refine wp_region_facts (R := fun a b => Below a.heap.size a b) (G := (fun W => RdAt b (some ad) n c ts en s W ∧ Below w.heap.size w W)) (V := fun i' u' W => match i' with | 0 => u' = .pointer (some ⟨b, 0, none⟩) | 1 => u' = .pointer (some ⟨b, 0, none⟩) | 2 => u' = .pointer (some ⟨b, 0, none⟩) | 3 => u' = .slice (some ad) n c | 4 => u' = .pointer (some ⟨b, 0, none⟩) | 5 => u' = .pointer (some ⟨b, 0, none⟩) | 6 => u' = .pointer (some ⟨b, 1, none⟩) | 7 => u' = .int .i64 s.p | 8 => u' = .pointer (some (ad.add (s.p * 4))) | 9 => u' = .pointer (some ⟨(ad.add (s.p * 4)).block, (ad.add (s.p * 4)).off + 2, none⟩) | 10 => u' = .int .i64 t.at_ | 11 => u' = .int .i64 t.at_ | _ => True) (by kernel_rfl) (fun w => Below.refl _ _) (fun a b c h1 h2 => h1.trans (h2.mono h1.size)) (by kernel_rfl) (by kernel_rfl) ?hG ⟨?o0, ?o1, ?o2, ?o3, ?o4, ?o5, ?o6, ?o7, ?o8, ?o9, ?o10, ?o11, trivial⟩ ?hend
        case o0 =>
          intro a w hfr hG hd
          refine ⟨fun hw => ?_, fun hw => absurd hw (by simp [Region.wanted])⟩
          have s0 : a.tmps.getD 0 undef = .pointer (some ⟨b, 0, none⟩) := hfr.at 0 (by kernel_rfl)
          refine op_yields (.pointer (some ⟨b, 0, none⟩)) ?_ ?_ ?_
          · simp only [execOp, resolve, List.map_toArray, List.map_cons, List.map_nil, Act.eval, s0]; simp [go_sem, -Array.getD_eq_getD_getElem?, s0]
          · exact Below.refl _ _
          · exact (fun _ _ => rfl)
        case o1 =>
          intro a w hfr hG hd
          obtain ⟨d0, _⟩ := hd
          refine ⟨fun hw => ?_, fun hw => absurd hw (by simp [Region.wanted])⟩
          have s25 : a.tmps.getD 25 undef = .pointer (some ⟨b, 0, none⟩) := (d0 rfl).now
          refine op_yields (.pointer (some ⟨b, 0, none⟩)) ?_ ?_ ?_
          · simp only [execOp, resolve, List.map_toArray, List.map_cons, List.map_nil, Act.eval, s25]; simp [go_sem, -Array.getD_eq_getD_getElem?, s25]
          · exact Below.refl _ _
          · exact (fun _ _ => rfl)
        case o2 =>
          intro a w hfr hG hd
          obtain ⟨d0, _⟩ := hd
          refine ⟨fun hw => ?_, fun hw => absurd hw (by simp [Region.wanted])⟩
          have s26 : a.tmps.getD 26 undef = .pointer (some ⟨b, 0, none⟩) := (d0 rfl).now
          refine op_yields (.pointer (some ⟨b, 0, none⟩)) ?_ ?_ ?_
          · simp only [execOp, resolve, List.map_toArray, List.map_cons, List.map_nil, Act.eval, s26]; simp [go_sem, -Array.getD_eq_getD_getElem?, s26]
          · exact Below.refl _ _
          · exact (fun _ _ => rfl)
        case o3 =>
          intro a w hfr hG hd
          obtain ⟨d0, _⟩ := hd
          refine ⟨fun hw => ?_, fun hw => absurd hw (by simp [Region.wanted])⟩
          have s27 : a.tmps.getD 27 undef = .pointer (some ⟨b, 0, none⟩) := (d0 rfl).now
          obtain ⟨r0, r1, r2, r3, r4⟩ := hG.now.1.cells
          refine op_yields (.slice (some ad) n c) ?_ ?_ ?_
          · simp only [execOp, resolve, List.map_toArray, List.map_cons, List.map_nil, Act.eval, s27]; simp [go_sem, -Array.getD_eq_getD_getElem?, s27, r0]
          · exact Below.refl _ _
          · exact (fun _ _ => rfl)
        case o4 =>
          intro a w hfr hG hd
          refine ⟨fun hw => ?_, fun hw => absurd hw (by simp [Region.wanted])⟩
          have s0 : a.tmps.getD 0 undef = .pointer (some ⟨b, 0, none⟩) := hfr.at 0 (by kernel_rfl)
          refine op_yields (.pointer (some ⟨b, 0, none⟩)) ?_ ?_ ?_
          · simp only [execOp, resolve, List.map_toArray, List.map_cons, List.map_nil, Act.eval, s0]; simp [go_sem, -Array.getD_eq_getD_getElem?, s0]
          · exact Below.refl _ _
          · exact (fun _ _ => rfl)
        case o5 =>
          intro a w hfr hG hd
          obtain ⟨d0, _⟩ := hd
          refine ⟨fun hw => ?_, fun hw => absurd hw (by simp [Region.wanted])⟩
          have s29 : a.tmps.getD 29 undef = .pointer (some ⟨b, 0, none⟩) := (d0 rfl).now
          refine op_yields (.pointer (some ⟨b, 0, none⟩)) ?_ ?_ ?_
          · simp only [execOp, resolve, List.map_toArray, List.map_cons, List.map_nil, Act.eval, s29]; simp [go_sem, -Array.getD_eq_getD_getElem?, s29]
          · exact Below.refl _ _
          · exact (fun _ _ => rfl)
        case o6 =>
          intro a w hfr hG hd
          obtain ⟨d0, _⟩ := hd
          refine ⟨fun hw => ?_, fun hw => absurd hw (by simp [Region.wanted])⟩
          have s30 : a.tmps.getD 30 undef = .pointer (some ⟨b, 0, none⟩) := (d0 rfl).now
          refine op_yields (.pointer (some ⟨b, 1, none⟩)) ?_ ?_ ?_
          · simp only [execOp, resolve, List.map_toArray, List.map_cons, List.map_nil, Act.eval, s30]; simp [go_sem, -Array.getD_eq_getD_getElem?, s30]
          · exact Below.refl _ _
          · exact (fun _ _ => rfl)
        case o7 =>
          intro a w hfr hG hd
          obtain ⟨d0, _⟩ := hd
          refine ⟨fun hw => ?_, fun hw => absurd hw (by simp [Region.wanted])⟩
          have s31 : a.tmps.getD 31 undef = .pointer (some ⟨b, 1, none⟩) := (d0 rfl).now
          obtain ⟨r0, r1, r2, r3, r4⟩ := hG.now.1.cells
          refine op_yields (.int .i64 s.p) ?_ ?_ ?_
          · simp only [execOp, resolve, List.map_toArray, List.map_cons, List.map_nil, Act.eval, s31]; simp [go_sem, -Array.getD_eq_getD_getElem?, s31, r1]
          · exact Below.refl _ _
          · exact (fun _ _ => rfl)
        case o8 =>
          intro a w hfr hG hd
          obtain ⟨d0, d1, _⟩ := hd
          refine ⟨fun hw => ?_, fun hw => absurd hw (by simp [Region.wanted])⟩
          have s28 : a.tmps.getD 28 undef = .slice (some ad) n c := (d0 rfl).now
          have s32 : a.tmps.getD 32 undef = .int .i64 s.p := (d1 rfl).now
          refine op_yields (.pointer (some (ad.add (s.p * 4)))) ?_ ?_ ?_
          · simp only [execOp, resolve, List.map_toArray, List.map_cons, List.map_nil, Act.eval, s28, s32]; simp [go_sem, -Array.getD_eq_getD_getElem?, s28, s32, hp0, hp1]
          · exact Below.refl _ _
          · exact (fun _ _ => rfl)
        case o9 =>
          intro a w hfr hG hd
          obtain ⟨d0, _⟩ := hd
          refine ⟨fun hw => ?_, fun hw => absurd hw (by simp [Region.wanted])⟩
          have s33 : a.tmps.getD 33 undef = .pointer (some (ad.add (s.p * 4))) := (d0 rfl).now
          refine op_yields (.pointer (some ⟨(ad.add (s.p * 4)).block, (ad.add (s.p * 4)).off + 2, none⟩)) ?_ ?_ ?_
          · simp only [execOp, resolve, List.map_toArray, List.map_cons, List.map_nil, Act.eval, s33]; simp [go_sem, -Array.getD_eq_getD_getElem?, s33]
          · exact Below.refl _ _
          · exact (fun _ _ => rfl)
        case o10 =>
          intro a w hfr hG hd
          obtain ⟨d0, _⟩ := hd
          refine ⟨fun hw => ?_, fun hw => absurd hw (by simp [Region.wanted])⟩
          have s34 : a.tmps.getD 34 undef = .pointer (some ⟨(ad.add (s.p * 4)).block, (ad.add (s.p * 4)).off + 2, none⟩) := (d0 rfl).now
          have k2 := HTK.out w hG.now.1
          refine op_yields (.int .i64 t.at_) ?_ ?_ ?_
          · simp only [execOp, resolve, List.map_toArray, List.map_cons, List.map_nil, Act.eval, s34]; simp [go_sem, -Array.getD_eq_getD_getElem?, s34, k2]
          · exact Below.refl _ _
          · exact (fun _ _ => rfl)
        case o11 =>
          intro a w hfr hG hd
          obtain ⟨d0, d1, d2, d3, d4, d5, d6, d7, d8, d9, d10, d11, _⟩ := hd
          refine ⟨fun hw => ?_, fun hw => absurd hw (by simp [Region.wanted])⟩
          have s35 : a.tmps.getD 35 undef = .int .i64 t.at_ := (d0 rfl).now
          refine op_yields (.int .i64 t.at_) ?_ ?_ ?_
          · simp only [execOp, resolve, List.map_toArray, List.map_cons, List.map_nil, Act.eval, s35]; simp [go_sem, -Array.getD_eq_getD_getElem?, s35]
          · exact Below.refl _ _
          · exact (fun _ _ => rfl)
        case hG => exact fun w' hb => ⟨HR2.out.below ((Below.refl _ _).drew.trans (hb.mono (by simp))), HB2.out.trans ((Below.refl _ _).drew.trans (hb.mono (by simp; exact HB2.out.size)))⟩
        case hend =>
          intro vs w' hG hv
          have key : vs 10 = .int .i64 t.at_ ∧ vs 11 = .int .i64 t.at_ := by
            obtain ⟨_, _, _, _, _, _, _, _, _, _, h10, h11, _⟩ := hv
            exact ⟨h10.now, h11.now⟩
          obtain ⟨hr, hb⟩ := hG.now
          have HR3 := Lib.hid hr; have HB3 := Lib.hid hb
          clear hv hG hr hb HR2 HB2 HTK
          simp only [putAll, Act.put, key.1, key.2]
          clear key
          go_simp
          obtain ⟨c0, c1, c2, c3, c4⟩ := HR3.out.cells
          have f3 := HR3.out.blk.frozen 3
          have f4 := HR3.out.blk.frozen 4
          have HM := Lib.hid (show Moved b (some ad) n c ts en (failF ts en s err) w ((w'.setCell ⟨b, 3, none⟩ (.int .i64 t.at_)).setCell ⟨b, 4, none⟩ (.int .i64 err)) from ⟨by rw [HE.out]; exact HR3.out.fault _ err, ((Only.of_below HB3.out).set 3 _).set 4 _⟩)
          go_wp2_with fail
          go_end0
          exact ⟨rfl, HM.out⟩
  · have hf : (s.fe != 0) = true := by rw [bne, beq_eq_false_iff_ne.2 hfe]; rfl
    have HM := Lib.hid (show Moved b A n c ts en (failF ts en s err) w w from ⟨by unfold failF; rw [if_neg hfe]; exact HR.out, Only.refl _ _⟩)
    go_wp2_with fail
    refine bodyPost_ret (v := .tuple #[]) (by simp [results, Tryd.results45, go_sem]) rfl ?_
    exact ⟨rfl, HM.out⟩
set_option maxHeartbeats 2000000 in
theorem is_any (b : Nat) (A : Option Addr) (n c : Nat) (ts : List Tok) (en : Int) (s : PS) (kd : Int) (tx : ByteArray) (w : World) (h : RdAt b A n c ts en s w) :
    Calls Tryd.prog 68 #[.pointer (some ⟨b, 0, none⟩), .int .i64 kd, .string tx] w fun e w' => e = .returned (.bool (isF ts s kd tx)) ∧ Below w.heap.size w w' := by
  have HP := Lib.hid (peek_any b A n c ts en s w h)
  have HE : Hid (isF ts s kd tx = (peekF ts s).same kd tx) := Lib.hid rfl
  clear h
  generalize peekF ts s = t at *
  unfold Tok.val at HP
  go_enter Tryd.func68, Tryd.ntmps68
  go_wp2_with fail
  (with_reducible refine HP.out.mono ?_); rintro e w1 ⟨rfl, hb1⟩
  have HB := Lib.hid (hb1.alloc hb1.size (.cells #[.int .i64 t.kd, .int .i64 t.n, .int .i64 t.at_, .string t.tx] 43))
  have HK := Lib.hid (Blk.mk (heap_alloc_new w1 (.cells #[.int .i64 t.kd, .int .i64 t.n, .int .i64 t.at_, .string t.tx] 43)) : Blk _ w1.heap.size 43 [.int .i64 t.kd, .int .i64 t.n, .int .i64 t.at_, .string t.tx])
  clear hb1 HP
  obtain ⟨c0, c1, c2, c3⟩ := blk_cells4 HK.out
  by_cases h1 : t.kd = kd
  · have t1 : (t.kd == kd) = true := by rw [h1]; simp
    by_cases h2 : t.tx = tx
    · have t2 : (t.tx.toList == tx.toList) = true := by rw [h2]; simp
      have HE2 := Lib.hid (show isF ts s kd tx = true by rw [HE.out]; unfold Tok.same; rw [decide_eq_true h1, decide_eq_true h2]; rfl)
      clear h1 h2
      go_wp2_with fail
      go_ret
      exact ⟨by rw [HE2.out]; rfl, HB.out⟩
    · have t2 : (t.tx.toList == tx.toList) = false := by rw [beq_eq_false_iff_ne]; exact fun e => h2 (by apply ByteArray.ext; apply Array.toList_inj.1; simpa [ByteArray.toList_eq] using e)
      have HE2 := Lib.hid (show isF ts s kd tx = false by rw [HE.out]; unfold Tok.same; rw [decide_eq_false h2, Bool.and_false])
      clear h1 h2
      go_wp2_with fail
      go_ret
      exact ⟨by rw [HE2.out]; rfl, HB.out⟩
  · have t1 : (t.kd == kd) = false := by rw [beq_eq_false_iff_ne]; exact h1
    have HE2 := Lib.hid (show isF ts s kd tx = false by rw [HE.out]; unfold Tok.same; rw [decide_eq_false h1, Bool.false_and])
    clear h1
    go_wp2_with fail
    go_ret
    exact ⟨by rw [HE2.out]; rfl, HB.out⟩
set_option maxHeartbeats 2000000 in
theorem must_any (b : Nat) (A : Option Addr) (n c : Nat) (ts : List Tok) (en : Int) (s : PS) (kd : Int) (tx : ByteArray) (w : World) (h : RdAt b A n c ts en s w) (hk : kd ≠ 0) (hn : n ≤ 1000000) :
    Calls Tryd.prog 85 #[.pointer (some ⟨b, 0, none⟩), .int .i64 kd, .string tx] w fun e w' => e = .returned (.tuple #[]) ∧ Moved b A n c ts en (mustF ts en s kd tx) w w' := by
  have HI := Lib.hid (is_any b A n c ts en s kd tx w h)
  have HR := Lib.hid h
  have HL := Lib.hid h.len
  have HLT := Lib.hid (fun e => isF_lt (ts := ts) (s := s) (tx := tx) hk e)
  have HM : Hid (mustF ts en s kd tx = if isF ts s kd tx = true then nextF s else failF ts en s 1) := Lib.hid rfl
  clear h hk
  obtain ⟨q, hq⟩ : ∃ q, isF ts s kd tx = q := ⟨_, rfl⟩
  rw [hq] at HI HLT HM
  clear hq
  go_enter Tryd.func85, Tryd.ntmps85
  go_wp2_with fail
  (with_reducible refine HI.out.mono ?_); rintro e w1 ⟨rfl, hb1⟩
  have HR1 := Lib.hid (HR.out.below hb1)
  have HO1 := Lib.hid (Only.of_below (b := b) hb1)
  clear hb1 HI HR
  cases q with
  | true =>
    have hp := (HLT.out rfl).2
    rw [HL.out] at hp
    have HX := Lib.hid (show Moved b A n c ts en (mustF ts en s kd tx) w (w1.setCell ⟨b, 1, none⟩ (.int .i64 ((s.p : Int) + 1))) from ⟨by rw [HM.out, if_pos rfl]; exact HR1.out.next hp, HO1.out.set 1 _⟩)
    obtain ⟨c0, c1, c2, c3, c4⟩ := HR1.out.cells
    have f1 := HR1.out.blk.frozen 1
    have i1 : IntKind.i64.wrap ((s.p : Int) + 1) = (s.p : Int) + 1 := by rw [IntKind.wrap_i64]; omega
    go_wp2_with fail
    go_end0
    exact ⟨rfl, HX.out⟩
  | false =>
    have HF := Lib.hid (fail_any b A n c ts en s 1 w1 HR1.out)
    have HE := Lib.hid (show mustF ts en s kd tx = failF ts en s 1 by rw [HM.out, if_neg (by simp)])
    go_wp2_with fail
    (with_reducible refine HF.out.mono ?_); rintro e w2 ⟨rfl, hm⟩
    have HX := Lib.hid (show Moved b A n c ts en (mustF ts en s kd tx) w w2 from ⟨by rw [HE.out]; exact hm.rd, HO1.out.trans hm.only⟩)
    clear hm
    go_wp2_with fail
    refine bodyPost_ret (v := .tuple #[]) (by simp [results, Tryd.results85, go_sem]) rfl ?_
    exact ⟨rfl, HX.out⟩
set_option maxHeartbeats 2000000 in
theorem skip_any (b : Nat) (A : Option Addr) (n c : Nat) (ts : List Tok) (en : Int) (s : PS) (kd : Int) (tx : ByteArray) (w : World) (h : RdAt b A n c ts en s w) (hk : kd ≠ 0) (hn : n ≤ 1000000) :
    Calls Tryd.prog 86 #[.pointer (some ⟨b, 0, none⟩), .int .i64 kd, .string tx] w fun e w' => e = .returned (.bool (skipF ts s kd tx).1) ∧ Moved b A n c ts en (skipF ts s kd tx).2 w w' := by
  have HI := Lib.hid (is_any b A n c ts en s kd tx w h)
  have HR := Lib.hid h
  have HL := Lib.hid h.len
  have HLT := Lib.hid (fun e => isF_lt (ts := ts) (s := s) (tx := tx) hk e)
  have HM : Hid (skipF ts s kd tx = if isF ts s kd tx = true then (true, nextF s) else (false, s)) := Lib.hid rfl
  clear h hk
  obtain ⟨q, hq⟩ : ∃ q, isF ts s kd tx = q := ⟨_, rfl⟩
  rw [hq] at HI HLT HM
  clear hq
  go_enter Tryd.func86, Tryd.ntmps86
  go_wp2_with fail
  (with_reducible refine HI.out.mono ?_); rintro e w1 ⟨rfl, hb1⟩
  have HR1 := Lib.hid (HR.out.below hb1)
  have HO1 := Lib.hid (Only.of_below (b := b) hb1)
  clear hb1 HI HR
  cases q with
  | true =>
    have hp := (HLT.out rfl).2
    rw [HL.out] at hp
    have HE := Lib.hid (show skipF ts s kd tx = (true, nextF s) by rw [HM.out, if_pos rfl])
    have HX := Lib.hid (show Moved b A n c ts en (skipF ts s kd tx).2 w (w1.setCell ⟨b, 1, none⟩ (.int .i64 ((s.p : Int) + 1))) from ⟨by rw [HE.out]; exact HR1.out.next hp, HO1.out.set 1 _⟩)
    obtain ⟨c0, c1, c2, c3, c4⟩ := HR1.out.cells
    have f1 := HR1.out.blk.frozen 1
    have i1 : IntKind.i64.wrap ((s.p : Int) + 1) = (s.p : Int) + 1 := by rw [IntKind.wrap_i64]; omega
    go_wp2_with fail
    go_ret
    exact ⟨by rw [HE.out]; rfl, HX.out⟩
  | false =>
    have HE := Lib.hid (show skipF ts s kd tx = (false, s) by rw [HM.out, if_neg (by simp)])
    have HX := Lib.hid (show Moved b A n c ts en (skipF ts s kd tx).2 w w1 from ⟨by rw [HE.out]; exact HR1.out, HO1.out⟩)
    go_wp2_with fail
    go_ret
    exact ⟨by rw [HE.out]; rfl, HX.out⟩
set_option maxHeartbeats 2000000 in
theorem take_any (b : Nat) (A : Option Addr) (n c : Nat) (ts : List Tok) (en : Int) (s : PS) (kd : Int) (w : World) (h : RdAt b A n c ts en s w) (hk : kd ≠ 0) (hn : n ≤ 1000000) :
    Calls Tryd.prog 69 #[.pointer (some ⟨b, 0, none⟩), .int .i64 kd] w fun e w' => e = .returned (takeF ts en s kd).1.val ∧ Moved b A n c ts en (takeF ts en s kd).2 w w' := by
  have HR := Lib.hid (h.alloc (.cells #[.int .i64 0, .int .i64 0, .int .i64 0, .string ⟨#[]⟩] 43))
  have HR0 := Lib.hid h
  have HB := Lib.hid ((Below.refl w.heap.size w).alloc (Nat.le_refl _) (.cells #[.int .i64 0, .int .i64 0, .int .i64 0, .string ⟨#[]⟩] 43))
  have HK := Lib.hid (Blk.mk (heap_alloc_new w (.cells #[.int .i64 0, .int .i64 0, .int .i64 0, .string ⟨#[]⟩] 43)) : Blk _ w.heap.size 43 [.int .i64 0, .int .i64 0, .int .i64 0, .string ⟨#[]⟩])
  have HL := Lib.hid h.len
  have HP := Lib.hid (peek_any b A n c ts en s (w.alloc (.cells #[.int .i64 0, .int .i64 0, .int .i64 0, .string ⟨#[]⟩] 43)) (h.alloc _))
  have HLT := Lib.hid (fun e => peekF_lt (ts := ts) (s := s) e)
  have HM : Hid (takeF ts en s kd = if (peekF ts s).kd = kd then (peekF ts s, nextF s) else (zeroT, failF ts en s 1)) := Lib.hid rfl
  have hbw : b < w.heap.size := h.blk.lt
  have HKD := Lib.hid hk
  clear h hk
  generalize peekF ts s = t at *
  unfold Tok.val at HP
  have HG := Lib.hid (show ∃ g, w.heap.size = g from ⟨_, rfl⟩)
  go_enter Tryd.func69, Tryd.ntmps69
  go_upto_region 1 with fail
  obtain ⟨g2, hg2'⟩ := HG.out
  rw [hg2']
  have HGE := Lib.hid hg2'
  rw [hg2'] at hbw
  clear HG hg2'
  generalize w.alloc (.cells #[.int .i64 0, .int .i64 0, .int .i64 0, .string ⟨#[]⟩] 43) = W1 at *
  rw [HGE.out] at HK
  go_wp2_with fail
  (with_reducible refine HP.out.mono ?_); rintro e w1 ⟨rfl, hb1⟩
  have HR1 := Lib.hid ((HR.out.below hb1).alloc (.cells #[.int .i64 t.kd, .int .i64 t.n, .int .i64 t.at_, .string t.tx] 43))
  have HB1 := Lib.hid ((HB.out.trans (hb1.mono HB.out.size)).alloc (Nat.le_trans HB.out.size hb1.size) (.cells #[.int .i64 t.kd, .int .i64 t.n, .int .i64 t.at_, .string t.tx] 43))
  have HK1 := Lib.hid ((HK.out.below hb1 HK.out.lt).alloc (.cells #[.int .i64 t.kd, .int .i64 t.n, .int .i64 t.at_, .string t.tx] 43))
  have HT1 := Lib.hid (Blk.mk (heap_alloc_new w1 (.cells #[.int .i64 t.kd, .int .i64 t.n, .int .i64 t.at_, .string t.tx] 43)) : Blk _ w1.heap.size 43 [.int .i64 t.kd, .int .i64 t.n, .int .i64 t.at_, .string t.tx])
  have HG1 := Lib.hid (show ∃ g, w1.heap.size = g from ⟨_, rfl⟩)
  have hg2l := HK.out.lt
  have hw1 := hb1.size
  clear hb1 HP HR HB HK
  go_upto_region 2 with fail
  obtain ⟨g5, hg5'⟩ := HG1.out
  rw [hg5']
  have HG5 := Lib.hid hg5'
  rw [hg5'] at hw1
  clear HG1 hg5'
  generalize w1.alloc (.cells #[.int .i64 t.kd, .int .i64 t.n, .int .i64 t.at_, .string t.tx] 43) = W2 at *
  rw [HG5.out] at HT1
  have hg25 : g2 < g5 := by omega
  have hwg : w.heap.size ≤ g2 := by rw [HGE.out]; exact Nat.le_refl _
  obtain ⟨x0, x1, x2, x3⟩ := blk_cells4 HT1.out
  by_cases h1 : t.kd = kd
  · have t1 : (t.kd != kd) = false := by rw [h1]; simp
    have hp := (HLT.out (by rw [h1]; exact HKD.out)).2
    rw [HL.out] at hp
    have HE := Lib.hid (show takeF ts en s kd = (t, nextF s) by rw [HM.out, if_pos h1])
    obtain ⟨c0, c1, c2, c3, c4⟩ := HR1.out.cells
    have f1 := HR1.out.blk.frozen 1
    have i1 : IntKind.i64.wrap ((s.p : Int) + 1) = (s.p : Int) + 1 := by rw [IntKind.wrap_i64]; omega
    have HR2 := Lib.hid (HR1.out.next hp)
    have HO2 := Lib.hid ((Only.of_below (b := b) HB1.out).set 1 (.int .i64 ((s.p : Int) + 1)))
    have HK2 := Lib.hid (HK1.out.far (p := ⟨b, 1, none⟩) (show g2 ≠ b by omega) (.int .i64 ((s.p : Int) + 1)))
    have HT2 := Lib.hid (HT1.out.far (p := ⟨b, 1, none⟩) (show g5 ≠ b by omega) (.int .i64 ((s.p : Int) + 1)))
    clear h1
    go_upto_region 6 with fail
    generalize W2.setCell ⟨b, 1, none⟩ (.int .i64 ((s.p : Int) + 1)) = W3 at *
    clear x0 x1 x2 x3 c0 c1 c2 c3 c4 f1 HR1 HB1 HK1 HT1
    obtain ⟨x0, x1, x2, x3⟩ := blk_cells4 HT2.out
    obtain ⟨y0, y1, y2, y3⟩ := blk_cells4 HK2.out
    have f0 := HK2.out.frozen 0
    have f1 := HK2.out.frozen 1
    have f2 := HK2.out.frozen 2
    have f3 := HK2.out.frozen 3
    have HKZ := Lib.hid (set4W_blk HK2.out (.int .i64 t.kd) (.int .i64 t.n) (.int .i64 t.at_) (.string t.tx))
    have HOZ := Lib.hid (HO2.out.set4 hwg (.int .i64 t.kd) (.int .i64 t.n) (.int .i64 t.at_) (.string t.tx))
    have HX := Lib.hid (show Moved b A n c ts en (takeF ts en s kd).2 w (set4W W3 g2 (.int .i64 t.kd) (.int .i64 t.n) (.int .i64 t.at_) (.string t.tx)) from ⟨by rw [HE.out]; exact HR0.out.of (HR2.out.blk.far4 (show b ≠ g2 by omega) _ _ _ _) HOZ.out HR2.out.le, HOZ.out⟩)
    go_wp2_with fail
    obtain ⟨q0, q1, q2, q3⟩ := blk_cells4 HKZ.out
    have hx := HX.out
    unfold set4W at q0 q1 q2 q3 hx
    refine bodyPost_ret (v := .agg #[.int .i64 t.kd, .int .i64 t.n, .int .i64 t.at_, .string t.tx]) (by simp [results, Tryd.results69, go_sem, q0, q1, q2, q3]) rfl ?_
    exact ⟨by rw [HE.out]; rfl, hx⟩
  · have t1 : (t.kd != kd) = true := by rw [bne, beq_eq_false_iff_ne.2 h1]; rfl
    have HE := Lib.hid (show takeF ts en s kd = (zeroT, failF ts en s 1) by rw [HM.out, if_neg h1])
    have HF := Lib.hid (fail_any b A n c ts en s 1 W2 HR1.out)
    clear h1
    go_wp2_with fail
    (with_reducible refine HF.out.mono ?_); rintro e w3 ⟨rfl, hm⟩
    have HM3 := Lib.hid hm
    have HO3 := Lib.hid ((Only.of_below (b := b) HB1.out).trans hm.only)
    have HK3 := Lib.hid (HK1.out.only hm.only (show g2 ≠ b by omega))
    clear hm x0 x1 x2 x3 HR1 HB1 HK1 HT1 HF
    obtain ⟨y0, y1, y2, y3⟩ := blk_cells4 HK3.out
    have f0 := HK3.out.frozen 0
    have f1 := HK3.out.frozen 1
    have f2 := HK3.out.frozen 2
    have f3 := HK3.out.frozen 3
    have HKZ := Lib.hid (set4W_blk HK3.out (.int .i64 0) (.int .i64 0) (.int .i64 0) (.string ⟨#[]⟩))
    have HOZ := Lib.hid (HO3.out.set4 hwg (.int .i64 0) (.int .i64 0) (.int .i64 0) (.string ⟨#[]⟩))
    have HX := Lib.hid (show Moved b A n c ts en (takeF ts en s kd).2 w (set4W w3 g2 (.int .i64 0) (.int .i64 0) (.int .i64 0) (.string ⟨#[]⟩)) from ⟨by rw [HE.out]; exact HR0.out.of (HM3.out.rd.blk.far4 (show b ≠ g2 by omega) _ _ _ _) HOZ.out HM3.out.rd.le, HOZ.out⟩)
    go_wp2_with fail
    obtain ⟨q0, q1, q2, q3⟩ := blk_cells4 HKZ.out
    have hx := HX.out
    unfold set4W at q0 q1 q2 q3 hx
    refine bodyPost_ret (v := .agg #[.int .i64 0, .int .i64 0, .int .i64 0, .string ⟨#[]⟩]) (by simp [results, Tryd.results69, go_sem, q0, q1, q2, q3]) rfl ?_
    exact ⟨by rw [HE.out]; rfl, hx⟩
end Go.Proofs.YtnkbpcenkbihpaaDoor
