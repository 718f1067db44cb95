/- Texts, merged in one. -/
import Derived.Test.YtcaapbbbekggiaaGreatDoorBase2
import Derived.Test.YtcaapbbbekggiaaGreatDoorBase3
import Derived.Test.YtcaapbbbekggiaaGreatDoorBase
namespace Go.Proofs.YtcaapbbbekggiaaGreatDoor
open Go.ChangeShapes Go.WideShapes Go.ChangeAt Go.RowKit
set_option linter.unusedVariables false
set_option linter.unusedSimpArgs false
set_option maxRecDepth 100000
/-- Within pick: both boxes, the matchers so far. -/
structure PkAt (b : Nat) (A : Option Addr) (n c : Nat) (ts : List Tok) (en : Int) (s : PS) (w0 : World) (g2 g3 : Nat) (z : Int) (v : Value) (ms : List Mtc) (w : World) : Prop where
  rd : RdAt b A n c ts en s w
  only : Only b w0 w
  z_ : Blk w g2 26 [.int .i64 0, .int .i64 0, .slice none 0 0, .slice none 0 0, .slice none 0 0]
  x : Blk w g3 26 [.int .i64 2, .int .i64 z, v, .slice none 0 0, .slice none 0 0]
  row : w.ownsRow w0.heap.size 57 3 v ms.length (mtcs ms)
  ne : ∀ g, v.ownBlock = some g → g3 < g
  l2 : w0.heap.size ≤ g2
  l3 : g2 < g3
  lb : b < w0.heap.size
section
variable {b n c g2 g3 : Nat} {A : Option Addr} {ts : List Tok} {en : Int} {s s' : PS} {w0 w w' : World} {v v' : Value} {ms : List Mtc} {z : Int}
theorem PkAt.moved (h : PkAt b A n c ts en s w0 g2 g3 z v ms w) (hm : Moved b A n c ts en s' w w') : PkAt b A n c ts en s' w0 g2 g3 z v ms w' := by
  have h2 := h.l2; have h3 := h.l3; have hb := h.lb
  refine ⟨hm.rd, h.only.trans hm.only, h.z_.only hm.only (by omega), h.x.only hm.only (by omega), own_grown h.row hm.only.grown (fun g hg e => ?_), h.ne, h2, h3, hb⟩
  have := (h.row.lt g hg).1
  injection e with e; omega
theorem PkAt.below (h : PkAt b A n c ts en s w0 g2 g3 z v ms w) (hb : Below w.heap.size w w') : PkAt b A n c ts en s w0 g2 g3 z v ms w' := h.moved ⟨h.rd.below hb, Only.of_below hb⟩
/-- The matchers grown, and laid into the box. -/
theorem PkAt.push (h : PkAt b A n c ts en s w0 g2 g3 z v ms w) (h0 : RdAt b A n c ts en s' w0) {m : Mtc} (hown : w'.ownsRow w0.heap.size 57 3 v' (ms.length + 1) (mtcs ms ++ [.string m.1, .string m.2.1, .int .i64 m.2.2])) (hg : w.grownBy w' v.ownBlock) (hw : Where w v v') :
    PkAt b A n c ts en s w0 g2 g3 z v' (ms ++ [m]) (w'.setCell ⟨g3, 2, none⟩ v') := by
  have h2 := h.l2; have h3 := h.l3; have hb := h.lb
  have hr : ∀ g, v.ownBlock = some g → w0.heap.size ≤ g := fun g hg => (h.row.lt g hg).1
  have ho := h.only.of_grown hg hr
  have ho2 := ho.setNew (g := g3) (by omega) 2 v'
  have hne : ∀ g, v'.ownBlock = some g → g3 < g := fun g hg2 => by
    rcases hw with hw | hw
    · exact h.ne g (hw ▸ hg2)
    · have := hw g hg2; have := h.x.lt; omega
  have hbk : Blk w' b 103 [.slice A n c, .int .i64 s.p, .int .i64 en, .int .i64 s.fa, .int .i64 s.fe] := h.rd.blk.grown hg (fun e => by have := hr b e.symm; omega)
  refine ⟨h0.of (hbk.far (p := ⟨g3, 2, none⟩) (show b ≠ g3 by omega) _) ho2 h.rd.le, ho2, ?_, ?_, ?_, hne, h2, h3, hb⟩
  · exact (h.z_.grown hg (fun e => by have := h.ne g2 e.symm; omega)).far (p := ⟨g3, 2, none⟩) (show g2 ≠ g3 by omega) _
  · exact (h.x.grown hg (fun e => by have := h.ne g3 e.symm; omega)).set 2 v'
  · have e : mtcs (ms ++ [m]) = mtcs ms ++ [.string m.1, .string m.2.1, .int .i64 m.2.2] := by rw [mtcs_append]; rfl
    rw [List.length_append, e]
    exact own_grown hown (only_setCell (World.grownBy.refl w' (some g3)) (p := ⟨g3, 2, none⟩) (.inl rfl) v') (fun g hg2 e => by have := hne g hg2; injection e with e; omega)
theorem PkAt.num (h : PkAt b A n c ts en s w0 g2 g3 z v ms w) (h0 : RdAt b A n c ts en s' w0) (y : Int) : PkAt b A n c ts en s w0 g2 g3 y v ms (w.setCell ⟨g3, 1, none⟩ (.int .i64 y)) := by
  have h2 := h.l2; have h3 := h.l3; have hb := h.lb
  have ho2 := h.only.setNew (g := g3) (by omega) 1 (.int .i64 y)
  exact ⟨h0.of (h.rd.blk.far (p := ⟨g3, 1, none⟩) (show b ≠ g3 by omega) _) ho2 h.rd.le, ho2, h.z_.far (p := ⟨g3, 1, none⟩) (show g2 ≠ g3 by omega) _, h.x.set 1 _, own_grown h.row (only_setCell (World.grownBy.refl w (some g3)) (p := ⟨g3, 1, none⟩) (.inl rfl) _) (fun g hg2 e => by have := h.ne g hg2; injection e with e; omega), h.ne, h2, h3, hb⟩
end
theorem round_left {ts : List Tok} {en : Int} {s : PS} {n : Nat} (hl : ts.length = n) (hp : s.p ≤ n) (hf : s.fe = 0) (q : Bool) : (matcherF ts en (if q = true then s else mustF ts en s 4 ⟨#[44]⟩)).2.p ≤ n ∧ leftF n (matcherF ts en (if q = true then s else mustF ts en s 4 ⟨#[44]⟩)).2 < leftF n s := by
  cases q with
  | true =>
    rw [if_pos rfl]
    have h := step_matcher (en := en) hl hp
    exact ⟨h.1.1, h.2 hf⟩
  | false =>
    rw [if_neg (by simp)]
    have h1 := step_must (en := en) hl hp (kd := 4) (by decide) ⟨#[44]⟩
    have h := step_matcher (en := en) hl h1.1
    refine ⟨h.1.1, Nat.lt_of_le_of_lt h.1.2 ?_⟩
    unfold mustF
    by_cases hq : isF ts s 4 ⟨#[44]⟩ = true
    · rw [if_pos hq]
      exact leftF_next n s hf (by have := (isF_lt (by decide) hq).2; omega)
    · rw [if_neg hq, leftF_fail ts en s n 1 (by decide) hp]
      have := leftF_zero n s hf hp
      omega
def readPickF (ts : List Tok) (en : Int) (n : Nat) (s : PS) : (List Mtc × Int) × PS :=
  let r := msF ts en (n + 2) [] (mustF ts en s 4 ⟨#[123]⟩)
  let t := takeF ts en (mustF ts en r.2 4 ⟨#[91]⟩) 1
  ((r.1, t.1.n), mustF ts en t.2 4 ⟨#[93]⟩)
end Go.Proofs.YtcaapbbbekggiaaGreatDoor

namespace Go.Proofs.YtcaapbbbekggiaaGreatDoor
open Go.ChangeShapes Go.WideShapes Go.ChangeAt Go.RowKit
set_option linter.unusedVariables false
set_option linter.unusedSimpArgs false
set_option maxRecDepth 100000
/-- An expression as it is read: with no word of memory. -/
inductive PE where
  | mk (kd n : Int) (ms : List Mtc) (ns : List ByteArray) (kids : List PE)
mutual
def XE.pe : XE → PE
  | .mk k n _ ms _ ns _ ks => .mk k n ms ns (pesX ks)
def pesX : List XE → List PE
  | [] => []
  | x :: l => x.pe :: pesX l
end
/-- A reader's answer that is an expression: it lies in memory made since. -/
def XAns (b : Nat) (A : Option Addr) (n c : Nat) (ts : List Tok) (en : Int) (d : Nat) (r : PE × PS) (w : World) (e : Ending) (w' : World) : Prop :=
  ∃ x : XE, x.pe = r.1 ∧ e = .returned x.val ∧ FarS (fun q => q < w.heap.size) (okX d x) w' ∧ Moved b A n c ts en r.2 w w'
theorem okX_floors {w : World} {d : Nat} {x : XE} (h : okX d x w) (k : Nat) : okX (d + k) x w := by
  induction k with
  | zero => exact h
  | succ k ih => exact okX_more _ _ ih
theorem XAns.floors {b n c d : Nat} {A : Option Addr} {ts : List Tok} {en : Int} {r : PE × PS} {w w' : World} {e : Ending} (h : XAns b A n c ts en d r w e w') (k : Nat) : XAns b A n c ts en (d + k) r w e w' := by
  obtain ⟨x, h1, h2, h3, h4⟩ := h
  exact ⟨x, h1, h2, fun V hs hk => okX_floors (h3 V hs hk) k, h4⟩
theorem XAns.forms {b n c d : Nat} {A : Option Addr} {ts : List Tok} {en : Int} {r : PE × PS} {w w' : World} {e : Ending} (h : XAns b A n c ts en d r w e w') :
    ∃ (xk xn : Int) (A1 : Option Addr) (c1 : Nat) (ms : List Mtc) (A2 : Option Addr) (c2 : Nat) (ns : List ByteArray) (A3 : Option Addr) (c3 : Nat) (ks : List XE),
      e = .returned (.agg #[.int .i64 xk, .int .i64 xn, .slice A1 ms.length c1, .slice A2 ns.length c2, .slice A3 ks.length c3]) ∧
      (XE.mk xk xn (.slice A1 ms.length c1) ms (.slice A2 ns.length c2) ns (.slice A3 ks.length c3) ks).pe = r.1 ∧
      FarS (fun q => q < w.heap.size) (okX d (.mk xk xn (.slice A1 ms.length c1) ms (.slice A2 ns.length c2) ns (.slice A3 ks.length c3) ks)) w' ∧ Moved b A n c ts en r.2 w w' := by
  obtain ⟨⟨xk, xn, xmv, xms, xnv, xns, xkv, xks⟩, h1, h2, h3, h4⟩ := h
  obtain ⟨A1, c1, A2, c2, A3, c3, e1, e2, e3⟩ := okX_forms h3.now
  simp only [XE.mv, XE.nv, XE.kv, XE.ms, XE.ns, XE.kids] at e1 e2 e3
  subst e1; subst e2; subst e3
  exact ⟨xk, xn, A1, c1, xms, A2, c2, xns, A3, c3, xks, h2, h1, h3, h4⟩
def pickR (ts : List Tok) (en : Int) (n : Nat) (s : PS) : PE × PS := (.mk 2 (readPickF ts en n s).1.2 (readPickF ts en n s).1.1 [] [], (readPickF ts en n s).2)
theorem PkAt.ans {b n c g2 g3 : Nat} {A : Option Addr} {ts : List Tok} {en : Int} {s s' : PS} {w0 w : World} {v : Value} {ms : List Mtc} {z : Int} (h : PkAt b A n c ts en s w0 g2 g3 z v ms w) (h0 : RdAt b A n c ts en s' w0) :
    XAns b A n c ts en 1 (.mk 2 z ms [] [], s) w0 (.returned (.agg #[.int .i64 2, .int .i64 z, v, .slice none 0 0, .slice none 0 0])) (set5W w g2 (.int .i64 2) (.int .i64 z) v (.slice none 0 0) (.slice none 0 0)) := by
  have h2 := h.l2; have h3 := h.l3; have hb := h.lb
  have hbg : b ≠ g2 := by omega
  have hg := set5W_grown w g2 (.int .i64 2) (.int .i64 z) v (.slice none 0 0) (.slice none 0 0)
  have ho : Only b w0 (set5W w g2 (.int .i64 2) (.int .i64 z) v (.slice none 0 0) (.slice none 0 0)) := h.only.of_grown hg (fun g e => by injection e with e; omega)
  have hrow := own_grown h.row hg (fun g hg2 e => by have := h.ne g hg2; injection e with e; omega)
  refine ⟨.mk 2 z v ms (.slice none 0 0) [] (.slice none 0 0) [], rfl, rfl, okX_far (FarS.own hrow (fun g hg2 e => by have := (hrow.lt g hg2).1; omega)) (FarS.nil 1) (FarS.nil 5) (fun x hx => absurd hx List.not_mem_nil), h0.of (h.rd.blk.grown hg (fun e => by injection e with e; omega)) ho h.rd.le, ho⟩
set_option maxHeartbeats 4000000 in
theorem pick_x (b : Nat) (A : Option Addr) (n c : Nat) (ts : List Tok) (en : Int) (s : PS) (w : World) (h : RdAt b A n c ts en s w) (hn : n ≤ 1000000) :
    Calls Tryz.prog 83 #[.pointer (some ⟨b, 0, none⟩)] w fun e w' => XAns b A n c ts en 1 (pickR ts en n s) w e w' := by
  unfold pickR
  have HR0 := Lib.hid h
  have HLEN := Lib.hid h.len
  have hbw : b < w.heap.size := h.blk.lt
  obtain ⟨i0, hi0, hz0, hz1, hz2⟩ := info_parts Tryz.infoMtc5
  have HMU := Lib.hid (must_any b A n c ts en s 4 ⟨#[123]⟩ ((w.alloc (.cells #[.int .i64 0, .int .i64 0, .slice none 0 0, .slice none 0 0, .slice none 0 0] 26)).alloc (.cells #[.int .i64 2, .int .i64 0, .slice none 0 0, .slice none 0 0, .slice none 0 0] 26)) ((h.alloc _).alloc _) (by decide) hn)
  have HP0 : Hid (PkAt b A n c ts en s w w.heap.size (w.heap.size + 1) 0 (.slice none 0 0) [] ((w.alloc (.cells #[.int .i64 0, .int .i64 0, .slice none 0 0, .slice none 0 0, .slice none 0 0] 26)).alloc (.cells #[.int .i64 2, .int .i64 0, .slice none 0 0, .slice none 0 0, .slice none 0 0] 26))) := Lib.hid ⟨(h.alloc _).alloc _, ((Only.of_below (Below.refl w.heap.size w)).alloc _).alloc _, (Blk.mk (heap_alloc_new w _)).alloc _, by have hh := (Blk.mk (heap_alloc_new (w.alloc (.cells #[.int .i64 0, .int .i64 0, .slice none 0 0, .slice none 0 0, .slice none 0 0] 26)) (.cells #[.int .i64 2, .int .i64 0, .slice none 0 0, .slice none 0 0, .slice none 0 0] 26)) : Blk _ (w.alloc (.cells #[.int .i64 0, .int .i64 0, .slice none 0 0, .slice none 0 0, .slice none 0 0] 26)).heap.size 26 [.int .i64 2, .int .i64 0, .slice none 0 0, .slice none 0 0, .slice none 0 0]); simpa using hh, own_nil _ _ _ _, (fun g hg => by cases hg), Nat.le_refl _, Nat.lt_succ_self _, hbw⟩
  have HMF : Hid (∃ s1 mE sE t1 s2 s3, mustF ts en s 4 ⟨#[123]⟩ = s1 ∧ msF ts en (n + 2) [] s1 = (mE, sE) ∧ takeF ts en (mustF ts en sE 4 ⟨#[91]⟩) 1 = (t1, s2) ∧ mustF ts en s2 4 ⟨#[93]⟩ = s3 ∧ readPickF ts en n s = ((mE, t1.n), s3)) := Lib.hid ⟨_, _, _, _, _, _, rfl, rfl, rfl, rfl, rfl⟩
  obtain ⟨s1, mE, sE, t1, s2, s3, e1, e2, e3, e4, e5⟩ := HMF.out
  rw [e1] at HMU
  rw [e5]
  have HMS := Lib.hid e2; have HTK := Lib.hid e3; have HM3 := Lib.hid e4
  clear h e1 e2 e3 e4 e5 HMF
  have HG := Lib.hid (show ∃ g, w.heap.size = g from ⟨_, rfl⟩)
  have HG3 := Lib.hid (show ∃ g, w.heap.size + 1 = g from ⟨_, rfl⟩)
  go_enter Tryz.func83, Tryz.ntmps83
  go_upto_region 2 with fail
  obtain ⟨g3, hg3'⟩ := HG3.out
  obtain ⟨g2, hg2'⟩ := HG.out
  rw [hg3'] at HP0 ⊢
  rw [hg2'] at HP0 ⊢
  clear HG HG3
  generalize (w.alloc (.cells #[.int .i64 0, .int .i64 0, .slice none 0 0, .slice none 0 0, .slice none 0 0] 26)).alloc (.cells #[.int .i64 2, .int .i64 0, .slice none 0 0, .slice none 0 0, .slice none 0 0] 26) = W2 at *
  go_wp2_with fail
  (with_reducible refine HMU.out.mono ?_); rintro e w1 ⟨rfl, hm1⟩
  have HP1 := Lib.hid (HP0.out.moved hm1)
  clear hm1 HMU HP0
  go_upto_block 0 with fail
  go_cut [] from 7 to 30 (fun wx => ∃ v, PkAt b A n c ts en sE w g2 g3 0 v mE wx)
  case first =>
    go_wp2_with fail
    go_loopg [] (n + 2) (fun g wr => ∃ (s' : PS) (ms : List Mtc) (v : Value), leftF n s' ≤ g ∧ ms.length + leftF n s' ≤ n + 2 ∧ msF ts en g ms s' = (mE, sE) ∧ PkAt b A n c ts en s' w g2 g3 0 v ms wr)
    case atStart => exact ⟨s1, [], .slice none 0 0, by unfold leftF; split <;> omega, by unfold leftF; simp only [List.length_nil]; split <;> omega, HMS.out, HP1.out⟩
    case round =>
      obtain ⟨s', ms, v, hfu, hml, hms, hat⟩ := hrel
      have HF := Lib.hid hms; have HA := Lib.hid hat
      have HFU := Lib.hid hfu; have HML := Lib.hid hml
      have HLE := Lib.hid hat.rd.le
      clear hms hat hfu hml HMS HP1
      cases gk with
      | zero => exact absurd HFU.out (by have := leftF_pos n s' HLE.out; omega)
      | succ g =>
        obtain ⟨c0, c1, c2, c3, c4⟩ := HA.out.rd.cells
        by_cases hfe : s'.fe = 0
        · have t1 : (s'.fe == 0) = true := by rw [hfe]; rfl
          cases hq : isF ts s' 4 ⟨#[125]⟩ with
          | true =>
            have HE := Lib.hid (show (ms, nextF s') = (mE, sE) by rw [← HF.out]; unfold msF; rw [if_pos hfe, if_pos hq])
            have HS := Lib.hid (skip_yes (tx := ⟨#[125]⟩) HA.out.rd (show (4 : Int) ≠ 0 by decide) hn hq)
            clear hq hfe HF
            go_wp2_with fail
            (with_reducible refine HS.out.mono ?_); rintro e w5 ⟨rfl, hm⟩
            have HX := Lib.hid (HA.out.moved hm)
            clear hm
            go_wp2_with fail
            go_meet
            have he := HE.out
            injection he with he1 he2
            rw [← he1, ← he2]; exact ⟨v, HX.out⟩
          | false =>
            have HS := Lib.hid (skip_no (tx := ⟨#[125]⟩) HA.out.rd (show (4 : Int) ≠ 0 by decide) hn hq)
            have HF2 : Hid (∃ s2 : PS, (if ms.length = 0 then s' else mustF ts en s' 4 ⟨#[44]⟩) = s2 ∧ msF ts en g (ms ++ [(matcherF ts en s2).1]) (matcherF ts en s2).2 = (mE, sE) ∧ (matcherF ts en s2).2.p ≤ n ∧ leftF n (matcherF ts en s2).2 < leftF n s') := Lib.hid ⟨_, rfl, by rw [← HF.out]; conv => rhs; unfold msF; rw [if_pos hfe, if_neg (by rw [hq]; simp)], by simpa using round_left (en := en) HLEN.out HLE.out hfe (decide (ms.length = 0))⟩
            obtain ⟨sx, hsx, hmx, hpx, hlx⟩ := HF2.out
            have HSX := Lib.hid hsx; have HMX := Lib.hid hmx; have HPX := Lib.hid hpx; have HLX := Lib.hid hlx
            obtain ⟨Av, cv, hv, _, _⟩ := own_slice HA.out.row
            subst hv
            clear hq hfe HF HF2 hsx hmx hpx hlx
            go_wp2_with fail
            (with_reducible refine HS.out.mono ?_); rintro e w5 ⟨rfl, hm⟩
            have HA2 := Lib.hid (HA.out.moved hm)
            clear hm HS HA c0 c1 c2 c3 c4
            obtain ⟨x0, x1, x2, x3, x4⟩ := blk_cells5 HA2.out.x
            obtain ⟨p5, hp5⟩ : ∃ p, decide (0 < ms.length) = p := ⟨_, rfl⟩
            have HPP := Lib.hid hp5
            go_upto_if 21 with fail
            clear hp5
            go_cut [] from 22 to 23 (fun wx => PkAt b A n c ts en sx w g2 g3 0 (.slice Av ms.length cv) ms wx)
            case first =>
              cases p5 with
              | false =>
                have h0 : ms.length = 0 := by have := of_decide_eq_false HPP.out; omega
                have HE := Lib.hid (show s' = sx by rw [← HSX.out, if_pos h0])
                clear h0
                go_wp2_with fail
                go_meet
                rw [← HE.out]; exact HA2.out
              | true =>
                have h0 : ¬ ms.length = 0 := by have := of_decide_eq_true HPP.out; omega
                have HE := Lib.hid (show mustF ts en s' 4 ⟨#[44]⟩ = sx by rw [← HSX.out, if_neg h0])
                have HM := Lib.hid (must_any b A n c ts en s' 4 ⟨#[44]⟩ _ HA2.out.rd (by decide) hn)
                rw [HE.out] at HM
                clear h0
                go_wp2_with fail
                (with_reducible refine HM.out.mono ?_); rintro e w6 ⟨rfl, hm⟩
                have HX := Lib.hid (HA2.out.moved hm)
                clear hm
                go_wp2_with fail
                go_meet
                exact HX.out
            case rest =>
              have HA3 := Lib.hid hcut
              clear hcut HA2 x0 x1 x2 x3 x4
              obtain ⟨m, sN, hmN⟩ : ∃ m sN, matcherF ts en sx = (m, sN) := ⟨_, _, rfl⟩
              have HMX2 := Lib.hid (show msF ts en g (ms ++ [m]) sN = (mE, sE) by have h := HMX.out; rw [hmN] at h; exact h)
              have HLX2 := Lib.hid (show leftF n sN < leftF n s' by have h := HLX.out; rw [hmN] at h; exact h)
              have HMT := Lib.hid (fun V (hV : RdAt b A n c ts en sx V) => by have h := matcher_x b A n c ts en sx V hV hn; rw [hmN] at h; exact h)
              clear HMX HLX HPX hmN
              go_upto_region 6 with fail
              obtain ⟨D, hD⟩ : ∃ D, wc.drew = D := ⟨_, rfl⟩
              have HAD := Lib.hid (show PkAt b A n c ts en sx w g2 g3 0 (.slice Av ms.length cv) ms D by rw [← hD]; exact HA3.out.below (Below.refl _ _).drew)
              obtain ⟨x0, x1, x2, x3, x4⟩ := blk_cells5 HAD.out.x
              have hbs0 : w.heap.size ≤ D.heap.size := HAD.out.only.size
              have tok1 : True := trivial
              have tok2 : True := trivial
              clear HA3 x0 x1 x3 x4
              go_region_law (first
                | (have tk := tok1; (try go_simp); go_at_call 95; (with_reducible refine (HMT.out _ HAD.out.rd).mono ?_); rintro e wm ⟨rfl, hm⟩; have HAM := Lib.hid (HAD.out.moved hm); have HAB := Lib.hid (HAM.out.below ((Below.refl wm.heap.size wm).alloc (Nat.le_refl _) (.cells #[.string m.1, .string m.2.1, .int .i64 m.2.2] 57))); have y2 := (blk_cells5 HAM.out.x).2.2.1; have z2 := (blk_cells5 HAB.out.x).2.2.1; have HX := Lib.hid (show Sees (wm.alloc (.cells #[.string m.1, .string m.2.1, .int .i64 m.2.2] 57)) (wm.alloc (.cells #[.string m.1, .string m.2.1, .int .i64 m.2.2] 57)).heap.size 3 (some ⟨wm.heap.size, 0, none⟩) 1 [.string m.1, .string m.2.1, .int .i64 m.2.2] from (Blk.mk (heap_alloc_new wm _) : Blk _ wm.heap.size 57 [.string m.1, .string m.2.1, .int .i64 m.2.2]).sees rfl (List.prefix_refl _)); have hbs : w.heap.size ≤ (wm.alloc (.cells #[.string m.1, .string m.2.1, .int .i64 m.2.2] 57)).heap.size := HAB.out.only.size; clear tok1 tk hm)
                | (have tk := tok2; refine step_append_at3 rfl (.tmp 25) (.tmp 28) 22 rfl w.heap.size 57 i0 (.agg #[.string ⟨#[]⟩, .string ⟨#[]⟩, .int .i64 0]) 3 40 Tryz.underlying22 hi0 hz0 hz1 hz2 rfl (by decide) (.slice Av ms.length cv) ms.length (mtcs ms) (by first | rfl | (simp [Act.eval]; done)) HAB.out.row _ _ 1 1 [.string m.1, .string m.2.1, .int .i64 m.2.2] (by first | rfl | (simp [Act.eval]; done)) HX.out (mtc_one3 _ _ _) (by have := HML.out; unfold maxLen; omega) (by have := HML.out; omega) hbs ?_; intro v9 w9 hown9 hgr9 hwh9; obtain ⟨A9, c9, hA9, _, _⟩ := own_slice hown9; subst hA9; have HPU := Lib.hid (HAB.out.push HR0.out hown9 hgr9 hwh9); have hne9 : ∀ q, (Value.slice Av ms.length cv).ownBlock = some q → g3 < q := HAB.out.ne; have HXB := Lib.hid (HAB.out.x.grown hgr9 (fun e => by have := hne9 g3 e.symm; omega)); have f9 := HXB.out.frozen 2; have y9 := HXB.out.cell 2; clear tok2 tk hown9 hgr9 hwh9)
                | fail)
              all_goals
                clear HAD HAM HAB HX x2 y2 z2 hbs
                go_wp2_with fail
                go_roundg g
                case measure => omega
                case rel =>
                  have h1 := HLX2.out; have h2 := HFU.out; have h3 := HML.out
                  exact ⟨sN, ms ++ [m], _, by omega, by rw [List.length_append, List.length_singleton]; omega, HMX2.out, HPU.out⟩
        · have t1 : (s'.fe == 0) = false := by rw [beq_eq_false_iff_ne]; exact hfe
          have HE := Lib.hid (show (ms, s') = (mE, sE) by rw [← HF.out]; unfold msF; rw [if_neg hfe])
          clear hfe HF
          go_wp2_with fail
          go_meet
          have he := HE.out
          injection he with he1 he2
          rw [← he1, ← he2]; exact ⟨v, HA.out⟩
  case rest =>
    obtain ⟨v, hat⟩ := hcut
    obtain ⟨Av, cv, hv, _, _⟩ := own_slice hat.row
    subst hv
    have HA := Lib.hid hat
    have HM1 := Lib.hid (must_any b A n c ts en sE 4 ⟨#[91]⟩ _ hat.rd (by decide) hn)
    obtain ⟨s5, hs5⟩ : ∃ q, mustF ts en sE 4 ⟨#[91]⟩ = q := ⟨_, rfl⟩
    rw [hs5] at HM1
    have HTK2 := Lib.hid (show takeF ts en s5 1 = (t1, s2) by rw [← hs5]; exact HTK.out)
    clear hat hs5 HTK HP1 HMS
    go_wp2_with fail
    (with_reducible refine HM1.out.mono ?_); rintro e w5 ⟨rfl, hm⟩
    have HA1 := Lib.hid (HA.out.moved hm)
    have HT := Lib.hid (take_any b A n c ts en s5 1 _ hm.rd (by decide) hn)
    rw [HTK2.out] at HT
    unfold Tok.val at HT
    clear hm HM1 HA
    go_wp2_with fail
    (with_reducible refine HT.out.mono ?_); rintro e w6 ⟨rfl, hm⟩
    have HA2 := Lib.hid (HA1.out.moved hm)
    clear hm HT HA1
    obtain ⟨x0, x1, x2, x3, x4⟩ := blk_cells5 HA2.out.x
    obtain ⟨f0, f1, f2, f3, f4⟩ := blk_fr5 HA2.out.x
    have HA3 := Lib.hid (HA2.out.num HR0.out t1.n)
    go_upto_region 9 with fail
    generalize w6.setCell ⟨g3, 1, none⟩ (.int .i64 t1.n) = W6 at *
    clear x0 x1 x2 x3 x4 f0 f1 f2 f3 f4 HA2
    have HM4 := Lib.hid (must_any b A n c ts en s2 4 ⟨#[93]⟩ _ HA3.out.rd (by decide) hn)
    rw [HM3.out] at HM4
    go_wp2_with fail
    (with_reducible refine HM4.out.mono ?_); rintro e w7 ⟨rfl, hm⟩
    have HA4 := Lib.hid (HA3.out.moved hm)
    clear hm HM4 HA3
    obtain ⟨x0, x1, x2, x3, x4⟩ := blk_cells5 HA4.out.x
    obtain ⟨z0, z1, z2, z3, z4⟩ := blk_cells5 HA4.out.z_
    obtain ⟨f0, f1, f2, f3, f4⟩ := blk_fr5 HA4.out.z_
    have HQ := Lib.hid (set5W_blk HA4.out.z_ (.int .i64 2) (.int .i64 t1.n) (.slice Av mE.length cv) (.slice none 0 0) (.slice none 0 0))
    have HANS := Lib.hid (HA4.out.ans HR0.out)
    go_wp2_with fail
    obtain ⟨q0, q1, q2, q3, q4⟩ := blk_cells5 HQ.out
    unfold set5W at q0 q1 q2 q3 q4
    refine bodyPost_ret (v := .agg #[.int .i64 2, .int .i64 t1.n, .slice Av mE.length cv, .slice none 0 0, .slice none 0 0]) (by simp [results, Tryz.results83, go_sem, q0, q1, q2, q3, q4]) rfl ?_
    exact HANS.out
end Go.Proofs.YtcaapbbbekggiaaGreatDoor

namespace Go.Proofs.YtcaapbbbekggiaaGreatDoor
open Go.ChangeShapes Go.WideShapes Go.ChangeAt Go.RowKit
set_option linter.unusedVariables false
set_option linter.unusedSimpArgs false
set_option maxRecDepth 100000
/-- Names up to the bracket. -/
def nsF (ts : List Tok) (en : Int) : Nat → List ByteArray → PS → List ByteArray × PS
  | 0, ns, s => (ns, s)
  | f + 1, ns, s => if s.fe = 0 then (if isF ts s 4 ⟨#[41]⟩ = true then (ns, nextF s) else
      nsF ts en f (ns ++ [(takeF ts en (if ns.length = 0 then s else mustF ts en s 4 ⟨#[44]⟩) 2).1.tx]) (takeF ts en (if ns.length = 0 then s else mustF ts en s 4 ⟨#[44]⟩) 2).2) else (ns, s)
def ofOneF (ts : List Tok) (en : Int) (n : Nat) (rec : PS → PE × PS) (k : Int) (s : PS) : PE × PS :=
  let r := nsF ts en (n + 2) [] (mustF ts en (mustF ts en (takeF ts en s 2).2 2 ⟨#[98, 121]⟩) 4 ⟨#[40]⟩)
  let y := rec (mustF ts en r.2 4 ⟨#[40]⟩)
  (.mk k 0 [] r.1 [y.1], mustF ts en y.2 4 ⟨#[41]⟩)
def ofTwoF (ts : List Tok) (en : Int) (rec : PS → PE × PS) (s : PS) : PE × PS :=
  let y := rec (mustF ts en s 4 ⟨#[40]⟩)
  let k := betweenF ts en y.2
  let z := rec k.2
  (.mk k.1 0 [] [] [y.1, z.1], mustF ts en z.2 4 ⟨#[41]⟩)
def zeroPE : PE := .mk 0 0 [] [] []
/-- A token that begins no expression. -/
def noneF (ts : List Tok) (s : PS) : Bool := (peekF ts s).kd != 1 && kindF (peekF ts s) == 0 && !(isF ts s 4 ⟨#[123]⟩) && !(isF ts s 4 ⟨#[40]⟩)
/-- An expression of at most so many floors. -/
def exprF (ts : List Tok) (en : Int) (n : Nat) : Nat → PS → PE × PS
  | 0, s => if noneF ts s = true then (zeroPE, failF ts en s 1) else (zeroPE, failF ts en s 6)
  | f + 1, s => if noneF ts s = true then (zeroPE, failF ts en s 1)
    else if (peekF ts s).kd = 1 then (.mk 1 (takeF ts en s 1).1.n [] [] [], (takeF ts en s 1).2)
    else if kindF (peekF ts s) ≠ 0 then ofOneF ts en n (exprF ts en n f) (kindF (peekF ts s)) s
    else if isF ts s 4 ⟨#[123]⟩ = true then pickR ts en n s
    else ofTwoF ts en (exprF ts en n f) s
/-- What is told of expr at so many floors. -/
def ExprSaid (b : Nat) (A : Option Addr) (n c : Nat) (ts : List Tok) (en : Int) (f : Nat) : Prop :=
  ∀ (deep : Nat) (s : PS) (w : World), deep + f = 9 → RdAt b A n c ts en s w →
    Calls Tryz.prog 66 #[.pointer (some ⟨b, 0, none⟩), .int .i64 (deep : Nat)] w fun e w' => XAns b A n c ts en (f + 1) (exprF ts en n f s) w e w'
theorem two_ans {b n c d g4 gx gy sx sy : Nat} {A : Option Addr} {ts : List Tok} {en : Int} {s s' : PS} {w0 w : World} {x y : XE} (kk : Int)
    (h0 : RdAt b A n c ts en s' w0) (h : Moved b A n c ts en s w0 w) (hz : Blk w g4 26 [.int .i64 0, .int .i64 0, .slice none 0 0, .slice none 0 0, .slice none 0 0])
    (hx : Kid d sx gx x w) (hy : Kid d sy gy y w) (h4 : w0.heap.size ≤ g4) (hsx : g4 < sx) (hsy : g4 < sy) :
    XAns b A n c ts en (d + 1) (.mk kk 0 [] [] [x.pe, y.pe], s) w0 (.returned (pairX kk w.heap.size x y).val) (set5W (w.alloc (.cells #[.int .i64 x.kd, .int .i64 x.n, x.mv, x.nv, x.kv, .int .i64 y.kd, .int .i64 y.n, y.mv, y.nv, y.kv] 26)) g4 (.int .i64 kk) (.int .i64 0) (.slice none 0 0) (.slice none 0 0) (.slice (some ⟨w.heap.size, 0, none⟩) 2 2)) := by
  have hb := h0.blk.lt
  have hl4 := hz.lt
  have hsz := h.only.size
  have hg1 : w.grownBy (w.alloc (.cells #[.int .i64 x.kd, .int .i64 x.n, x.mv, x.nv, x.kv, .int .i64 y.kd, .int .i64 y.n, y.mv, y.nv, y.kv] 26)) (some g4) := only_alloc (World.grownBy.refl w _) _
  have hg2 := set5W_grown (w.alloc (.cells #[.int .i64 x.kd, .int .i64 x.n, x.mv, x.nv, x.kv, .int .i64 y.kd, .int .i64 y.n, y.mv, y.nv, y.kv] 26)) g4 (.int .i64 kk) (.int .i64 0) (.slice none 0 0) (.slice none 0 0) (.slice (some ⟨w.heap.size, 0, none⟩) 2 2)
  have ho : Only b w0 (w.alloc (.cells #[.int .i64 x.kd, .int .i64 x.n, x.mv, x.nv, x.kv, .int .i64 y.kd, .int .i64 y.n, y.mv, y.nv, y.kv] 26)) := h.only.alloc _
  have ho2 : Only b w0 (set5W (w.alloc (.cells #[.int .i64 x.kd, .int .i64 x.n, x.mv, x.nv, x.kv, .int .i64 y.kd, .int .i64 y.n, y.mv, y.nv, y.kv] 26)) g4 (.int .i64 kk) (.int .i64 0) (.slice none 0 0) (.slice none 0 0) (.slice (some ⟨w.heap.size, 0, none⟩) 2 2)) := ho.of_grown hg2 (fun g e => by injection e with e; omega)
  have hrd := (h.rd.alloc (.cells #[.int .i64 x.kd, .int .i64 x.n, x.mv, x.nv, x.kv, .int .i64 y.kd, .int .i64 y.n, y.mv, y.nv, y.kv] 26)).blk.grown hg2 (fun e => by injection e with e; omega)
  have hbk : Blk (w.alloc (.cells #[.int .i64 x.kd, .int .i64 x.n, x.mv, x.nv, x.kv, .int .i64 y.kd, .int .i64 y.n, y.mv, y.nv, y.kv] 26)) w.heap.size 26 (kcells [x, y]) := Blk.mk (heap_alloc_new w _)
  have hbk2 := hbk.grown hg2 (fun e => by injection e with e; omega)
  have k1 := (hx.grown hg1 hsx).grown hg2 hsx
  have k2 := (hy.grown hg1 hsy).grown hg2 hsy
  refine ⟨pairX kk w.heap.size x y, rfl, rfl, okX_far (FarS.nil 3) (FarS.nil 1) (FarS.slc (n := 2) (size := 5) hbk2 (by omega) rfl (by omega)) (fun q hq => ?_), h0.of hrd ho2 h.rd.le, ho2⟩
  rw [List.mem_cons, List.mem_singleton] at hq
  rcases hq with rfl | rfl
  · exact k1.far.mono (fun q _ hq => by omega)
  · exact k2.far.mono (fun q _ hq => by omega)
end Go.Proofs.YtcaapbbbekggiaaGreatDoor

namespace Go.Proofs.YtcaapbbbekggiaaGreatDoor
open Go.ChangeShapes Go.WideShapes Go.ChangeAt Go.RowKit
set_option linter.unusedVariables false
set_option linter.unusedSimpArgs false
set_option maxRecDepth 100000
set_option maxHeartbeats 4000000 in
theorem two_x (b : Nat) (A : Option Addr) (n c : Nat) (ts : List Tok) (en : Int) (f : Nat) (IH : ExprSaid b A n c ts en f) (hn : n ≤ 1000000) (deep : Nat) (s : PS) (w : World) (hd : deep + (f + 1) = 9) (h : RdAt b A n c ts en s w) :
    Calls Tryz.prog 84 #[.pointer (some ⟨b, 0, none⟩), .int .i64 (deep : Nat)] w fun e w' => XAns b A n c ts en (f + 2) (ofTwoF ts en (exprF ts en n f) s) w e w' := by
  have HR0 := Lib.hid h
  have hbw : b < w.heap.size := h.blk.lt
  have HIH := Lib.hid IH
  have hde : IntKind.i64.wrap ((deep : Int) + 1) = (deep : Int) + 1 := by rw [IntKind.wrap_i64]; omega
  have HD := Lib.hid hd
  have HMU := Lib.hid (must_any b A n c ts en s 4 ⟨#[40]⟩ (w.alloc (.cells #[.int .i64 0, .int .i64 0, .slice none 0 0, .slice none 0 0, .slice none 0 0] 26)) (h.alloc _) (by decide) hn)
  have HZ0 := Lib.hid (Blk.mk (heap_alloc_new w (.cells #[.int .i64 0, .int .i64 0, .slice none 0 0, .slice none 0 0, .slice none 0 0] 26)) : Blk _ w.heap.size 26 [.int .i64 0, .int .i64 0, .slice none 0 0, .slice none 0 0, .slice none 0 0])
  have HM0 : Hid (Only b w (w.alloc (.cells #[.int .i64 0, .int .i64 0, .slice none 0 0, .slice none 0 0, .slice none 0 0] 26))) := Lib.hid ((Only.refl b w).alloc _)
  have HFF : Hid (∃ s1 t1 s2 k s3 t2 s4 s5, mustF ts en s 4 ⟨#[40]⟩ = s1 ∧ exprF ts en n f s1 = (t1, s2) ∧ betweenF ts en s2 = (k, s3) ∧ exprF ts en n f s3 = (t2, s4) ∧ mustF ts en s4 4 ⟨#[41]⟩ = s5 ∧ ofTwoF ts en (exprF ts en n f) s = (.mk k 0 [] [] [t1, t2], s5)) := Lib.hid ⟨_, _, _, _, _, _, _, _, rfl, rfl, rfl, rfl, rfl, rfl⟩
  obtain ⟨s1, t1, s2, k, s3, t2, s4, s5, e1, e2, e3, e4, e5, e6⟩ := HFF.out
  rw [e1] at HMU
  rw [e6]
  have E2 := Lib.hid e2; have E3 := Lib.hid e3; have E4 := Lib.hid e4; have E5 := Lib.hid e5
  clear h e1 e2 e3 e4 e5 e6 HFF IH hd
  have HG := Lib.hid (show ∃ g, w.heap.size = g from ⟨_, rfl⟩)
  go_enter Tryz.func84, Tryz.ntmps84
  go_upto_region 1 with fail
  obtain ⟨g4, hg4⟩ := HG.out
  rw [hg4]
  rw [hg4] at HZ0
  have hwg : w.heap.size ≤ g4 := by omega
  clear HG hg4
  generalize w.alloc (.cells #[.int .i64 0, .int .i64 0, .slice none 0 0, .slice none 0 0, .slice none 0 0] 26) = W1 at *
  go_wp2_with fail
  (with_reducible refine HMU.out.mono ?_); rintro e w1 ⟨rfl, hm⟩
  have HMv1 : Hid (Moved b A n c ts en s1 w w1) := Lib.hid ⟨hm.rd, HM0.out.trans hm.only⟩
  have HZ1 := Lib.hid (HZ0.out.only hm.only (by omega))
  have HC1 := Lib.hid (HIH.out (deep + 1) s1 w1 (by have := HD.out; omega) hm.rd)
  rw [E2.out, show ((deep + 1 : Nat) : Int) = (deep : Int) + 1 from rfl] at HC1
  clear hm HMU HM0 HZ0
  go_wp2_with fail
  (with_reducible refine HC1.out.mono ?_); rintro e w2 hx
  obtain ⟨xk, xn, A1, c1, xms, A2, c2, xns, A3, c3, xks, rfl, hp, hf, hm⟩ := hx.forms
  have HP1 := Lib.hid hp
  have hl4 := HZ1.out.lt
  have HK1 := Lib.hid (Kid.made hf hm.only.size)
  have HMv2 : Hid (Moved b A n c ts en s2 w (w2.alloc (.cells #[.int .i64 xk, .int .i64 xn, .slice A1 xms.length c1, .slice A2 xns.length c2, .slice A3 xks.length c3] 26))) := Lib.hid ⟨hm.rd.alloc _, (HMv1.out.only.trans hm.only).alloc _⟩
  have HZ2 := Lib.hid ((HZ1.out.only hm.only (by omega)).alloc (.cells #[.int .i64 xk, .int .i64 xn, .slice A1 xms.length c1, .slice A2 xns.length c2, .slice A3 xks.length c3] 26))
  have HBT := Lib.hid (between_any b A n c ts en s2 (w2.alloc (.cells #[.int .i64 xk, .int .i64 xn, .slice A1 xms.length c1, .slice A2 xns.length c2, .slice A3 xks.length c3] 26)) (hm.rd.alloc _) hn)
  rw [E3.out] at HBT
  have HG5 := Lib.hid (show ∃ g, w2.heap.size = g from ⟨_, rfl⟩)
  have hbs1 : b < w1.heap.size := HMv1.out.rd.blk.lt
  clear hx hp hf hm HC1 HZ1 HMv1
  go_upto_region 3 with fail
  obtain ⟨g5, hg5⟩ := HG5.out
  rw [hg5]
  have HK1' : Hid (Kid (f + 1) w1.heap.size g5 (.mk xk xn (.slice A1 xms.length c1) xms (.slice A2 xns.length c2) xns (.slice A3 xks.length c3) xks) (w2.alloc (.cells #[.int .i64 xk, .int .i64 xn, .slice A1 xms.length c1, .slice A2 xns.length c2, .slice A3 xks.length c3] 26))) := Lib.hid (by have h := HK1.out; rw [hg5] at h; exact h)
  clear HG5 hg5 HK1
  generalize w2.alloc (.cells #[.int .i64 xk, .int .i64 xn, .slice A1 xms.length c1, .slice A2 xns.length c2, .slice A3 xks.length c3] 26) = W3 at *
  go_wp2_with fail
  (with_reducible refine HBT.out.mono ?_); rintro e w4 ⟨rfl, hm⟩
  have HMv3 : Hid (Moved b A n c ts en s3 w w4) := Lib.hid ⟨hm.rd, HMv2.out.only.trans hm.only⟩
  have HZ3 := Lib.hid (HZ2.out.only hm.only (by omega))
  have HK2 := Lib.hid (HK1'.out.grown hm.only.grown hbs1)
  have HC2 := Lib.hid (HIH.out (deep + 1) s3 w4 (by have := HD.out; omega) hm.rd)
  rw [E4.out, show ((deep + 1 : Nat) : Int) = (deep : Int) + 1 from rfl] at HC2
  clear hm HBT HMv2 HZ2 HK1'
  go_wp2_with fail
  (with_reducible refine HC2.out.mono ?_); rintro e w5 hx
  obtain ⟨yk, yn, B1, d1, yms, B2, d2, yns, B3, d3, yks, rfl, hp, hf, hm⟩ := hx.forms
  have HP2 := Lib.hid hp
  have hl44 := HZ3.out.lt
  have HKy := Lib.hid (Kid.made hf hm.only.size)
  have HK3 : Hid (Kid (f + 1) w1.heap.size g5 (.mk xk xn (.slice A1 xms.length c1) xms (.slice A2 xns.length c2) xns (.slice A3 xks.length c3) xks) (w5.alloc (.cells #[.int .i64 yk, .int .i64 yn, .slice B1 yms.length d1, .slice B2 yns.length d2, .slice B3 yks.length d3] 26))) := Lib.hid ((HK2.out.grown hm.only.grown hbs1).grown (only_alloc (World.grownBy.refl w5 (some b)) (.cells #[.int .i64 yk, .int .i64 yn, .slice B1 yms.length d1, .slice B2 yns.length d2, .slice B3 yks.length d3] 26)) hbs1)
  have HMv4 : Hid (Moved b A n c ts en s4 w (w5.alloc (.cells #[.int .i64 yk, .int .i64 yn, .slice B1 yms.length d1, .slice B2 yns.length d2, .slice B3 yks.length d3] 26))) := Lib.hid ⟨hm.rd.alloc _, (HMv3.out.only.trans hm.only).alloc _⟩
  have HZ4 := Lib.hid ((HZ3.out.only hm.only (by omega)).alloc (.cells #[.int .i64 yk, .int .i64 yn, .slice B1 yms.length d1, .slice B2 yns.length d2, .slice B3 yks.length d3] 26))
  have HME := Lib.hid (must_any b A n c ts en s4 4 ⟨#[41]⟩ (w5.alloc (.cells #[.int .i64 yk, .int .i64 yn, .slice B1 yms.length d1, .slice B2 yns.length d2, .slice B3 yks.length d3] 26)) (hm.rd.alloc _) (by decide) hn)
  rw [E5.out] at HME
  have HG7 := Lib.hid (show ∃ g, w5.heap.size = g from ⟨_, rfl⟩)
  have hbs4 : b < w4.heap.size := HMv3.out.rd.blk.lt
  clear hx hp hf hm HC2 HZ3 HMv3 HK2
  go_upto_region 5 with fail
  obtain ⟨g7, hg7⟩ := HG7.out
  rw [hg7]
  have HKy' : Hid (Kid (f + 1) w4.heap.size g7 (.mk yk yn (.slice B1 yms.length d1) yms (.slice B2 yns.length d2) yns (.slice B3 yks.length d3) yks) (w5.alloc (.cells #[.int .i64 yk, .int .i64 yn, .slice B1 yms.length d1, .slice B2 yns.length d2, .slice B3 yks.length d3] 26))) := Lib.hid (by have h := HKy.out; rw [hg7] at h; exact h)
  clear HG7 hg7 HKy
  generalize w5.alloc (.cells #[.int .i64 yk, .int .i64 yn, .slice B1 yms.length d1, .slice B2 yns.length d2, .slice B3 yks.length d3] 26) = W6 at *
  go_wp2_with fail
  (with_reducible refine HME.out.mono ?_); rintro e w7 ⟨rfl, hm⟩
  have HMv5 : Hid (Moved b A n c ts en s5 w w7) := Lib.hid ⟨hm.rd, HMv4.out.only.trans hm.only⟩
  have HZ5 := Lib.hid (HZ4.out.only hm.only (by omega))
  have HKx := Lib.hid (HK3.out.grown hm.only.grown hbs1)
  have HKz := Lib.hid (HKy'.out.grown hm.only.grown hbs4)
  clear hm HME HMv4 HZ4 HK3 HKy'
  have HANS := Lib.hid (two_ans k HR0.out HMv5.out HZ5.out HKx.out HKz.out hwg hl4 hl44)
  rw [HP1.out, HP2.out] at HANS
  obtain ⟨u0, u1, u2, u3, u4⟩ := blk_cells5 HKx.out.blk
  obtain ⟨v0, v1, v2, v3, v4⟩ := blk_cells5 HKz.out.blk
  simp only [XE.kd, XE.n, XE.mv, XE.nv, XE.kv] at u0 u1 u2 u3 u4 v0 v1 v2 v3 v4
  have HZ6 := Lib.hid (HZ5.out.alloc (.cells #[.int .i64 xk, .int .i64 xn, .slice A1 xms.length c1, .slice A2 xns.length c2, .slice A3 xks.length c3, .int .i64 yk, .int .i64 yn, .slice B1 yms.length d1, .slice B2 yns.length d2, .slice B3 yks.length d3] 26))
  obtain ⟨y0, y1, y2, y3, y4⟩ := blk_cells5 HZ6.out
  obtain ⟨z0, z1, z2, z3, z4⟩ := blk_fr5 HZ6.out
  have HQ := Lib.hid (set5W_blk HZ6.out (.int .i64 k) (.int .i64 0) (.slice none 0 0) (.slice none 0 0) (.slice (some ⟨w7.heap.size, 0, none⟩) 2 2))
  go_wp2_with fail
  obtain ⟨q0, q1, q2, q3, q4⟩ := blk_cells5 HQ.out
  unfold set5W at q0 q1 q2 q3 q4
  refine bodyPost_ret (v := (pairX k w7.heap.size (.mk xk xn (.slice A1 xms.length c1) xms (.slice A2 xns.length c2) xns (.slice A3 xks.length c3) xks) (.mk yk yn (.slice B1 yms.length d1) yms (.slice B2 yns.length d2) yns (.slice B3 yks.length d3) yks)).val) (by simp [XE.val, pairX, XE.kd, XE.n, XE.mv, XE.nv, XE.kv, results, Tryz.results84, go_sem, q0, q1, q2, q3, q4]) rfl ?_
  exact HANS.out
end Go.Proofs.YtcaapbbbekggiaaGreatDoor

namespace Go.Proofs.YtcaapbbbekggiaaGreatDoor
open Go.ChangeShapes Go.WideShapes Go.ChangeAt Go.RowKit
set_option linter.unusedVariables false
set_option linter.unusedSimpArgs false
set_option maxRecDepth 100000
/-- Within ofOne: both boxes, the names so far. -/
structure OnAt (b : Nat) (A : Option Addr) (n c : Nat) (ts : List Tok) (en : Int) (s : PS) (w0 : World) (g2 g3 : Nat) (k : Int) (v : Value) (ns : List ByteArray) (kv : Value) (w : World) : Prop where
  rd : RdAt b A n c ts en s w
  only : Only b w0 w
  z_ : Blk w g2 26 [.int .i64 0, .int .i64 0, .slice none 0 0, .slice none 0 0, .slice none 0 0]
  x : Blk w g3 26 [.int .i64 k, .int .i64 0, .slice none 0 0, v, kv]
  row : w.ownsRow w0.heap.size 9 1 v ns.length (strs ns)
  ne : ∀ g, v.ownBlock = some g → g3 < g
  l2 : w0.heap.size ≤ g2
  l3 : g2 < g3
  lb : b < w0.heap.size
section
variable {b n c g2 g3 : Nat} {A : Option Addr} {ts : List Tok} {en : Int} {s s' : PS} {w0 w w' : World} {k : Int} {v v' kv : Value} {ns : List ByteArray}
theorem OnAt.moved (h : OnAt b A n c ts en s w0 g2 g3 k v ns kv w) (hm : Moved b A n c ts en s' w w') : OnAt b A n c ts en s' w0 g2 g3 k v ns kv w' := by
  have h2 := h.l2; have h3 := h.l3; have hb := h.lb
  refine ⟨hm.rd, h.only.trans hm.only, h.z_.only hm.only (by omega), h.x.only hm.only (by omega), own_grown h.row hm.only.grown (fun g hg e => ?_), h.ne, h2, h3, hb⟩
  have := (h.row.lt g hg).1
  injection e with e; omega
theorem OnAt.below (h : OnAt b A n c ts en s w0 g2 g3 k v ns kv w) (hb : Below w.heap.size w w') : OnAt b A n c ts en s w0 g2 g3 k v ns kv w' := h.moved ⟨h.rd.below hb, Only.of_below hb⟩
theorem names_grow (ns : List ByteArray) (x : ByteArray) : strs (ns ++ [x]) = strs ns ++ [.string x] := by simp [strs]
/-- The names grown, and laid into the box. -/
theorem OnAt.push (h : OnAt b A n c ts en s w0 g2 g3 k v ns kv w) (h0 : RdAt b A n c ts en s' w0) {m : ByteArray} (hown : w'.ownsRow w0.heap.size 9 1 v' (ns.length + 1) (strs ns ++ [.string m])) (hg : w.grownBy w' v.ownBlock) (hw : Where w v v') :
    OnAt b A n c ts en s w0 g2 g3 k v' (ns ++ [m]) kv (w'.setCell ⟨g3, 3, none⟩ v') := by
  have h2 := h.l2; have h3 := h.l3; have hb := h.lb
  have hr : ∀ g, v.ownBlock = some g → w0.heap.size ≤ g := fun g hg => (h.row.lt g hg).1
  have ho := h.only.of_grown hg hr
  have ho2 := ho.setNew (g := g3) (by omega) 3 v'
  have hne : ∀ g, v'.ownBlock = some g → g3 < g := fun g hg2 => by
    rcases hw with hw | hw
    · exact h.ne g (hw ▸ hg2)
    · have := hw g hg2; have := h.x.lt; omega
  have hbk : Blk w' b 103 [.slice A n c, .int .i64 s.p, .int .i64 en, .int .i64 s.fa, .int .i64 s.fe] := h.rd.blk.grown hg (fun e => by have := hr b e.symm; omega)
  refine ⟨h0.of (hbk.far (p := ⟨g3, 3, none⟩) (show b ≠ g3 by omega) _) ho2 h.rd.le, ho2, ?_, ?_, ?_, hne, h2, h3, hb⟩
  · exact (h.z_.grown hg (fun e => by have := h.ne g2 e.symm; omega)).far (p := ⟨g3, 3, none⟩) (show g2 ≠ g3 by omega) _
  · exact (h.x.grown hg (fun e => by have := h.ne g3 e.symm; omega)).set 3 v'
  · rw [List.length_append, names_grow]
    exact own_grown hown (only_setCell (World.grownBy.refl w' (some g3)) (p := ⟨g3, 3, none⟩) (.inl rfl) v') (fun g hg2 e => by have := hne g hg2; injection e with e; omega)
theorem OnAt.kid (h : OnAt b A n c ts en s w0 g2 g3 k v ns kv w) (h0 : RdAt b A n c ts en s' w0) (y : Value) : OnAt b A n c ts en s w0 g2 g3 k v ns y (w.setCell ⟨g3, 4, none⟩ y) := by
  have h2 := h.l2; have h3 := h.l3; have hb := h.lb
  have ho2 := h.only.setNew (g := g3) (by omega) 4 y
  exact ⟨h0.of (h.rd.blk.far (p := ⟨g3, 4, none⟩) (show b ≠ g3 by omega) _) ho2 h.rd.le, ho2, h.z_.far (p := ⟨g3, 4, none⟩) (show g2 ≠ g3 by omega) _, h.x.set 4 _, own_grown h.row (only_setCell (World.grownBy.refl w (some g3)) (p := ⟨g3, 4, none⟩) (.inl rfl) _) (fun g hg2 e => by have := h.ne g hg2; injection e with e; omega), h.ne, h2, h3, hb⟩
theorem OnAt.ans {d gk sx : Nat} {x : XE} (h : OnAt b A n c ts en s w0 g2 g3 k v ns (.slice (some ⟨gk, 0, none⟩) 1 1) w) (h0 : RdAt b A n c ts en s' w0) (hx : Kid d sx gk x w) (hs : g2 < sx) :
    XAns b A n c ts en (d + 1) (.mk k 0 [] ns [x.pe], s) w0 (.returned (.agg #[.int .i64 k, .int .i64 0, .slice none 0 0, v, .slice (some ⟨gk, 0, none⟩) 1 1])) (set5W w g2 (.int .i64 k) (.int .i64 0) (.slice none 0 0) v (.slice (some ⟨gk, 0, none⟩) 1 1)) := by
  have h2 := h.l2; have h3 := h.l3; have hb := h.lb
  have hlt := hx.lt
  have hg := set5W_grown w g2 (.int .i64 k) (.int .i64 0) (.slice none 0 0) v (.slice (some ⟨gk, 0, none⟩) 1 1)
  have ho := h.only.of_grown hg (fun g e => by injection e with e; omega)
  have hrow := own_grown h.row hg (fun g hg2 e => by have := h.ne g hg2; injection e with e; omega)
  have kx := hx.grown hg hs
  have hbk : Blk (set5W w g2 (.int .i64 k) (.int .i64 0) (.slice none 0 0) v (.slice (some ⟨gk, 0, none⟩) 1 1)) gk 26 (kcells [x]) := kx.blk
  refine ⟨.mk k 0 (.slice none 0 0) [] v ns (.slice (some ⟨gk, 0, none⟩) 1 1) [x], rfl, rfl, okX_far (FarS.nil 3) (FarS.own hrow (fun g hg2 e => by have := (hrow.lt g hg2).1; omega)) (FarS.slc (n := 1) (size := 5) hbk (by omega) rfl (by omega)) (fun q hq => ?_), h0.of (h.rd.blk.grown hg (fun e => by injection e with e; omega)) ho h.rd.le, ho⟩
  rw [List.mem_singleton] at hq
  subst hq
  exact kx.far.mono (fun q _ hq => by omega)
end
theorem name_left {ts : List Tok} {en : Int} {s : PS} {n : Nat} (hl : ts.length = n) (hp : s.p ≤ n) (hf : s.fe = 0) (q : Bool) : (takeF ts en (if q = true then s else mustF ts en s 4 ⟨#[44]⟩) 2).2.p ≤ n ∧ leftF n (takeF ts en (if q = true then s else mustF ts en s 4 ⟨#[44]⟩) 2).2 < leftF n s := by
  cases q with
  | true =>
    rw [if_pos rfl]
    have h := step_take (en := en) hl hp (kd := 2) (by decide)
    exact ⟨h.1.1, h.2 hf⟩
  | false =>
    rw [if_neg (by simp)]
    have h1 := step_must (en := en) hl hp (kd := 4) (by decide) ⟨#[44]⟩
    have h := step_take (en := en) hl h1.1 (kd := 2) (by decide)
    refine ⟨h.1.1, Nat.lt_of_le_of_lt h.1.2 ?_⟩
    unfold mustF
    by_cases hq : isF ts s 4 ⟨#[44]⟩ = true
    · rw [if_pos hq]
      exact leftF_next n s hf (by have := (isF_lt (by decide) hq).2; omega)
    · rw [if_neg hq, leftF_fail ts en s n 1 (by decide) hp]
      have := leftF_zero n s hf hp
      omega
end Go.Proofs.YtcaapbbbekggiaaGreatDoor

namespace Go.Proofs.YtcaapbbbekggiaaGreatDoor
open Go.ChangeShapes Go.WideShapes Go.ChangeAt Go.RowKit
set_option linter.unusedVariables false
set_option linter.unusedSimpArgs false
set_option maxRecDepth 100000
set_option maxHeartbeats 4000000 in
theorem one_x (b : Nat) (A : Option Addr) (n c : Nat) (ts : List Tok) (en : Int) (f : Nat) (IH : ExprSaid b A n c ts en f) (hn : n ≤ 1000000) (kd : Int) (deep : Nat) (s : PS) (w : World) (hd : deep + (f + 1) = 9) (h : RdAt b A n c ts en s w) :
    Calls Tryz.prog 82 #[.pointer (some ⟨b, 0, none⟩), .int .i64 kd, .int .i64 (deep : Nat)] w fun e w' => XAns b A n c ts en (f + 2) (ofOneF ts en n (exprF ts en n f) kd s) w e w' := by
  have HR0 := Lib.hid h
  have HLEN := Lib.hid h.len
  have hbw : b < w.heap.size := h.blk.lt
  have HIH := Lib.hid IH
  have hde : IntKind.i64.wrap ((deep : Int) + 1) = (deep : Int) + 1 := by rw [IntKind.wrap_i64]; omega
  have HD := Lib.hid hd
  obtain ⟨i0, hi0, hz0, hz1, hz2⟩ := info_parts Tryz.infoStr5
  have HTA := Lib.hid (take_any b A n c ts en s 2 ((w.alloc (.cells #[.int .i64 0, .int .i64 0, .slice none 0 0, .slice none 0 0, .slice none 0 0] 26)).alloc (.cells #[.int .i64 kd, .int .i64 0, .slice none 0 0, .slice none 0 0, .slice none 0 0] 26)) ((h.alloc _).alloc _) (by decide) hn)
  have HP0 : Hid (OnAt b A n c ts en s w w.heap.size (w.heap.size + 1) kd (.slice none 0 0) [] (.slice none 0 0) ((w.alloc (.cells #[.int .i64 0, .int .i64 0, .slice none 0 0, .slice none 0 0, .slice none 0 0] 26)).alloc (.cells #[.int .i64 kd, .int .i64 0, .slice none 0 0, .slice none 0 0, .slice none 0 0] 26))) := Lib.hid ⟨(h.alloc _).alloc _, ((Only.of_below (Below.refl w.heap.size w)).alloc _).alloc _, (Blk.mk (heap_alloc_new w _)).alloc _, by have hh := (Blk.mk (heap_alloc_new (w.alloc (.cells #[.int .i64 0, .int .i64 0, .slice none 0 0, .slice none 0 0, .slice none 0 0] 26)) (.cells #[.int .i64 kd, .int .i64 0, .slice none 0 0, .slice none 0 0, .slice none 0 0] 26)) : Blk _ (w.alloc (.cells #[.int .i64 0, .int .i64 0, .slice none 0 0, .slice none 0 0, .slice none 0 0] 26)).heap.size 26 [.int .i64 kd, .int .i64 0, .slice none 0 0, .slice none 0 0, .slice none 0 0]); simpa using hh, own_nil _ _ _ _, (fun g hg => by cases hg), Nat.le_refl _, Nat.lt_succ_self _, hbw⟩
  have HFF : Hid (∃ t0 s1 s2 s3 nE sE s4 t1 s5 s6, takeF ts en s 2 = (t0, s1) ∧ mustF ts en s1 2 ⟨#[98, 121]⟩ = s2 ∧ mustF ts en s2 4 ⟨#[40]⟩ = s3 ∧ nsF ts en (n + 2) [] s3 = (nE, sE) ∧ mustF ts en sE 4 ⟨#[40]⟩ = s4 ∧ exprF ts en n f s4 = (t1, s5) ∧ mustF ts en s5 4 ⟨#[41]⟩ = s6 ∧ ofOneF ts en n (exprF ts en n f) kd s = (.mk kd 0 [] nE [t1], s6)) := Lib.hid ⟨_, _, _, _, _, _, _, _, _, _, rfl, rfl, rfl, rfl, rfl, rfl, rfl, rfl⟩
  obtain ⟨t0, s1, s2, s3, nE, sE, s4, t1, s5, s6, e1, e2, e3, e4, e5, e6, e7, e8⟩ := HFF.out
  rw [e1] at HTA
  rw [e8]
  unfold Tok.val at HTA
  have E2 := Lib.hid e2; have E3 := Lib.hid e3; have HMS := Lib.hid e4; have E5 := Lib.hid e5; have E6 := Lib.hid e6; have E7 := Lib.hid e7
  clear h e1 e2 e3 e4 e5 e6 e7 e8 HFF IH hd
  have HG := Lib.hid (show ∃ g, w.heap.size = g from ⟨_, rfl⟩)
  have HG3 := Lib.hid (show ∃ g, w.heap.size + 1 = g from ⟨_, rfl⟩)
  go_enter Tryz.func82, Tryz.ntmps82
  go_upto_region 2 with fail
  obtain ⟨g3, hg3'⟩ := HG3.out
  obtain ⟨g2, hg2'⟩ := HG.out
  rw [hg3'] at HP0 ⊢
  rw [hg2'] at HP0 ⊢
  clear HG HG3
  generalize (w.alloc (.cells #[.int .i64 0, .int .i64 0, .slice none 0 0, .slice none 0 0, .slice none 0 0] 26)).alloc (.cells #[.int .i64 kd, .int .i64 0, .slice none 0 0, .slice none 0 0, .slice none 0 0] 26) = W2 at *
  go_wp2_with fail
  (with_reducible refine HTA.out.mono ?_); rintro e w1 ⟨rfl, hm⟩
  have HP1 := Lib.hid (HP0.out.moved hm)
  have HX := Lib.hid (must_any b A n c ts en s1 2 ⟨#[98, 121]⟩ _ hm.rd (by decide) hn)
  rw [E2.out] at HX
  clear hm HTA HP0
  go_wp2_with fail
  (with_reducible refine HX.out.mono ?_); rintro e w2 ⟨rfl, hm⟩
  have HP2 := Lib.hid (HP1.out.moved hm)
  have HY := Lib.hid (must_any b A n c ts en s2 4 ⟨#[40]⟩ _ hm.rd (by decide) hn)
  rw [E3.out] at HY
  clear hm HX HP1
  go_wp2_with fail
  (with_reducible refine HY.out.mono ?_); rintro e w3 ⟨rfl, hm⟩
  have HP3 := Lib.hid (HP2.out.moved hm)
  clear hm HY HP2
  go_upto_block 0 with fail
  go_cut [] from 16 to 40 (fun wx => ∃ v, OnAt b A n c ts en sE w g2 g3 kd v nE (.slice none 0 0) wx)
  case first =>
    go_wp2_with fail
    go_loopg [] (n + 2) (fun g wr => ∃ (s' : PS) (ns : List ByteArray) (v : Value), leftF n s' ≤ g ∧ ns.length + leftF n s' ≤ n + 2 ∧ nsF ts en g ns s' = (nE, sE) ∧ OnAt b A n c ts en s' w g2 g3 kd v ns (.slice none 0 0) wr)
    case atStart => exact ⟨s3, [], .slice none 0 0, by unfold leftF; split <;> omega, by unfold leftF; simp only [List.length_nil]; split <;> omega, HMS.out, HP3.out⟩
    case round =>
      obtain ⟨s', ns, v, hfu, hml, hms, hat⟩ := hrel
      have HF := Lib.hid hms; have HA := Lib.hid hat
      have HFU := Lib.hid hfu; have HML := Lib.hid hml
      have HLE := Lib.hid hat.rd.le
      clear hms hat hfu hml HMS HP3
      cases gk with
      | zero => exact absurd HFU.out (by have := leftF_pos n s' HLE.out; omega)
      | succ g =>
        obtain ⟨c0, c1, c2, c3, c4⟩ := HA.out.rd.cells
        by_cases hfe : s'.fe = 0
        · have t1 : (s'.fe == 0) = true := by rw [hfe]; rfl
          cases hq : isF ts s' 4 ⟨#[41]⟩ with
          | true =>
            have HE := Lib.hid (show (ns, nextF s') = (nE, sE) by rw [← HF.out]; unfold nsF; rw [if_pos hfe, if_pos hq])
            have HS := Lib.hid (skip_yes (tx := ⟨#[41]⟩) HA.out.rd (show (4 : Int) ≠ 0 by decide) hn hq)
            clear hq hfe HF
            go_wp2_with fail
            (with_reducible refine HS.out.mono ?_); rintro e w5 ⟨rfl, hm⟩
            have HX := Lib.hid (HA.out.moved hm)
            clear hm
            go_wp2_with fail
            go_meet
            have he := HE.out
            injection he with he1 he2
            rw [← he1, ← he2]; exact ⟨v, HX.out⟩
          | false =>
            have HS := Lib.hid (skip_no (tx := ⟨#[41]⟩) HA.out.rd (show (4 : Int) ≠ 0 by decide) hn hq)
            have HF2 : Hid (∃ s2 : PS, (if ns.length = 0 then s' else mustF ts en s' 4 ⟨#[44]⟩) = s2 ∧ nsF ts en g (ns ++ [(takeF ts en s2 2).1.tx]) (takeF ts en s2 2).2 = (nE, sE) ∧ (takeF ts en s2 2).2.p ≤ n ∧ leftF n (takeF ts en s2 2).2 < leftF n s') := Lib.hid ⟨_, rfl, by rw [← HF.out]; conv => rhs; unfold nsF; rw [if_pos hfe, if_neg (by rw [hq]; simp)], by simpa using name_left (en := en) HLEN.out HLE.out hfe (decide (ns.length = 0))⟩
            obtain ⟨sx, hsx, hmx, hpx, hlx⟩ := HF2.out
            have HSX := Lib.hid hsx; have HMX := Lib.hid hmx; have HLX := Lib.hid hlx
            obtain ⟨Av, cv, hv, _, _⟩ := own_slice HA.out.row
            subst hv
            clear hq hfe HF HF2 hsx hmx hpx hlx
            go_wp2_with fail
            (with_reducible refine HS.out.mono ?_); rintro e w5 ⟨rfl, hm⟩
            have HA2 := Lib.hid (HA.out.moved hm)
            clear hm HS HA c0 c1 c2 c3 c4
            obtain ⟨x0, x1, x2, x3, x4⟩ := blk_cells5 HA2.out.x
            obtain ⟨p5, hp5⟩ : ∃ p, decide (0 < ns.length) = p := ⟨_, rfl⟩
            have HPP := Lib.hid hp5
            go_upto_if 30 with fail
            clear hp5
            go_cut [] from 31 to 32 (fun wx => OnAt b A n c ts en sx w g2 g3 kd (.slice Av ns.length cv) ns (.slice none 0 0) wx)
            case first =>
              cases p5 with
              | false =>
                have h0 : ns.length = 0 := by have := of_decide_eq_false HPP.out; omega
                have HE := Lib.hid (show s' = sx by rw [← HSX.out, if_pos h0])
                clear h0
                go_wp2_with fail
                go_meet
                rw [← HE.out]; exact HA2.out
              | true =>
                have h0 : ¬ ns.length = 0 := by have := of_decide_eq_true HPP.out; omega
                have HE := Lib.hid (show mustF ts en s' 4 ⟨#[44]⟩ = sx by rw [← HSX.out, if_neg h0])
                have HM := Lib.hid (must_any b A n c ts en s' 4 ⟨#[44]⟩ _ HA2.out.rd (by decide) hn)
                rw [HE.out] at HM
                clear h0
                go_wp2_with fail
                (with_reducible refine HM.out.mono ?_); rintro e w6 ⟨rfl, hm⟩
                have HX := Lib.hid (HA2.out.moved hm)
                clear hm
                go_wp2_with fail
                go_meet
                exact HX.out
            case rest =>
              have HA3 := Lib.hid hcut
              clear hcut HA2 x0 x1 x2 x3 x4
              obtain ⟨⟨tk, tn, ta, tx⟩, sN, hmN⟩ : ∃ m sN, takeF ts en sx 2 = (m, sN) := ⟨_, _, rfl⟩
              have HMX2 := Lib.hid (show nsF ts en g (ns ++ [tx]) sN = (nE, sE) by have h := HMX.out; rw [hmN] at h; exact h)
              have HLX2 := Lib.hid (show leftF n sN < leftF n s' by have h := HLX.out; rw [hmN] at h; exact h)
              have HMT := Lib.hid (fun V (hV : RdAt b A n c ts en sx V) => by have h := take_any b A n c ts en sx 2 V hV (by decide) hn; rw [hmN] at h; unfold Tok.val at h; exact h)
              clear HMX HLX hmN
              go_upto_region 8 with fail
              obtain ⟨D, hD⟩ : ∃ D, wc.drew = D := ⟨_, rfl⟩
              have HAD := Lib.hid (show OnAt b A n c ts en sx w g2 g3 kd (.slice Av ns.length cv) ns (.slice none 0 0) D by rw [← hD]; exact HA3.out.below (Below.refl _ _).drew)
              obtain ⟨x0, x1, x2, x3, x4⟩ := blk_cells5 HAD.out.x
              have tok1 : True := trivial
              have tok2 : True := trivial
              clear HA3 x0 x1 x2 x4
              go_region_law (first
                | (have tk := tok1; (try go_simp); go_at_call 81; (with_reducible refine (HMT.out _ HAD.out.rd).mono ?_); rintro e wm ⟨rfl, hm⟩; have HAM := Lib.hid (HAD.out.moved hm); have HAB := Lib.hid (HAM.out.below ((Below.refl wm.heap.size wm).alloc (Nat.le_refl _) (.cells #[.string tx] 9))); have y2 := (blk_cells5 HAM.out.x).2.2.2.1; have z2 := (blk_cells5 HAB.out.x).2.2.2.1; have HX := Lib.hid (show Sees (wm.alloc (.cells #[.string tx] 9)) (wm.alloc (.cells #[.string tx] 9)).heap.size 1 (some ⟨wm.heap.size, 0, none⟩) 1 [.string tx] from (Blk.mk (heap_alloc_new wm _) : Blk _ wm.heap.size 9 [.string tx]).sees rfl (List.prefix_refl _)); have hbs : w.heap.size ≤ (wm.alloc (.cells #[.string tx] 9)).heap.size := HAB.out.only.size; clear tok1 tk hm)
                | (have tk := tok2; refine step_append_at3 rfl (.tmp 34) (.tmp 38) 23 rfl w.heap.size 9 i0 (.string ⟨#[]⟩) 1 16 Tryz.underlying23 hi0 hz0 hz1 hz2 rfl (by decide) (.slice Av ns.length cv) ns.length (strs ns) (by first | rfl | (simp [Act.eval]; done)) HAB.out.row _ _ 1 1 [.string tx] (by first | rfl | (simp [Act.eval]; done)) HX.out (by simp [Value.oneCell']) (by have := HML.out; unfold maxLen; omega) (by have := HML.out; omega) hbs ?_; intro v9 w9 hown9 hgr9 hwh9; obtain ⟨A9, c9, hA9, _, _⟩ := own_slice hown9; subst hA9; have HPU := Lib.hid (HAB.out.push HR0.out hown9 hgr9 hwh9); have hne9 : ∀ q, (Value.slice Av ns.length cv).ownBlock = some q → g3 < q := HAB.out.ne; have HXB := Lib.hid (HAB.out.x.grown hgr9 (fun e => by have := hne9 g3 e.symm; omega)); have f9 := HXB.out.frozen 3; have y9 := HXB.out.cell 3; clear tok2 tk hown9 hgr9 hwh9)
                | fail)
              all_goals
                clear HAD HAM HAB HX x3 y2 z2 hbs
                go_wp2_with fail
                go_roundg g
                case measure => omega
                case rel =>
                  have h1 := HLX2.out; have h2 := HFU.out; have h3 := HML.out
                  exact ⟨sN, ns ++ [tx], _, by omega, by rw [List.length_append, List.length_singleton]; omega, HMX2.out, HPU.out⟩
        · have t1 : (s'.fe == 0) = false := by rw [beq_eq_false_iff_ne]; exact hfe
          have HE := Lib.hid (show (ns, s') = (nE, sE) by rw [← HF.out]; unfold nsF; rw [if_neg hfe])
          clear hfe HF
          go_wp2_with fail
          go_meet
          have he := HE.out
          injection he with he1 he2
          rw [← he1, ← he2]; exact ⟨v, HA.out⟩
  case rest =>
    obtain ⟨v, hat⟩ := hcut
    obtain ⟨Av, cv, hv, _, _⟩ := own_slice hat.row
    subst hv
    have HA := Lib.hid hat
    have HM1 := Lib.hid (must_any b A n c ts en sE 4 ⟨#[40]⟩ _ hat.rd (by decide) hn)
    rw [E5.out] at HM1
    clear hat HP3 HMS
    go_wp2_with fail
    (with_reducible refine HM1.out.mono ?_); rintro e w5 ⟨rfl, hm⟩
    have HA1 := Lib.hid (HA.out.moved hm)
    have HC1 := Lib.hid (HIH.out (deep + 1) s4 w5 (by have := HD.out; omega) hm.rd)
    rw [E6.out, show ((deep + 1 : Nat) : Int) = (deep : Int) + 1 from rfl] at HC1
    clear hm HM1 HA
    go_wp2_with fail
    (with_reducible refine HC1.out.mono ?_); rintro e w6 hx
    obtain ⟨xk, xn, A1, c1, xms, A2, c2, xns, A3, c3, xks, rfl, hp, hf, hm⟩ := hx.forms
    have HPE := Lib.hid hp
    have hl2 := HA1.out.z_.lt
    have hl3 := HA1.out.x.lt
    have HK1 := Lib.hid (Kid.made hf hm.only.size)
    have HA2 := Lib.hid ((HA1.out.moved hm).below ((Below.refl w6.heap.size w6).alloc (Nat.le_refl _) (.cells #[.int .i64 xk, .int .i64 xn, .slice A1 xms.length c1, .slice A2 xns.length c2, .slice A3 xks.length c3] 26)))
    have HA3 := Lib.hid (HA2.out.kid HR0.out (.slice (some ⟨w6.heap.size, 0, none⟩) 1 1))
    have HK2 := Lib.hid (HK1.out.grown (only_setCell (World.grownBy.refl (w6.alloc (.cells #[.int .i64 xk, .int .i64 xn, .slice A1 xms.length c1, .slice A2 xns.length c2, .slice A3 xks.length c3] 26)) (some g3)) (p := ⟨g3, 4, none⟩) (.inl rfl) (.slice (some ⟨w6.heap.size, 0, none⟩) 1 1)) hl3)
    clear hx hp hf hm HC1 HA1 HK1
    obtain ⟨x0, x1, x2, x3, x4⟩ := blk_cells5 HA2.out.x
    obtain ⟨f0, f1, f2, f3, f4⟩ := blk_fr5 HA2.out.x
    have HG6 := Lib.hid (show ∃ g, w6.heap.size = g from ⟨_, rfl⟩)
    go_upto_region 11 with fail
    obtain ⟨g6, hg6⟩ := HG6.out
    generalize (w6.alloc (.cells #[.int .i64 xk, .int .i64 xn, .slice A1 xms.length c1, .slice A2 xns.length c2, .slice A3 xks.length c3] 26)).setCell ⟨g3, 4, none⟩ (.slice (some ⟨w6.heap.size, 0, none⟩) 1 1) = W7 at *
    rw [hg6] at HA3 HK2
    clear x0 x1 x2 x3 x4 f0 f1 f2 f3 f4 HA2 HG6 hg6
    have HM4 := Lib.hid (must_any b A n c ts en s5 4 ⟨#[41]⟩ _ HA3.out.rd (by decide) hn)
    rw [E7.out] at HM4
    go_wp2_with fail
    (with_reducible refine HM4.out.mono ?_); rintro e w8 ⟨rfl, hm⟩
    have HA4 := Lib.hid (HA3.out.moved hm)
    have HK3 := Lib.hid (HK2.out.grown hm.only.grown (by omega))
    clear hm HM4 HA3 HK2
    obtain ⟨x0, x1, x2, x3, x4⟩ := blk_cells5 HA4.out.x
    obtain ⟨z0, z1, z2, z3, z4⟩ := blk_cells5 HA4.out.z_
    obtain ⟨f0, f1, f2, f3, f4⟩ := blk_fr5 HA4.out.z_
    have HQ := Lib.hid (set5W_blk HA4.out.z_ (.int .i64 kd) (.int .i64 0) (.slice none 0 0) (.slice Av nE.length cv) (.slice (some ⟨g6, 0, none⟩) 1 1))
    have HANS := Lib.hid (HA4.out.ans HR0.out HK3.out hl2)
    rw [HPE.out] at HANS
    go_wp2_with fail
    obtain ⟨q0, q1, q2, q3, q4⟩ := blk_cells5 HQ.out
    unfold set5W at q0 q1 q2 q3 q4
    refine bodyPost_ret (v := .agg #[.int .i64 kd, .int .i64 0, .slice none 0 0, .slice Av nE.length cv, .slice (some ⟨g6, 0, none⟩) 1 1]) (by simp [results, Tryz.results82, go_sem, q0, q1, q2, q3, q4]) rfl ?_
    exact HANS.out
end Go.Proofs.YtcaapbbbekggiaaGreatDoor

namespace Go.Proofs.YtcaapbbbekggiaaGreatDoor
open Go.ChangeShapes Go.WideShapes Go.ChangeAt Go.RowKit
set_option linter.unusedVariables false
set_option linter.unusedSimpArgs false
set_option maxRecDepth 100000
/-- Within expr: both boxes. -/
structure ExAt (b : Nat) (A : Option Addr) (n c : Nat) (ts : List Tok) (en : Int) (s : PS) (w0 : World) (g4 g5 : Nat) (t : Tok) (w : World) : Prop where
  rd : RdAt b A n c ts en s w
  only : Only b w0 w
  z : Blk w g4 26 [.int .i64 0, .int .i64 0, .slice none 0 0, .slice none 0 0, .slice none 0 0]
  tk : Blk w g5 96 [.int .i64 t.kd, .int .i64 t.n, .int .i64 t.at_, .string t.tx]
  l4 : w0.heap.size ≤ g4
  l5 : g4 < g5
  lb : b < w0.heap.size
section
variable {b n c g4 g5 d : Nat} {A : Option Addr} {ts : List Tok} {en : Int} {s s' : PS} {w0 w w' : World} {t : Tok}
theorem ExAt.moved (h : ExAt b A n c ts en s w0 g4 g5 t w) (hm : Moved b A n c ts en s' w w') : ExAt b A n c ts en s' w0 g4 g5 t w' := by
  have h2 := h.l4; have h3 := h.l5; have hb := h.lb
  exact ⟨hm.rd, h.only.trans hm.only, h.z.only hm.only (by omega), h.tk.only hm.only (by omega), h2, h3, hb⟩
theorem ExAt.below (h : ExAt b A n c ts en s w0 g4 g5 t w) (hb : Below w.heap.size w w') : ExAt b A n c ts en s w0 g4 g5 t w' := h.moved ⟨h.rd.below hb, Only.of_below hb⟩
/-- A leaf, laid into the answer. -/
theorem ExAt.leaf (h : ExAt b A n c ts en s w0 g4 g5 t w) (h0 : RdAt b A n c ts en s' w0) (d : Nat) (kd y : Int) :
    XAns b A n c ts en (d + 1) (.mk kd y [] [] [], s) w0 (.returned (.agg #[.int .i64 kd, .int .i64 y, .slice none 0 0, .slice none 0 0, .slice none 0 0])) (set5W w g4 (.int .i64 kd) (.int .i64 y) (.slice none 0 0) (.slice none 0 0) (.slice none 0 0)) := by
  have h2 := h.l4; have hb := h.lb
  have hg := set5W_grown w g4 (.int .i64 kd) (.int .i64 y) (.slice none 0 0) (.slice none 0 0) (.slice none 0 0)
  have ho := h.only.of_grown hg (fun g e => by injection e with e; omega)
  exact ⟨.mk kd y (.slice none 0 0) [] (.slice none 0 0) [] (.slice none 0 0) [], rfl, rfl, okX_far (FarS.nil 3) (FarS.nil 1) (FarS.nil 5) (fun x hx => absurd hx List.not_mem_nil), h0.of (h.rd.blk.grown hg (fun e => by injection e with e; omega)) ho h.rd.le, ho⟩
/-- An answer handed on. -/
theorem ExAt.pass {x : XE} {r : PE × PS} (h : ExAt b A n c ts en s w0 g4 g5 t w) (h0 : RdAt b A n c ts en s' w0) (hx : x.pe = r.1) (hf : FarS (fun q => q < w.heap.size) (okX d x) w') (hm : Moved b A n c ts en r.2 w w') :
    XAns b A n c ts en d r w0 (.returned x.val) (set5W w' g4 (.int .i64 x.kd) (.int .i64 x.n) x.mv x.nv x.kv) := by
  have h2 := h.l4; have hb := h.lb
  have hl := h.z.lt
  have hsz := h.only.size
  have hg := set5W_grown w' g4 (.int .i64 x.kd) (.int .i64 x.n) x.mv x.nv x.kv
  have ho := (h.only.trans hm.only).of_grown hg (fun g e => by injection e with e; omega)
  exact ⟨x, hx, rfl, (hf.grown hg (fun g e => by injection e with e; omega)).mono (fun q _ hq => by omega), h0.of (hm.rd.blk.grown hg (fun e => by injection e with e; omega)) ho hm.rd.le, ho⟩
end
set_option maxHeartbeats 8000000 in
theorem expr_step (b : Nat) (A : Option Addr) (n c : Nat) (ts : List Tok) (en : Int) (hn : n ≤ 1000000) (f : Nat) (IH : ∀ f', f = f' + 1 → ExprSaid b A n c ts en f') : ExprSaid b A n c ts en f := by
  intro deep s w hd h
  have HR0 := Lib.hid h
  have hbw : b < w.heap.size := h.blk.lt
  have HIH := Lib.hid IH
  have HD := Lib.hid hd
  obtain ⟨t, ht⟩ : ∃ t, peekF ts s = t := ⟨_, rfl⟩
  obtain ⟨k, hk⟩ : ∃ k, kindF t = k := ⟨_, rfl⟩
  have HPK := Lib.hid (peek_any b A n c ts en s (w.alloc (.cells #[.int .i64 0, .int .i64 0, .slice none 0 0, .slice none 0 0, .slice none 0 0] 26)) (h.alloc _))
  rw [ht] at HPK
  unfold Tok.val at HPK
  have HKD := Lib.hid (fun V => kind_any t V)
  rw [hk] at HKD
  unfold Tok.val at HKD
  have HT := Lib.hid ht; have HK := Lib.hid hk
  have HIS := Lib.hid (fun V (hV : RdAt b A n c ts en s V) (tx : ByteArray) => is_any b A n c ts en s 4 tx V hV)
  have HX0 : Hid (∀ w1, Below (w.alloc (.cells #[.int .i64 0, .int .i64 0, .slice none 0 0, .slice none 0 0, .slice none 0 0] 26)).heap.size (w.alloc (.cells #[.int .i64 0, .int .i64 0, .slice none 0 0, .slice none 0 0, .slice none 0 0] 26)) w1 → ExAt b A n c ts en s w w.heap.size w1.heap.size t (w1.alloc (.cells #[.int .i64 t.kd, .int .i64 t.n, .int .i64 t.at_, .string t.tx] 96))) := Lib.hid (fun w1 hb => by
    have hz := (Blk.mk (heap_alloc_new w (.cells #[.int .i64 0, .int .i64 0, .slice none 0 0, .slice none 0 0, .slice none 0 0] 26)) : Blk _ w.heap.size 26 [.int .i64 0, .int .i64 0, .slice none 0 0, .slice none 0 0, .slice none 0 0])
    have hl := hz.lt
    have hs := hb.size
    exact ⟨((h.alloc (.cells #[.int .i64 0, .int .i64 0, .slice none 0 0, .slice none 0 0, .slice none 0 0] 26)).below hb).alloc _, ((((Only.refl b w).alloc (.cells #[.int .i64 0, .int .i64 0, .slice none 0 0, .slice none 0 0, .slice none 0 0] 26)).trans (Only.of_below hb)).alloc _), (hz.below hb hl).alloc _, Blk.mk (heap_alloc_new w1 _), Nat.le_refl _, by omega, hbw⟩)
  clear h ht hk IH hd
  have HG := Lib.hid (show ∃ g, w.heap.size = g from ⟨_, rfl⟩)
  go_enter Tryz.func66, Tryz.ntmps66
  go_upto_region 1 with fail
  obtain ⟨g4, hg4⟩ := HG.out
  rw [hg4]
  rw [hg4] at HX0
  clear HG hg4
  generalize w.alloc (.cells #[.int .i64 0, .int .i64 0, .slice none 0 0, .slice none 0 0, .slice none 0 0] 26) = W1 at *
  go_wp2_with fail
  (with_reducible refine HPK.out.mono ?_); rintro e w1 ⟨rfl, hb1⟩
  have HX1 := Lib.hid (HX0.out w1 hb1)
  have HG5 := Lib.hid (show ∃ g, w1.heap.size = g from ⟨_, rfl⟩)
  clear hb1 HX0 HPK
  go_upto_region 2 with fail
  obtain ⟨g5, hg5⟩ := HG5.out
  rw [hg5]
  have HX2 : Hid (ExAt b A n c ts en s w g4 g5 t (w1.alloc (.cells #[.int .i64 t.kd, .int .i64 t.n, .int .i64 t.at_, .string t.tx] 96))) := Lib.hid (by have h := HX1.out; rw [hg5] at h; exact h)
  clear HX1 HG5 hg5
  generalize w1.alloc (.cells #[.int .i64 t.kd, .int .i64 t.n, .int .i64 t.at_, .string t.tx] 96) = W2 at *
  obtain ⟨x0, x1, x2, x3⟩ := blk_cells4 HX2.out.tk
  go_wp2_with fail
  (with_reducible refine (HKD.out _).mono ?_); rintro e w3 ⟨rfl, hb⟩
  have HX3 := Lib.hid (HX2.out.below hb)
  clear hb HX2 x0 x1 x2 x3 HKD
  by_cases h1 : t.kd = 1
  · have a1 : (t.kd != 1) = false := by rw [h1]; rfl
    have a2 : (t.kd == 1) = true := by rw [h1]; rfl
    have HXL := HX3
    obtain ⟨x0, x1, x2, x3⟩ := blk_cells4 HXL.out.tk
    have HN := Lib.hid (show noneF ts s = false by unfold noneF; rw [HT.out, h1]; rfl)
    cases f with
    | zero =>
      have HE := Lib.hid (show exprF ts en n 0 s = (zeroPE, failF ts en s 6) by unfold exprF; rw [if_neg (by rw [HN.out]; simp)])
      have hd8 : ¬ (deep : Int) ≤ 8 := by have := HD.out; omega
      have HC := Lib.hid (fail_any b A n c ts en s 6 _ HXL.out.rd)
      go_wp2_with fail
      (with_reducible refine HC.out.mono ?_); rintro e wf ⟨rfl, hm⟩
      have HXF := Lib.hid (HXL.out.moved hm)
      clear hm HC
      obtain ⟨z0, z1, z2, z3, z4⟩ := blk_cells5 HXF.out.z
      obtain ⟨f0, f1, f2, f3, f4⟩ := blk_fr5 HXF.out.z
      have HQ := Lib.hid (set5W_blk HXF.out.z (.int .i64 0) (.int .i64 0) (.slice none 0 0) (.slice none 0 0) (.slice none 0 0))
      have HANS := Lib.hid (HXF.out.leaf HR0.out 0 0 0)
      go_wp2_with fail
      obtain ⟨q0, q1, q2, q3, q4⟩ := blk_cells5 HQ.out
      unfold set5W at q0 q1 q2 q3 q4
      refine bodyPost_ret (v := .agg #[.int .i64 0, .int .i64 0, .slice none 0 0, .slice none 0 0, .slice none 0 0]) (by simp [results, Tryz.results66, go_sem, q0, q1, q2, q3, q4]) rfl ?_
      rw [HE.out]; exact HANS.out
    | succ f =>
      have hd8 : (deep : Int) ≤ 8 := by have := HD.out; omega
      obtain ⟨⟨tk, tn, ta, tx⟩, s9, hm9⟩ : ∃ m sN, takeF ts en s 1 = (m, sN) := ⟨_, _, rfl⟩
      have HE := Lib.hid (show exprF ts en n (f + 1) s = (.mk 1 tn [] [] [], s9) by unfold exprF; rw [if_neg (by rw [HN.out]; simp), HT.out, if_pos h1, hm9])
      have HC := Lib.hid (take_any b A n c ts en s 1 _ HXL.out.rd (by decide) hn)
      rw [hm9] at HC
      unfold Tok.val at HC
      go_wp2_with fail
      (with_reducible refine HC.out.mono ?_); rintro e wf ⟨rfl, hm⟩
      have HXF := Lib.hid (HXL.out.moved hm)
      clear hm HC
      obtain ⟨z0, z1, z2, z3, z4⟩ := blk_cells5 HXF.out.z
      obtain ⟨f0, f1, f2, f3, f4⟩ := blk_fr5 HXF.out.z
      have HQ := Lib.hid (set5W_blk HXF.out.z (.int .i64 1) (.int .i64 tn) (.slice none 0 0) (.slice none 0 0) (.slice none 0 0))
      have HANS := Lib.hid (HXF.out.leaf HR0.out (f + 1) 1 tn)
      go_wp2_with fail
      obtain ⟨q0, q1, q2, q3, q4⟩ := blk_cells5 HQ.out
      unfold set5W at q0 q1 q2 q3 q4
      refine bodyPost_ret (v := .agg #[.int .i64 1, .int .i64 tn, .slice none 0 0, .slice none 0 0, .slice none 0 0]) (by simp [results, Tryz.results66, go_sem, q0, q1, q2, q3, q4]) rfl ?_
      rw [HE.out]; exact HANS.out
  · have a1 : (t.kd != 1) = true := by rw [bne_iff_ne]; exact h1
    have a2 : (t.kd == 1) = false := by rw [beq_eq_false_iff_ne]; exact h1
    by_cases h2 : k = 0
    · have b1 : (k == 0) = true := by rw [h2]; rfl
      have b2 : (k != 0) = false := by rw [h2]; rfl
      obtain ⟨x0, x1, x2, x3⟩ := blk_cells4 HX3.out.tk
      cases hq : isF ts s 4 ⟨#[123]⟩ with
      | true =>
        have HC := Lib.hid (HIS.out _ HX3.out.rd ⟨#[123]⟩)
        rw [hq] at HC
        go_wp2_with fail
        (with_reducible refine HC.out.mono ?_); rintro e w4 ⟨rfl, hb⟩
        have HXL := Lib.hid (HX3.out.below hb)
        clear hb HC
        obtain ⟨x0, x1, x2, x3⟩ := blk_cells4 HXL.out.tk
        have HN := Lib.hid (show noneF ts s = false by unfold noneF; rw [hq]; simp)
        cases f with
        | zero =>
          have HE := Lib.hid (show exprF ts en n 0 s = (zeroPE, failF ts en s 6) by unfold exprF; rw [if_neg (by rw [HN.out]; simp)])
          have hd8 : ¬ (deep : Int) ≤ 8 := by have := HD.out; omega
          have HC := Lib.hid (fail_any b A n c ts en s 6 _ HXL.out.rd)
          go_wp2_with fail
          (with_reducible refine HC.out.mono ?_); rintro e wf ⟨rfl, hm⟩
          have HXF := Lib.hid (HXL.out.moved hm)
          clear hm HC
          obtain ⟨z0, z1, z2, z3, z4⟩ := blk_cells5 HXF.out.z
          obtain ⟨f0, f1, f2, f3, f4⟩ := blk_fr5 HXF.out.z
          have HQ := Lib.hid (set5W_blk HXF.out.z (.int .i64 0) (.int .i64 0) (.slice none 0 0) (.slice none 0 0) (.slice none 0 0))
          have HANS := Lib.hid (HXF.out.leaf HR0.out 0 0 0)
          go_wp2_with fail
          obtain ⟨q0, q1, q2, q3, q4⟩ := blk_cells5 HQ.out
          unfold set5W at q0 q1 q2 q3 q4
          refine bodyPost_ret (v := .agg #[.int .i64 0, .int .i64 0, .slice none 0 0, .slice none 0 0, .slice none 0 0]) (by simp [results, Tryz.results66, go_sem, q0, q1, q2, q3, q4]) rfl ?_
          rw [HE.out]; exact HANS.out
        | succ f =>
          have hd8 : (deep : Int) ≤ 8 := by have := HD.out; omega
          have HE := Lib.hid (show exprF ts en n (f + 1) s = pickR ts en n s by unfold exprF; rw [if_neg (by rw [HN.out]; simp), HT.out, HK.out, if_neg h1, if_neg (by rw [h2]; simp), if_pos hq])
          have HC := Lib.hid (HIS.out _ HXL.out.rd ⟨#[123]⟩)
          rw [hq] at HC
          go_wp2_with fail
          (with_reducible refine HC.out.mono ?_); rintro e w5 ⟨rfl, hb⟩
          have HXM := Lib.hid (HXL.out.below hb)
          clear hb HC
          obtain ⟨x0, x1, x2, x3⟩ := blk_cells4 HXM.out.tk
          have HC := Lib.hid ((pick_x b A n c ts en s _ HXM.out.rd hn).mono (fun e w9 hh => hh.floors (f + 1)))
          go_wp2_with fail
          (with_reducible refine HC.out.mono ?_); rintro e wp hx
          obtain ⟨xk, xn, A1, c1, xms, A2, c2, xns, A3, c3, xks, rfl, hp, hf, hm⟩ := hx.forms
          have HANS := Lib.hid (HXM.out.pass HR0.out hp hf hm)
          have HZP := Lib.hid ((HXM.out.moved hm).z)
          clear hx hp hf hm HC
          obtain ⟨z0, z1, z2, z3, z4⟩ := blk_cells5 HZP.out
          obtain ⟨f0, f1, f2, f3, f4⟩ := blk_fr5 HZP.out
          have HQ := Lib.hid (set5W_blk HZP.out (.int .i64 xk) (.int .i64 xn) (.slice A1 xms.length c1) (.slice A2 xns.length c2) (.slice A3 xks.length c3))
          go_wp2_with fail
          obtain ⟨q0, q1, q2, q3, q4⟩ := blk_cells5 HQ.out
          unfold set5W at q0 q1 q2 q3 q4
          refine bodyPost_ret (v := .agg #[.int .i64 xk, .int .i64 xn, .slice A1 xms.length c1, .slice A2 xns.length c2, .slice A3 xks.length c3]) (by simp [results, Tryz.results66, go_sem, q0, q1, q2, q3, q4]) rfl ?_
          rw [HE.out, show f + 1 + 1 = 1 + (f + 1) by omega]; exact HANS.out
      | false =>
        have HC := Lib.hid (HIS.out _ HX3.out.rd ⟨#[123]⟩)
        rw [hq] at HC
        go_wp2_with fail
        (with_reducible refine HC.out.mono ?_); rintro e w4 ⟨rfl, hb⟩
        have HX4 := Lib.hid (HX3.out.below hb)
        clear hb HC
        obtain ⟨x0, x1, x2, x3⟩ := blk_cells4 HX4.out.tk
        cases hq2 : isF ts s 4 ⟨#[40]⟩ with
        | true =>
          have HC := Lib.hid (HIS.out _ HX4.out.rd ⟨#[40]⟩)
          rw [hq2] at HC
          go_wp2_with fail
          (with_reducible refine HC.out.mono ?_); rintro e w5 ⟨rfl, hb⟩
          have HXL := Lib.hid (HX4.out.below hb)
          clear hb HC
          obtain ⟨x0, x1, x2, x3⟩ := blk_cells4 HXL.out.tk
          have HN := Lib.hid (show noneF ts s = false by unfold noneF; rw [hq2]; simp)
          cases f with
          | zero =>
            have HE := Lib.hid (show exprF ts en n 0 s = (zeroPE, failF ts en s 6) by unfold exprF; rw [if_neg (by rw [HN.out]; simp)])
            have hd8 : ¬ (deep : Int) ≤ 8 := by have := HD.out; omega
            have HC := Lib.hid (fail_any b A n c ts en s 6 _ HXL.out.rd)
            go_wp2_with fail
            (with_reducible refine HC.out.mono ?_); rintro e wf ⟨rfl, hm⟩
            have HXF := Lib.hid (HXL.out.moved hm)
            clear hm HC
            obtain ⟨z0, z1, z2, z3, z4⟩ := blk_cells5 HXF.out.z
            obtain ⟨f0, f1, f2, f3, f4⟩ := blk_fr5 HXF.out.z
            have HQ := Lib.hid (set5W_blk HXF.out.z (.int .i64 0) (.int .i64 0) (.slice none 0 0) (.slice none 0 0) (.slice none 0 0))
            have HANS := Lib.hid (HXF.out.leaf HR0.out 0 0 0)
            go_wp2_with fail
            obtain ⟨q0, q1, q2, q3, q4⟩ := blk_cells5 HQ.out
            unfold set5W at q0 q1 q2 q3 q4
            refine bodyPost_ret (v := .agg #[.int .i64 0, .int .i64 0, .slice none 0 0, .slice none 0 0, .slice none 0 0]) (by simp [results, Tryz.results66, go_sem, q0, q1, q2, q3, q4]) rfl ?_
            rw [HE.out]; exact HANS.out
          | succ f =>
            have hd8 : (deep : Int) ≤ 8 := by have := HD.out; omega
            have HE := Lib.hid (show exprF ts en n (f + 1) s = ofTwoF ts en (exprF ts en n f) s by unfold exprF; rw [if_neg (by rw [HN.out]; simp), HT.out, HK.out, if_neg h1, if_neg (by rw [h2]; simp), if_neg (by rw [hq]; simp)])
            have HC := Lib.hid (HIS.out _ HXL.out.rd ⟨#[123]⟩)
            rw [hq] at HC
            go_wp2_with fail
            (with_reducible refine HC.out.mono ?_); rintro e w6 ⟨rfl, hb⟩
            have HXM := Lib.hid (HXL.out.below hb)
            clear hb HC
            obtain ⟨x0, x1, x2, x3⟩ := blk_cells4 HXM.out.tk
            have HC := Lib.hid (two_x b A n c ts en f (HIH.out f rfl) hn deep s _ HD.out HXM.out.rd)
            go_wp2_with fail
            (with_reducible refine HC.out.mono ?_); rintro e wp hx
            obtain ⟨xk, xn, A1, c1, xms, A2, c2, xns, A3, c3, xks, rfl, hp, hf, hm⟩ := hx.forms
            have HANS := Lib.hid (HXM.out.pass HR0.out hp hf hm)
            have HZP := Lib.hid ((HXM.out.moved hm).z)
            clear hx hp hf hm HC
            obtain ⟨z0, z1, z2, z3, z4⟩ := blk_cells5 HZP.out
            obtain ⟨f0, f1, f2, f3, f4⟩ := blk_fr5 HZP.out
            have HQ := Lib.hid (set5W_blk HZP.out (.int .i64 xk) (.int .i64 xn) (.slice A1 xms.length c1) (.slice A2 xns.length c2) (.slice A3 xks.length c3))
            go_wp2_with fail
            obtain ⟨q0, q1, q2, q3, q4⟩ := blk_cells5 HQ.out
            unfold set5W at q0 q1 q2 q3 q4
            refine bodyPost_ret (v := .agg #[.int .i64 xk, .int .i64 xn, .slice A1 xms.length c1, .slice A2 xns.length c2, .slice A3 xks.length c3]) (by simp [results, Tryz.results66, go_sem, q0, q1, q2, q3, q4]) rfl ?_
            rw [HE.out]; exact HANS.out
        | false =>
          have HC := Lib.hid (HIS.out _ HX4.out.rd ⟨#[40]⟩)
          rw [hq2] at HC
          go_wp2_with fail
          (with_reducible refine HC.out.mono ?_); rintro e w5 ⟨rfl, hb⟩
          have HX5 := Lib.hid (HX4.out.below hb)
          clear hb HC
          obtain ⟨x0, x1, x2, x3⟩ := blk_cells4 HX5.out.tk
          have HE := Lib.hid (show exprF ts en n f s = (zeroPE, failF ts en s 1) by
            have hno : noneF ts s = true := by unfold noneF; rw [HT.out, HK.out, a1, b1, hq, hq2]; rfl
            cases f with
            | zero => unfold exprF; rw [if_pos hno]
            | succ f => unfold exprF; rw [if_pos hno])
          have HC := Lib.hid (fail_any b A n c ts en s 1 _ HX5.out.rd)
          go_wp2_with fail
          (with_reducible refine HC.out.mono ?_); rintro e wf ⟨rfl, hm⟩
          have HXF := Lib.hid (HX5.out.moved hm)
          clear hm HC
          obtain ⟨z0, z1, z2, z3, z4⟩ := blk_cells5 HXF.out.z
          obtain ⟨f0, f1, f2, f3, f4⟩ := blk_fr5 HXF.out.z
          have HQ := Lib.hid (set5W_blk HXF.out.z (.int .i64 0) (.int .i64 0) (.slice none 0 0) (.slice none 0 0) (.slice none 0 0))
          have HANS := Lib.hid (HXF.out.leaf HR0.out f 0 0)
          go_wp2_with fail
          obtain ⟨q0, q1, q2, q3, q4⟩ := blk_cells5 HQ.out
          unfold set5W at q0 q1 q2 q3 q4
          refine bodyPost_ret (v := .agg #[.int .i64 0, .int .i64 0, .slice none 0 0, .slice none 0 0, .slice none 0 0]) (by simp [results, Tryz.results66, go_sem, q0, q1, q2, q3, q4]) rfl ?_
          rw [HE.out]; exact HANS.out
    · have b1 : (k == 0) = false := by rw [beq_eq_false_iff_ne]; exact h2
      have b2 : (k != 0) = true := by rw [bne_iff_ne]; exact h2
      have HXL := HX3
      obtain ⟨x0, x1, x2, x3⟩ := blk_cells4 HXL.out.tk
      have HN := Lib.hid (show noneF ts s = false by unfold noneF; rw [HT.out, HK.out, b1]; simp)
      cases f with
      | zero =>
        have HE := Lib.hid (show exprF ts en n 0 s = (zeroPE, failF ts en s 6) by unfold exprF; rw [if_neg (by rw [HN.out]; simp)])
        have hd8 : ¬ (deep : Int) ≤ 8 := by have := HD.out; omega
        have HC := Lib.hid (fail_any b A n c ts en s 6 _ HXL.out.rd)
        go_wp2_with fail
        (with_reducible refine HC.out.mono ?_); rintro e wf ⟨rfl, hm⟩
        have HXF := Lib.hid (HXL.out.moved hm)
        clear hm HC
        obtain ⟨z0, z1, z2, z3, z4⟩ := blk_cells5 HXF.out.z
        obtain ⟨f0, f1, f2, f3, f4⟩ := blk_fr5 HXF.out.z
        have HQ := Lib.hid (set5W_blk HXF.out.z (.int .i64 0) (.int .i64 0) (.slice none 0 0) (.slice none 0 0) (.slice none 0 0))
        have HANS := Lib.hid (HXF.out.leaf HR0.out 0 0 0)
        go_wp2_with fail
        obtain ⟨q0, q1, q2, q3, q4⟩ := blk_cells5 HQ.out
        unfold set5W at q0 q1 q2 q3 q4
        refine bodyPost_ret (v := .agg #[.int .i64 0, .int .i64 0, .slice none 0 0, .slice none 0 0, .slice none 0 0]) (by simp [results, Tryz.results66, go_sem, q0, q1, q2, q3, q4]) rfl ?_
        rw [HE.out]; exact HANS.out
      | succ f =>
        have hd8 : (deep : Int) ≤ 8 := by have := HD.out; omega
        have HE := Lib.hid (show exprF ts en n (f + 1) s = ofOneF ts en n (exprF ts en n f) k s by unfold exprF; rw [if_neg (by rw [HN.out]; simp), HT.out, HK.out, if_neg h1, if_pos h2])
        have HC := Lib.hid (one_x b A n c ts en f (HIH.out f rfl) hn k deep s _ HD.out HXL.out.rd)
        go_wp2_with fail
        (with_reducible refine HC.out.mono ?_); rintro e wp hx
        obtain ⟨xk, xn, A1, c1, xms, A2, c2, xns, A3, c3, xks, rfl, hp, hf, hm⟩ := hx.forms
        have HANS := Lib.hid (HXL.out.pass HR0.out hp hf hm)
        have HZP := Lib.hid ((HXL.out.moved hm).z)
        clear hx hp hf hm HC
        obtain ⟨z0, z1, z2, z3, z4⟩ := blk_cells5 HZP.out
        obtain ⟨f0, f1, f2, f3, f4⟩ := blk_fr5 HZP.out
        have HQ := Lib.hid (set5W_blk HZP.out (.int .i64 xk) (.int .i64 xn) (.slice A1 xms.length c1) (.slice A2 xns.length c2) (.slice A3 xks.length c3))
        go_wp2_with fail
        obtain ⟨q0, q1, q2, q3, q4⟩ := blk_cells5 HQ.out
        unfold set5W at q0 q1 q2 q3 q4
        refine bodyPost_ret (v := .agg #[.int .i64 xk, .int .i64 xn, .slice A1 xms.length c1, .slice A2 xns.length c2, .slice A3 xks.length c3]) (by simp [results, Tryz.results66, go_sem, q0, q1, q2, q3, q4]) rfl ?_
        rw [HE.out]; exact HANS.out
/-- expr reads what exprF tells. -/
theorem expr_x (b : Nat) (A : Option Addr) (n c : Nat) (ts : List Tok) (en : Int) (hn : n ≤ 1000000) : ∀ f, ExprSaid b A n c ts en f
  | 0 => expr_step b A n c ts en hn 0 (fun f' h => by omega)
  | f + 1 => expr_step b A n c ts en hn (f + 1) (fun f' h => by injection h with h; subst h; exact expr_x b A n c ts en hn f)
end Go.Proofs.YtcaapbbbekggiaaGreatDoor

namespace Go.Proofs.YtcaapbbbekggiaaGreatDoor
open Go.ChangeShapes Go.WideShapes Go.ChangeAt Go.RowKit
set_option linter.unusedVariables false
set_option maxRecDepth 100000
theorem int_ne {a b : Int} (h : ¬ a = b) : (a == b) = false := by rw [beq_eq_false_iff_ne]; exact h
set_option maxHeartbeats 1000000 in
theorem sign_any (k : Int) (w : World) : Calls Tryz.prog 44 #[.int .i64 k] w fun e w' => e = .returned (.string (signF k)) ∧ w = w' := by
  by_cases h1 : k = 1
  · subst h1; go_enter Tryz.func44, Tryz.ntmps44
    go_wp2_with fail
    go_ret
    exact ⟨rfl, rfl⟩
  · by_cases h2 : k = 2
    · subst h2; go_enter Tryz.func44, Tryz.ntmps44
      go_wp2_with fail
      go_ret
      exact ⟨rfl, rfl⟩
    · by_cases h3 : k = 3
      · subst h3; go_enter Tryz.func44, Tryz.ntmps44
        go_wp2_with fail
        go_ret
        exact ⟨rfl, rfl⟩
      · by_cases h4 : k = 4
        · subst h4; go_enter Tryz.func44, Tryz.ntmps44
          go_wp2_with fail
          go_ret
          exact ⟨rfl, rfl⟩
        · have HS := Lib.hid (show signF k = ⟨#[]⟩ by unfold signF; rw [if_neg h1, if_neg h2, if_neg h3, if_neg h4])
          have t1 := int_ne h1; have t2 := int_ne h2; have t3 := int_ne h3; have t4 := int_ne h4
          go_enter Tryz.func44, Tryz.ntmps44
          go_wp2_with fail
          go_ret
          exact ⟨by rw [HS.out]; rfl, rfl⟩
/-- May x be a matcher. -/
def mtcOk (x : Mtc) : Bool := wordF x.1 && (decide (x.2.1.size ≤ 24) && !decide (signF x.2.2 = ⟨#[]⟩))
/-- May these be matchers. -/
def rightM (ms : List Mtc) : Bool := decide (ms.length ≤ 6) && ms.all mtcOk
theorem rightM_bad {ms : List Mtc} {x : Mtc} (hx : x ∈ ms) (h : mtcOk x = false) : rightM ms = false := by
  have : ms.all mtcOk = false := by rw [List.all_eq_false]; exact ⟨x, hx, by rw [h]; simp⟩
  rw [rightM, this, Bool.and_false]
theorem ba_empty {s : ByteArray} (h : ¬ s = ⟨#[]⟩) : s.toList ≠ [] := fun e => h (ba_ext (by rw [e]; exact (ba_list []).symm))
set_option maxHeartbeats 2000000 in
theorem rightM_any (A2 : Option Addr) (n2 c2 B2 : Nat) (ms : List Mtc) (w : World) (h2 : Sees w B2 3 A2 n2 (mtcs ms)) (hB2 : B2 ≤ w.heap.size) (hn2 : n2 ≤ 9223372036854775807) :
    Calls Tryz.prog 23 #[.slice A2 n2 c2] w fun e w' => e = .returned (.bool (rightM ms)) ∧ Below w.heap.size w w' := by
  have H2 := Lib.hid h2
  have HL := Lib.hid h2.mtc_len
  clear h2
  by_cases h6 : n2 ≤ 6
  · have j6 : ¬ (6 : Int) < n2 := by omega
    have H6 := Lib.hid h6
    go_enter Tryz.func23, Tryz.ntmps23
    go_wp2_with fail
    go_loopg [10] n2 (fun g x10 wr => ∃ k : Nat, k + g = n2 ∧ x10 = .int .i64 k ∧ Below w.heap.size w wr ∧ ∀ x ∈ ms.take k, mtcOk x = true)
    case atStart => exact ⟨0, by omega, rfl, Below.refl _ _, (fun x hx => by simp at hx)⟩
    case round =>
      obtain ⟨k, hkg, rfl, hbel, hno⟩ := hrel
      have HB := Lib.hid hbel; have HNO := Lib.hid hno
      have hws := hbel.size
      clear hbel hno
      cases gk with
      | zero =>
        obtain rfl : k = n2 := by omega
        have HE := Lib.hid (show rightM ms = true by
          have h1 : ms.all mtcOk = true := List.all_eq_true.2 (fun x hx => HNO.out x (by rw [List.take_of_length_le (by rw [HL.out]; exact Nat.le_refl _)]; exact hx))
          rw [rightM, h1, HL.out, decide_eq_true H6.out]; rfl)
        go_wp2_with fail
        go_ret
        exact ⟨by rw [HE.out]; rfl, HB.out⟩
      | succ g =>
        have hlt : k < n2 := by omega
        obtain ⟨ad, hkl, rfl, c0, c1, c2⟩ := (H2.out.below (HB.out.mono hB2)).mtc hlt
        have hal := World.block_lt_of_cell? wr _ c0
        have HT := Lib.hid (List.take_succ_eq_append_getElem hkl)
        have HM := Lib.hid (List.getElem_mem hkl)
        generalize ms[k] = p at *
        obtain ⟨a, b, kd⟩ := p
        simp only at c0 c1 c2
        have HBA := Lib.hid (HB.out.alloc hws (.cells #[.string a, .string b, .int .i64 kd] 57))
        have HR : Hid (mtcOk (a, b, kd) = false → rightM ms = false) := Lib.hid (rightM_bad HM.out)
        have HN : Hid (mtcOk (a, b, kd) = true → ∀ x ∈ ms.take (k + 1), mtcOk x = true) := Lib.hid (fun h x hx => by
          rw [HT.out] at hx
          rcases List.mem_append.1 hx with hx | hx
          · exact HNO.out x hx
          · rw [List.mem_singleton] at hx; rw [hx]; exact h)
        have HOK : Hid (mtcOk (a, b, kd) = (wordF a && (decide (b.size ≤ 24) && !decide (signF kd = ⟨#[]⟩)))) := Lib.hid rfl
        have HW := Lib.hid (fun W => word_any a W)
        have HS := Lib.hid (fun W => sign_any kd W)
        clear HT HM
        generalize wordF a = wa at *
        generalize signF kd = s at *
        cases wa with
        | false =>
          have HE := Lib.hid (HR.out (by rw [HOK.out]; rfl))
          clear HR HN HOK
          go_wp2_with fail
          (with_reducible refine (HW.out _).mono ?_); rintro e w1 ⟨rfl, rfl⟩
          go_wp2_with fail
          go_ret
          exact ⟨by rw [HE.out]; rfl, HBA.out⟩
        | true =>
          by_cases hb2 : b.size ≤ 24
          · have y2 : ¬ (24 : Int) < b.size := by omega
            by_cases hs : s = ⟨#[]⟩
            · have HE := Lib.hid (HR.out (by rw [HOK.out, decide_eq_true hs]; simp))
              subst hs
              clear HR HN HOK
              go_wp2_with fail
              (with_reducible refine (HW.out _).mono ?_); rintro e w1 ⟨rfl, rfl⟩
              go_wp2_with fail
              (with_reducible refine (HS.out _).mono ?_); rintro e w1 ⟨rfl, rfl⟩
              go_wp2_with fail
              go_ret
              exact ⟨by rw [HE.out]; rfl, HBA.out⟩
            · have HN1 := Lib.hid (HN.out (by rw [HOK.out, decide_eq_false hs, decide_eq_true hb2]; rfl))
              have t0 := ba_empty hs
              have t1 : (s.toList == []) = false := by rw [beq_eq_false_iff_ne]; exact t0
              have t2 : s.toList.isEmpty = false := by cases hq : s.toList with | nil => exact absurd hq t0 | cons x y => rfl
              clear HR HN HOK hs
              go_wp2_with fail
              (with_reducible refine (HW.out _).mono ?_); rintro e w1 ⟨rfl, rfl⟩
              go_wp2_with fail
              (with_reducible refine (HS.out _).mono ?_); rintro e w1 ⟨rfl, rfl⟩
              go_wp2_with fail
              go_roundg g
              case measure => omega
              case rel => exact ⟨k + 1, by omega, by go_num, HBA.out, HN1.out⟩
          · have y2 : (24 : Int) < b.size := by omega
            have HE := Lib.hid (HR.out (by rw [HOK.out, decide_eq_false hb2]; simp))
            clear HR HN HOK
            go_wp2_with fail
            (with_reducible refine (HW.out _).mono ?_); rintro e w1 ⟨rfl, rfl⟩
            go_wp2_with fail
            go_ret
            exact ⟨by rw [HE.out]; rfl, HBA.out⟩
  · have j6 : (6 : Int) < n2 := by omega
    have HE := Lib.hid (show rightM ms = false by rw [rightM, HL.out, decide_eq_false h6]; rfl)
    go_enter Tryz.func23, Tryz.ntmps23
    go_wp2_with fail
    go_ret
    exact ⟨by rw [HE.out]; rfl, Below.refl _ _⟩
end Go.Proofs.YtcaapbbbekggiaaGreatDoor

namespace Go.Proofs.YtcaapbbbekggiaaGreatDoor
open Go.ChangeShapes Go.WideShapes Go.ChangeAt Go.RowKit
set_option linter.unusedVariables false
set_option linter.unusedSimpArgs false
set_option maxRecDepth 100000
/-- What an expression of one comes to. -/
def oneT (ns : List ByteArray) (tys : List Int) : Int := if namesF ns = true ∧ tys = [2] then 2 else 0
/-- .. of two. -/
def twoT (k : Int) (ns : List ByteArray) (tys : List Int) : Int := match ns, tys with
  | [], [a, b] => if a = 0 ∨ b = 0 then 0 else if k ≤ 7 ∧ a = 1 ∧ b = 1 then 1 else if k ≤ 7 then 2 else if k ≤ 13 ∧ a ≠ 2 then 0 else if 13 < k ∧ (a ≠ 2 ∨ b ≠ 2) then 0 else 2
  | _, _ => 0
mutual
def PE.ty : PE → Int
  | .mk k n ms ns ks => if k = 1 then (if ms.length + ns.length + ks.length = 0 then 1 else 0)
    else if k = 2 then (if ns.length + ks.length = 0 ∧ rightM ms = true ∧ 1 ≤ n ∧ n ≤ 1048576 then 2 else 0)
    else if ¬ (ms.length = 0 ∧ n = 0) then 0
    else if wordX k ≠ ⟨#[]⟩ then oneT ns (tysP ks)
    else if signX k ≠ ⟨#[]⟩ then twoT k ns (tysP ks) else 0
def tysP : List PE → List Int
  | [] => []
  | x :: l => x.ty :: tysP l
end
theorem tysP_length (l : List XE) : (tysP (pesX l)).length = l.length := by
  induction l with
  | nil => rfl
  | cons x l ih => simp [pesX, tysP, ih]
mutual
/-- An expression whose rows are short (their lengths are summed without overflow). -/
def PE.small : PE → Prop
  | .mk _ _ ms ns ks => ms.length ≤ 1000002 ∧ ns.length ≤ 1000002 ∧ ks.length ≤ 1000002 ∧ smallP ks
def smallP : List PE → Prop
  | [] => True
  | x :: l => x.small ∧ smallP l
end
theorem smallP_mem : ∀ (l : List XE), smallP (pesX l) → ∀ x ∈ l, x.pe.small
  | [], _ => fun x hx => absurd hx List.not_mem_nil
  | y :: l, h => fun x hx => by
    have h' : y.pe.small ∧ smallP (pesX l) := h
    rcases List.mem_cons.1 hx with rfl | hx
    · exact h'.1
    · exact smallP_mem l h'.2 x hx
/-- What is told of Type at trees of so many floors. -/
def TypeSaid (d : Nat) : Prop := ∀ (x : XE) (w : World), x.pe.small → okX d x w → Calls Tryz.prog 9 #[x.val] w fun e w' => e = .returned (.int .i64 x.pe.ty) ∧ Below w.heap.size w w'
theorem Slc.slice {w : World} {size n c : Nat} {A : Option Addr} {xs : List Value} {m : Nat} (h : Slc w size (.slice A m c) n xs) : Sees w w.heap.size size A n xs ∧ n ≤ c ∧ c ≤ 9223372036854775807 := by
  obtain ⟨A', c', e, h1, h2⟩ := h
  injection e with e1 e2 e3
  subst e1; subst e3
  exact ⟨h1, h2⟩
set_option maxHeartbeats 2000000 in
theorem typeOne_x (d : Nat) (IH : TypeSaid d) (kk nn : Int) (A1 : Option Addr) (c1 : Nat) (ms : List Mtc) (A2 : Option Addr) (c2 : Nat) (ns : List ByteArray) (A3 : Option Addr) (c3 : Nat) (ks : List XE) (w : World) (hs : smallP (pesX ks))
    (h : okX (d + 1) (.mk kk nn (.slice A1 ms.length c1) ms (.slice A2 ns.length c2) ns (.slice A3 ks.length c3) ks) w) :
    Calls Tryz.prog 25 #[.agg #[.int .i64 kk, .int .i64 nn, .slice A1 ms.length c1, .slice A2 ns.length c2, .slice A3 ks.length c3]] w fun e w' => e = .returned (.int .i64 (oneT ns (tysP (pesX ks)))) ∧ Below w.heap.size w w' := by
  obtain ⟨_, h2, h3, h4⟩ := h
  obtain ⟨s2, m2, m2'⟩ := Slc.slice h2
  obtain ⟨s3, m3, m3'⟩ := Slc.slice h3
  replace s3 : Sees w w.heap.size 5 A3 ks.length (kcells ks) := s3
  have hb : Below w.heap.size w (w.alloc (.cells #[.int .i64 kk, .int .i64 nn, .slice A1 ms.length c1, .slice A2 ns.length c2, .slice A3 ks.length c3] 26)) := (Below.refl _ _).alloc (Nat.le_refl _) _
  have HB := Lib.hid hb
  have HX := Lib.hid (Blk.mk (heap_alloc_new w (.cells #[.int .i64 kk, .int .i64 nn, .slice A1 ms.length c1, .slice A2 ns.length c2, .slice A3 ks.length c3] 26)) : Blk _ w.heap.size 26 [.int .i64 kk, .int .i64 nn, .slice A1 ms.length c1, .slice A2 ns.length c2, .slice A3 ks.length c3])
  have HN := Lib.hid (names_x A2 ns.length c2 _ ns (w.alloc (.cells #[.int .i64 kk, .int .i64 nn, .slice A1 ms.length c1, .slice A2 ns.length c2, .slice A3 ks.length c3] 26)) (s2.below hb) m2 m2')
  have H3 := Lib.hid (s3.below hb)
  have HI := Lib.hid (fun x (hx : x ∈ ks) => IH x (w.alloc (.cells #[.int .i64 kk, .int .i64 nn, .slice A1 ms.length c1, .slice A2 ns.length c2, .slice A3 ks.length c3] 26)) (smallP_mem ks hs x hx) (okX_below hb d x (h4 x hx)))
  have HOK := Lib.hid (fun x (hx : x ∈ ks) => okX_below hb d x (h4 x hx))
  have HT : Hid (oneT ns (tysP (pesX ks)) = if namesF ns = true ∧ tysP (pesX ks) = [2] then 2 else 0) := Lib.hid rfl
  obtain ⟨q, hq⟩ : ∃ q, oneT ns (tysP (pesX ks)) = q := ⟨_, rfl⟩
  rw [hq] at HT ⊢
  clear h2 h3 h4 s2 s3 hb IH hq m3 m3' hs
  go_enter Tryz.func25, Tryz.ntmps25
  go_upto_region 1 with fail
  generalize w.alloc (.cells #[.int .i64 kk, .int .i64 nn, .slice A1 ms.length c1, .slice A2 ns.length c2, .slice A3 ks.length c3] 26) = W1 at *
  obtain ⟨x0, x1, x2, x3, x4⟩ := blk_cells5 HX.out
  cases hn : namesF ns with
  | false =>
    rw [hn] at HN
    have HE := Lib.hid (show q = 0 by rw [HT.out, if_neg (by rw [hn]; simp)])
    clear hn
    go_wp2_with fail
    (with_reducible refine HN.out.mono ?_); rintro e w' ⟨rfl, rfl⟩
    go_wp2_with fail
    go_ret
    exact ⟨by rw [HE.out]; rfl, HB.out⟩
  | true =>
    rw [hn] at HN
    match ks with
    | [] =>
      have HE := Lib.hid (show q = 0 by rw [HT.out, if_neg (fun h => absurd h.2 (by simp [pesX, tysP]))])
      clear hn
      go_wp2_with fail
      (with_reducible refine HN.out.mono ?_); rintro e w' ⟨rfl, rfl⟩
      go_wp2_with fail
      go_ret
      exact ⟨by rw [HE.out]; rfl, HB.out⟩
    | a :: b :: l =>
      have t1 : (((l.length + 1 + 1 : Nat) : Int) != 1) = true := by rw [bne_iff_ne]; omega
      have t2 : ((l.length : Int) + 1 + 1 != 1) = true := by rw [bne_iff_ne]; omega
      have HE := Lib.hid (show q = 0 by rw [HT.out, if_neg (fun h => absurd h.2 (by simp [pesX, tysP]))])
      clear hn
      go_wp2_with fail
      (with_reducible refine HN.out.mono ?_); rintro e w' ⟨rfl, rfl⟩
      go_wp2_with fail
      go_ret
      exact ⟨by rw [HE.out]; rfl, HB.out⟩
    | [a] =>
      obtain ⟨ad, hl, rfl, c0, c1', c2', c3', c4⟩ := H3.out.kid (k := 0) (by simp)
      have e0 : ad.add (0 * 5) = ad := by first | (simp [go_sem]; done) | (unfold Addr.add; split <;> simp_all)
      rw [e0] at c0 c1' c2' c3' c4
      obtain ⟨B1, e1, B2, e2, B3, e3, v1, v2, v3⟩ := okX_forms (HOK.out a (by simp))
      have HIA := Lib.hid (HI.out a (by simp))
      have HE := Lib.hid (show q = if a.pe.ty = 2 then 2 else 0 by rw [HT.out]; simp [hn, pesX, tysP])
      obtain ⟨ak, an, amv, ams, anv, ans, akv, aks⟩ := a
      simp only [XE.mv, XE.nv, XE.kv, XE.ms, XE.ns, XE.kids] at v1 v2 v3
      subst v1; subst v2; subst v3
      simp only [List.getElem_cons_zero, XE.kd, XE.n, XE.mv, XE.nv, XE.kv, XE.val] at c0 c1' c2' c3' c4 HIA
      clear hn
      generalize (XE.pe _).ty = ta at *
      go_wp2_with fail
      (with_reducible refine HN.out.mono ?_); rintro e w' ⟨rfl, rfl⟩
      go_wp2_with fail
      (with_reducible refine HIA.out.mono ?_); rintro e w2 ⟨rfl, hb2⟩
      have HB2 := Lib.hid (HB.out.trans (hb2.mono HB.out.size))
      clear hb2
      by_cases ht : ta = 2
      · have t1 : (ta != 2) = false := by rw [ht]; rfl
        have HE2 := Lib.hid (show q = 2 by rw [HE.out, if_pos ht])
        clear ht
        go_wp2_with fail
        go_ret
        exact ⟨by rw [HE2.out]; rfl, HB2.out⟩
      · have t1 : (ta != 2) = true := by rw [bne_iff_ne]; exact ht
        have HE2 := Lib.hid (show q = 0 by rw [HE.out, if_neg ht])
        clear ht
        go_wp2_with fail
        go_ret
        exact ⟨by rw [HE2.out]; rfl, HB2.out⟩
end Go.Proofs.YtcaapbbbekggiaaGreatDoor

namespace Go.Proofs.YtcaapbbbekggiaaGreatDoor
open Go.ChangeShapes Go.WideShapes Go.ChangeAt Go.RowKit
set_option linter.unusedVariables false
set_option linter.unusedSimpArgs false
set_option maxRecDepth 100000
theorem kidT_cells0 {V : World} {ad : Addr} {u0 u1 u2 u3 u4 : Value} {r : List Value} (h : ∀ j u, (u0 :: u1 :: u2 :: u3 :: u4 :: r)[j]? = some u → V.cell? (ad.add j) = some u) :
    V.cell? ad = some u0 ∧ V.cell? ⟨ad.block, ad.off + 1, none⟩ = some u1 ∧ V.cell? ⟨ad.block, ad.off + 2, none⟩ = some u2 ∧ V.cell? ⟨ad.block, ad.off + 3, none⟩ = some u3 ∧ V.cell? ⟨ad.block, ad.off + 4, none⟩ = some u4 := by
  have h0 := h 0 _ rfl
  rw [add_zero'] at h0
  have hs : ∀ j, 0 < j → (⟨ad.block, ad.off + j, none⟩ : Addr) = ad.add j := fun j hj => by
    have := add_spelt ad 0 j hj
    rwa [add_zero', Nat.zero_add] at this
  exact ⟨h0, by rw [hs 1 (by omega)]; exact h 1 _ rfl, by rw [hs 2 (by omega)]; exact h 2 _ rfl, by rw [hs 3 (by omega)]; exact h 3 _ rfl, by rw [hs 4 (by omega)]; exact h 4 _ rfl⟩
theorem kidT_cells5 {V : World} {ad : Addr} {a0 a1 a2 a3 a4 u0 u1 u2 u3 u4 : Value} (h : ∀ j u, [a0, a1, a2, a3, a4, u0, u1, u2, u3, u4][j]? = some u → V.cell? (ad.add j) = some u) :
    V.cell? ⟨ad.block, ad.off + 5, none⟩ = some u0 ∧ V.cell? ⟨ad.block, ad.off + 5 + 1, none⟩ = some u1 ∧ V.cell? ⟨ad.block, ad.off + 5 + 2, none⟩ = some u2 ∧ V.cell? ⟨ad.block, ad.off + 5 + 3, none⟩ = some u3 ∧ V.cell? ⟨ad.block, ad.off + 5 + 4, none⟩ = some u4 := by
  have hs : ∀ j, 0 < j → (⟨ad.block, ad.off + j, none⟩ : Addr) = ad.add j := fun j hj => by
    have := add_spelt ad 0 j hj
    rwa [add_zero', Nat.zero_add] at this
  exact ⟨by rw [hs 5 (by omega)]; exact h 5 _ rfl, by rw [Nat.add_assoc, hs _ (by omega)]; exact h 6 _ rfl, by rw [Nat.add_assoc, hs _ (by omega)]; exact h 7 _ rfl, by rw [Nat.add_assoc, hs _ (by omega)]; exact h 8 _ rfl, by rw [Nat.add_assoc, hs _ (by omega)]; exact h 9 _ rfl⟩
/-- Within typeOfTwo: the box and both kids. -/
structure T2At (w : World) (bx d : Nat) (kk nn : Int) (v2 v3 : Value) (ad : Addr) (c3 : Nat) (a b : XE) (W : World) : Prop where
  bel : Below w.heap.size w W
  box : Blk W bx 26 [.int .i64 kk, .int .i64 nn, v2, v3, .slice (some ad) 2 c3]
  see : Sees W W.heap.size 5 (some ad) 2 (kcells [a, b])
  oka : okX d a W
  okb : okX d b W
theorem T2At.below {w W W' : World} {bx d c3 : Nat} {kk nn : Int} {v2 v3 : Value} {ad : Addr} {a b : XE} (h : T2At w bx d kk nn v2 v3 ad c3 a b W) (hb : Below W.heap.size W W') : T2At w bx d kk nn v2 v3 ad c3 a b W' :=
  ⟨h.bel.trans (hb.mono h.bel.size), h.box.below hb h.box.lt, (h.see.below hb).more hb.size, okX_below hb d a h.oka, okX_below hb d b h.okb⟩
theorem T2At.cell {w W : World} {bx d c3 : Nat} {kk nn : Int} {v2 v3 : Value} {ad : Addr} {a b : XE} (h : T2At w bx d kk nn v2 v3 ad c3 a b W) : ∀ j u, [.int .i64 a.kd, .int .i64 a.n, a.mv, a.nv, a.kv, .int .i64 b.kd, .int .i64 b.n, b.mv, b.nv, b.kv][j]? = some u → W.cell? (ad.add j) = some u := by
  obtain ⟨ad', e, _, hc⟩ := h.see.at_ (by omega)
  injection e with e
  subst e
  exact hc
end Go.Proofs.YtcaapbbbekggiaaGreatDoor

namespace Go.Proofs.YtcaapbbbekggiaaGreatDoor
open Go.ChangeShapes Go.WideShapes Go.ChangeAt Go.RowKit
set_option linter.unusedVariables false
set_option linter.unusedSimpArgs false
set_option maxRecDepth 100000
set_option maxHeartbeats 4000000 in
theorem typeTwo_x (d : Nat) (IH : TypeSaid d) (kk nn : Int) (A1 : Option Addr) (c1 : Nat) (ms : List Mtc) (A2 : Option Addr) (c2 : Nat) (ad : Addr) (c3 : Nat) (xa xb : XE) (w : World) (hsa : xa.pe.small) (hsb : xb.pe.small)
    (h : okX (d + 1) (.mk kk nn (.slice A1 ms.length c1) ms (.slice A2 0 c2) [] (.slice (some ad) 2 c3) [xa, xb]) w) :
    Calls Tryz.prog 27 #[.agg #[.int .i64 kk, .int .i64 nn, .slice A1 ms.length c1, .slice A2 0 c2, .slice (some ad) 2 c3]] w fun e w' => e = .returned (.int .i64 (twoT kk [] [xa.pe.ty, xb.pe.ty])) ∧ Below w.heap.size w w' := by
  obtain ⟨_, h2, h3, h4⟩ := h
  obtain ⟨s3, m3, m3'⟩ := Slc.slice h3
  replace s3 : Sees w w.heap.size 5 (some ad) 2 (kcells [xa, xb]) := s3
  have hb : Below w.heap.size w (w.alloc (.cells #[.int .i64 kk, .int .i64 nn, .slice A1 ms.length c1, .slice A2 0 c2, .slice (some ad) 2 c3] 26)) := (Below.refl _ _).alloc (Nat.le_refl _) _
  obtain ⟨v2, hv2⟩ : ∃ v, Value.slice A1 ms.length c1 = v := ⟨_, rfl⟩
  obtain ⟨v3, hv3⟩ : ∃ v, Value.slice A2 0 c2 = v := ⟨_, rfl⟩
  have HA : Hid (T2At w w.heap.size d kk nn (.slice A1 ms.length c1) (.slice A2 0 c2) ad c3 xa xb (w.alloc (.cells #[.int .i64 kk, .int .i64 nn, .slice A1 ms.length c1, .slice A2 0 c2, .slice (some ad) 2 c3] 26))) := Lib.hid ⟨hb, Blk.mk (heap_alloc_new w _), (s3.below hb).more hb.size, okX_below hb d xa (h4 xa (by simp [XE.kids])), okX_below hb d xb (h4 xb (by simp [XE.kids]))⟩
  obtain ⟨ta, hta⟩ : ∃ t, xa.pe.ty = t := ⟨_, rfl⟩
  obtain ⟨tb, htb⟩ : ∃ t, xb.pe.ty = t := ⟨_, rfl⟩
  have HTA := Lib.hid (show ∀ V, T2At w w.heap.size d kk nn (.slice A1 ms.length c1) (.slice A2 0 c2) ad c3 xa xb V → Calls Tryz.prog 9 #[.agg #[.int .i64 xa.kd, .int .i64 xa.n, xa.mv, xa.nv, xa.kv]] V fun e w' => e = .returned (.int .i64 ta) ∧ Below V.heap.size V w' from fun V hV => by rw [← hta]; exact IH xa V hsa hV.oka)
  have HTB := Lib.hid (show ∀ V, T2At w w.heap.size d kk nn (.slice A1 ms.length c1) (.slice A2 0 c2) ad c3 xa xb V → Calls Tryz.prog 9 #[.agg #[.int .i64 xb.kd, .int .i64 xb.n, xb.mv, xb.nv, xb.kv]] V fun e w' => e = .returned (.int .i64 tb) ∧ Below V.heap.size V w' from fun V hV => by rw [← htb]; exact IH xb V hsb hV.okb)
  rw [hta, htb]
  obtain ⟨q, hq⟩ : ∃ q, twoT kk [] [ta, tb] = q := ⟨_, rfl⟩
  rw [hq]
  have HQ := Lib.hid hq
  clear h2 h3 h4 s3 hb IH hq hta htb hv2 hv3 m3 m3' hsa hsb
  have HG := Lib.hid (show ∃ g, w.heap.size = g from ⟨_, rfl⟩)
  go_enter Tryz.func27, Tryz.ntmps27
  go_upto_region 1 with fail
  obtain ⟨bx, hbx⟩ := HG.out
  rw [hbx]
  rw [hbx] at HA HTA HTB
  clear HG hbx
  generalize w.alloc (.cells #[.int .i64 kk, .int .i64 nn, .slice A1 ms.length c1, .slice A2 0 c2, .slice (some ad) 2 c3] 26) = W1 at *
  obtain ⟨x0, x1, x2, x3, x4⟩ := blk_cells5 HA.out.box
  go_upto_region 3 with fail
  clear x0 x1 x2 x3 x4
  generalize Value.slice A1 ms.length c1 = v2 at HA HTA HTB
  generalize Value.slice A2 0 c2 = v3 at HA HTA HTB
  go_cut [3, 4] from 15 to 24 (fun y3 y4 wx => y3 = .int .i64 ta ∧ y4 = .int .i64 tb ∧ T2At w bx d kk nn v2 v3 ad c3 xa xb wx)
  case first =>
    refine wp_region_facts (R := fun a b => Below a.heap.size a b) (G := (fun W => T2At w bx d kk nn v2 v3 ad c3 xa xb W)) (V := fun i' u' W => match i' with | 0 => u' = .pointer (some ⟨bx, 4, none⟩) | 1 => u' = .slice (some ad) 2 c3 | 2 => u' = .pointer (some ad) | 3 => u' = .agg #[.int .i64 xa.kd, .int .i64 xa.n, xa.mv, xa.nv, xa.kv] | 4 => u' = .int .i64 ta | 5 => u' = .pointer (some ⟨bx, 4, none⟩) | 6 => u' = .slice (some ad) 2 c3 | 7 => u' = .pointer (some (ad.add 5)) | 8 => u' = .agg #[.int .i64 xb.kd, .int .i64 xb.n, xb.mv, xb.nv, xb.kv] | 9 => u' = .int .i64 tb | 10 => u' = .int .i64 ta | 11 => u' = .int .i64 tb | _ => True) (by kernel_rfl) (fun w => Below.refl _ _) (fun a b c h1 h2 => h1.trans (h2.mono h1.size)) (by kernel_rfl) (by kernel_rfl) ?hG ⟨?o0, ?o1, ?o2, ?o3, ?o4, ?o5, ?o6, ?o7, ?o8, ?o9, ?o10, ?o11, trivial⟩ ?hend
    case o0 =>
      intro a w hfr hG hd
      refine ⟨fun hw => ?_, fun hw => absurd hw (by simp [Region.wanted])⟩
      have s1 : a.tmps.getD 1 undef = .pointer (some ⟨bx, 0, none⟩) := hfr.at 1 (by kernel_rfl)
      refine op_yields (.pointer (some ⟨bx, 4, none⟩)) ?_ ?_ ?_
      · simp only [execOp, resolve, List.map_toArray, List.map_cons, List.map_nil, Act.eval, s1]; simp [go_sem, -Array.getD_eq_getD_getElem?, s1]
      · exact Below.refl _ _
      · exact (fun _ _ => rfl)
    case o1 =>
      intro a w hfr hG hd
      obtain ⟨d0, _⟩ := hd
      refine ⟨fun hw => ?_, fun hw => absurd hw (by simp [Region.wanted])⟩
      have s15 : a.tmps.getD 15 undef = .pointer (some ⟨bx, 4, none⟩) := (d0 rfl).now
      have z4 := hG.now.box.cell 4; simp only [List.getElem?_cons_zero, List.getElem?_cons_succ] at z4
      refine op_yields (.slice (some ad) 2 c3) ?_ ?_ ?_
      · simp only [execOp, resolve, List.map_toArray, List.map_cons, List.map_nil, Act.eval, s15]; simp [go_sem, -Array.getD_eq_getD_getElem?, s15, z4]
      · exact Below.refl _ _
      · exact (fun _ _ => rfl)
    case o2 =>
      intro a w hfr hG hd
      obtain ⟨d0, _⟩ := hd
      refine ⟨fun hw => ?_, fun hw => absurd hw (by simp [Region.wanted])⟩
      have s16 : a.tmps.getD 16 undef = .slice (some ad) 2 c3 := (d0 rfl).now
      refine op_yields (.pointer (some ad)) ?_ ?_ ?_
      · simp only [execOp, resolve, List.map_toArray, List.map_cons, List.map_nil, Act.eval, s16]; simp [go_sem, -Array.getD_eq_getD_getElem?, s16]
      · exact Below.refl _ _
      · exact (fun _ _ => rfl)
    case o3 =>
      intro a w hfr hG hd
      obtain ⟨d0, _⟩ := hd
      refine ⟨fun hw => ?_, fun hw => absurd hw (by simp [Region.wanted])⟩
      have s17 : a.tmps.getD 17 undef = .pointer (some ad) := (d0 rfl).now
      obtain ⟨z0, z1, z2, z3, z4⟩ := kidT_cells0 (hG.now.cell)
      refine op_yields (.agg #[.int .i64 xa.kd, .int .i64 xa.n, xa.mv, xa.nv, xa.kv]) ?_ ?_ ?_
      · simp only [execOp, resolve, List.map_toArray, List.map_cons, List.map_nil, Act.eval, s17]; simp [go_sem, -Array.getD_eq_getD_getElem?, s17, z0, z1, z2, z3, z4]
      · exact Below.refl _ _
      · exact (fun _ _ => rfl)
    case o4 =>
      intro a w hfr hG hd
      obtain ⟨d0, _⟩ := hd
      refine ⟨fun hw => ?_, fun hw => absurd hw (by simp [Region.wanted])⟩
      have s18 : a.tmps.getD 18 undef = .agg #[.int .i64 xa.kd, .int .i64 xa.n, xa.mv, xa.nv, xa.kv] := (d0 rfl).now
      refine op_calls2 ((HTA.out w hG.now).mono fun e' w' hh => ⟨_, hh.1, hh.2, (fun _ _ => rfl)⟩) ?_
      simp only [execOp, resolve, List.map_toArray, List.map_cons, List.map_nil, Act.eval, s18]; simp [go_sem, -Array.getD_eq_getD_getElem?, s18]
    case o5 =>
      intro a w hfr hG hd
      refine ⟨fun hw => ?_, fun hw => absurd hw (by simp [Region.wanted])⟩
      have s1 : a.tmps.getD 1 undef = .pointer (some ⟨bx, 0, none⟩) := hfr.at 1 (by kernel_rfl)
      refine op_yields (.pointer (some ⟨bx, 4, none⟩)) ?_ ?_ ?_
      · simp only [execOp, resolve, List.map_toArray, List.map_cons, List.map_nil, Act.eval, s1]; simp [go_sem, -Array.getD_eq_getD_getElem?, s1]
      · exact Below.refl _ _
      · exact (fun _ _ => rfl)
    case o6 =>
      intro a w hfr hG hd
      obtain ⟨d0, _⟩ := hd
      refine ⟨fun hw => ?_, fun hw => absurd hw (by simp [Region.wanted])⟩
      have s20 : a.tmps.getD 20 undef = .pointer (some ⟨bx, 4, none⟩) := (d0 rfl).now
      have z4 := hG.now.box.cell 4; simp only [List.getElem?_cons_zero, List.getElem?_cons_succ] at z4
      refine op_yields (.slice (some ad) 2 c3) ?_ ?_ ?_
      · simp only [execOp, resolve, List.map_toArray, List.map_cons, List.map_nil, Act.eval, s20]; simp [go_sem, -Array.getD_eq_getD_getElem?, s20, z4]
      · exact Below.refl _ _
      · exact (fun _ _ => rfl)
    case o7 =>
      intro a w hfr hG hd
      obtain ⟨d0, _⟩ := hd
      refine ⟨fun hw => ?_, fun hw => absurd hw (by simp [Region.wanted])⟩
      have s21 : a.tmps.getD 21 undef = .slice (some ad) 2 c3 := (d0 rfl).now
      refine op_yields (.pointer (some (ad.add 5))) ?_ ?_ ?_
      · simp only [execOp, resolve, List.map_toArray, List.map_cons, List.map_nil, Act.eval, s21]; simp [go_sem, -Array.getD_eq_getD_getElem?, s21]
      · exact Below.refl _ _
      · exact (fun _ _ => rfl)
    case o8 =>
      intro a w hfr hG hd
      obtain ⟨d0, _⟩ := hd
      refine ⟨fun hw => ?_, fun hw => absurd hw (by simp [Region.wanted])⟩
      have s22 : a.tmps.getD 22 undef = .pointer (some (ad.add 5)) := (d0 rfl).now
      obtain ⟨z0, z1, z2, z3, z4⟩ := kidT_cells5 (hG.now.cell)
      refine op_yields (.agg #[.int .i64 xb.kd, .int .i64 xb.n, xb.mv, xb.nv, xb.kv]) ?_ ?_ ?_
      · simp only [execOp, resolve, List.map_toArray, List.map_cons, List.map_nil, Act.eval, s22]; simp [go_sem, -Array.getD_eq_getD_getElem?, s22, z0, z1, z2, z3, z4]
      · exact Below.refl _ _
      · exact (fun _ _ => rfl)
    case o9 =>
      intro a w hfr hG hd
      obtain ⟨d0, d1, _⟩ := hd
      refine ⟨fun hw => ?_, fun hw => absurd hw (by simp [Region.wanted])⟩
      have s23 : a.tmps.getD 23 undef = .agg #[.int .i64 xb.kd, .int .i64 xb.n, xb.mv, xb.nv, xb.kv] := (d0 rfl).now
      refine op_calls2 ((HTB.out w hG.now).mono fun e' w' hh => ⟨_, hh.1, hh.2, (fun _ _ => rfl)⟩) ?_
      simp only [execOp, resolve, List.map_toArray, List.map_cons, List.map_nil, Act.eval, s23]; simp [go_sem, -Array.getD_eq_getD_getElem?, s23]
    case o10 =>
      intro a w hfr hG hd
      obtain ⟨d0, d1, d2, d3, d4, d5, d6, d7, d8, d9, d10, d11, _⟩ := hd
      refine ⟨fun hw => ?_, fun hw => absurd hw (by simp [Region.wanted])⟩
      have s19 : a.tmps.getD 19 undef = .int .i64 ta := (d0 rfl).now
      refine op_yields (.int .i64 ta) ?_ ?_ ?_
      · simp only [execOp, resolve, List.map_toArray, List.map_cons, List.map_nil, Act.eval, s19]; simp [go_sem, -Array.getD_eq_getD_getElem?, s19]
      · exact Below.refl _ _
      · exact (fun _ _ => rfl)
    case o11 =>
      intro a w hfr hG hd
      obtain ⟨d0, d1, d2, d3, d4, d5, d6, d7, d8, d9, d10, d11, d12, _⟩ := hd
      refine ⟨fun hw => ?_, fun hw => absurd hw (by simp [Region.wanted])⟩
      have s24 : a.tmps.getD 24 undef = .int .i64 tb := (d0 rfl).now
      refine op_yields (.int .i64 tb) ?_ ?_ ?_
      · simp only [execOp, resolve, List.map_toArray, List.map_cons, List.map_nil, Act.eval, s24]; simp [go_sem, -Array.getD_eq_getD_getElem?, s24]
      · exact Below.refl _ _
      · exact (fun _ _ => rfl)
    case hG => exact fun w' hb => HA.out.below ((Below.refl _ _).drew.trans (hb.mono (by simp)))
    case hend =>
      intro vs w' hG hv
      have key : vs 10 = .int .i64 ta ∧ vs 11 = .int .i64 tb := by
        obtain ⟨_, _, _, _, _, _, _, _, _, _, h10, h11, _⟩ := hv
        exact ⟨h10.now, h11.now⟩
      have HP2 := Lib.hid hG.now
      clear hv hG HA HTA HTB
      simp only [putAll, Act.put, key.1, key.2]
      clear key
      go_simp
      go_wp2_with fail
      go_meet
      exact ⟨rfl, rfl, HP2.out⟩
  case rest =>
    obtain ⟨rfl, rfl, hat⟩ := hcut
    have HB := Lib.hid hat.bel
    obtain ⟨x0, x1, x2, x3, x4⟩ := blk_cells5 hat.box
    clear hat HA HTA HTB
    by_cases a0 : ta = 0
    · have a0e : (ta == 0) = true := by rw [a0]; rfl
      have a0n : (ta != 0) = false := by rw [a0]; rfl
      have HE := Lib.hid (show q = 0 by rw [← HQ.out]; simp [twoT, a0])
      go_wp2_with fail
      go_ret
      exact ⟨by rw [HE.out]; rfl, HB.out⟩
    · have a0e : (ta == 0) = false := by rw [beq_eq_false_iff_ne]; exact a0
      have a0n : (ta != 0) = true := by rw [bne_iff_ne]; exact a0
      by_cases b0 : tb = 0
      · have b0e : (tb == 0) = true := by rw [b0]; rfl
        have b0n : (tb != 0) = false := by rw [b0]; rfl
        have HE := Lib.hid (show q = 0 by rw [← HQ.out]; simp [twoT, a0, b0])
        go_wp2_with fail
        go_ret
        exact ⟨by rw [HE.out]; rfl, HB.out⟩
      · have b0e : (tb == 0) = false := by rw [beq_eq_false_iff_ne]; exact b0
        have b0n : (tb != 0) = true := by rw [bne_iff_ne]; exact b0
        by_cases k7 : kk ≤ 7
        · by_cases a1 : ta = 1
          · have a1e : (ta == 1) = true := by rw [a1]; rfl
            have a1n : (ta != 1) = false := by rw [a1]; rfl
            by_cases b1 : tb = 1
            · have b1e : (tb == 1) = true := by rw [b1]; rfl
              have b1n : (tb != 1) = false := by rw [b1]; rfl
              have HE := Lib.hid (show q = 1 by rw [← HQ.out]; simp [twoT, a0, b0, k7, a1, b1])
              go_wp2_with fail
              go_ret
              exact ⟨by rw [HE.out]; rfl, HB.out⟩
            · have b1e : (tb == 1) = false := by rw [beq_eq_false_iff_ne]; exact b1
              have b1n : (tb != 1) = true := by rw [bne_iff_ne]; exact b1
              have HE := Lib.hid (show q = 2 by rw [← HQ.out]; simp [twoT, a0, b0, k7, a1, b1])
              go_wp2_with fail
              go_ret
              exact ⟨by rw [HE.out]; rfl, HB.out⟩
          · have a1e : (ta == 1) = false := by rw [beq_eq_false_iff_ne]; exact a1
            have a1n : (ta != 1) = true := by rw [bne_iff_ne]; exact a1
            have HE := Lib.hid (show q = 2 by rw [← HQ.out]; simp [twoT, a0, b0, k7, a1])
            go_wp2_with fail
            go_ret
            exact ⟨by rw [HE.out]; rfl, HB.out⟩
        · by_cases k13 : kk ≤ 13
          · have k13n : ¬ 13 < kk := by omega
            by_cases a2 : ta = 2
            · have a2e : (ta == 2) = true := by rw [a2]; rfl
              have a2n : (ta != 2) = false := by rw [a2]; rfl
              have HE := Lib.hid (show q = 2 by rw [← HQ.out]; simp [twoT, a0, b0, k7, k13, a2, k13n])
              go_wp2_with fail
              go_ret
              exact ⟨by rw [HE.out]; rfl, HB.out⟩
            · have a2e : (ta == 2) = false := by rw [beq_eq_false_iff_ne]; exact a2
              have a2n : (ta != 2) = true := by rw [bne_iff_ne]; exact a2
              have HE := Lib.hid (show q = 0 by rw [← HQ.out]; simp [twoT, a0, b0, k7, k13, a2, k13n])
              go_wp2_with fail
              go_ret
              exact ⟨by rw [HE.out]; rfl, HB.out⟩
          · have k13n : 13 < kk := by omega
            by_cases a2 : ta = 2
            · have a2e : (ta == 2) = true := by rw [a2]; rfl
              have a2n : (ta != 2) = false := by rw [a2]; rfl
              by_cases b2 : tb = 2
              · have b2e : (tb == 2) = true := by rw [b2]; rfl
                have b2n : (tb != 2) = false := by rw [b2]; rfl
                have HE := Lib.hid (show q = 2 by rw [← HQ.out]; simp [twoT, a0, b0, k7, k13, a2, b2, k13n])
                go_wp2_with fail
                go_ret
                exact ⟨by rw [HE.out]; rfl, HB.out⟩
              · have b2e : (tb == 2) = false := by rw [beq_eq_false_iff_ne]; exact b2
                have b2n : (tb != 2) = true := by rw [bne_iff_ne]; exact b2
                have HE := Lib.hid (show q = 0 by rw [← HQ.out]; simp [twoT, a0, b0, k7, k13, a2, b2, k13n])
                go_wp2_with fail
                go_ret
                exact ⟨by rw [HE.out]; rfl, HB.out⟩
            · have a2e : (ta == 2) = false := by rw [beq_eq_false_iff_ne]; exact a2
              have a2n : (ta != 2) = true := by rw [bne_iff_ne]; exact a2
              have HE := Lib.hid (show q = 0 by rw [← HQ.out]; simp [twoT, a0, b0, k7, k13, a2, k13n])
              go_wp2_with fail
              go_ret
              exact ⟨by rw [HE.out]; rfl, HB.out⟩
end Go.Proofs.YtcaapbbbekggiaaGreatDoor

namespace Go.Proofs.YtcaapbbbekggiaaGreatDoor
open Go.ChangeShapes Go.WideShapes Go.ChangeAt Go.RowKit
set_option linter.unusedVariables false
set_option linter.unusedSimpArgs false
set_option maxRecDepth 100000
set_option maxHeartbeats 2000000 in
theorem typeTwo_no (kk nn : Int) (A1 A2 A3 : Option Addr) (m1 c1 m2 c2 m3 c3 : Nat) (w : World) (hno : ¬ (m2 = 0 ∧ m3 = 2)) :
    Calls Tryz.prog 27 #[.agg #[.int .i64 kk, .int .i64 nn, .slice A1 m1 c1, .slice A2 m2 c2, .slice A3 m3 c3]] w fun e w' => e = .returned (.int .i64 0) ∧ Below w.heap.size w w' := by
  have HB : Hid (Below w.heap.size w (w.alloc (.cells #[.int .i64 kk, .int .i64 nn, .slice A1 m1 c1, .slice A2 m2 c2, .slice A3 m3 c3] 26))) := Lib.hid ((Below.refl _ _).alloc (Nat.le_refl _) _)
  have HX := Lib.hid (Blk.mk (heap_alloc_new w (.cells #[.int .i64 kk, .int .i64 nn, .slice A1 m1 c1, .slice A2 m2 c2, .slice A3 m3 c3] 26)) : Blk _ w.heap.size 26 [.int .i64 kk, .int .i64 nn, .slice A1 m1 c1, .slice A2 m2 c2, .slice A3 m3 c3])
  have HNO := Lib.hid hno
  clear hno
  go_enter Tryz.func27, Tryz.ntmps27
  go_upto_region 1 with fail
  generalize w.alloc (.cells #[.int .i64 kk, .int .i64 nn, .slice A1 m1 c1, .slice A2 m2 c2, .slice A3 m3 c3] 26) = W1 at *
  obtain ⟨x0, x1, x2, x3, x4⟩ := blk_cells5 HX.out
  by_cases h0 : 0 < m2
  · have t0 : decide (0 < m2) = true := decide_eq_true h0
    go_wp2_with fail
    go_ret
    exact ⟨rfl, HB.out⟩
  · have t0 : decide (0 < m2) = false := decide_eq_false h0
    have h3 : ((m3 : Int) != 2) = true := by rw [bne_iff_ne]; have := HNO.out; omega
    clear h0
    go_wp2_with fail
    go_ret
    exact ⟨rfl, HB.out⟩
end Go.Proofs.YtcaapbbbekggiaaGreatDoor

namespace Go.Proofs.YtcaapbbbekggiaaGreatDoor
open Go.ChangeShapes Go.WideShapes Go.ChangeAt Go.RowKit
set_option linter.unusedVariables false
set_option linter.unusedSimpArgs false
set_option maxRecDepth 100000
theorem ba_full {s : ByteArray} (h : ¬ s = ⟨#[]⟩) : s.toList.isEmpty = false := by
  cases hq : s.toList with
  | nil =>
    rw [ByteArray.toList_eq] at hq
    exact absurd (by cases s; simp at hq; rw [hq]) h
  | cons => rfl
/-- typeOfTwo, whatever it is given. -/
theorem typeTwo_all (d : Nat) (IH : TypeSaid d) (kk nn : Int) (A1 : Option Addr) (c1 : Nat) (ms : List Mtc) (A2 : Option Addr) (c2 : Nat) (ns : List ByteArray) (A3 : Option Addr) (c3 : Nat) (ks : List XE) (w : World) (hs : smallP (pesX ks))
    (h : okX (d + 1) (.mk kk nn (.slice A1 ms.length c1) ms (.slice A2 ns.length c2) ns (.slice A3 ks.length c3) ks) w) :
    Calls Tryz.prog 27 #[.agg #[.int .i64 kk, .int .i64 nn, .slice A1 ms.length c1, .slice A2 ns.length c2, .slice A3 ks.length c3]] w fun e w' => e = .returned (.int .i64 (twoT kk ns (tysP (pesX ks)))) ∧ Below w.heap.size w w' := by
  by_cases hno : ns.length = 0 ∧ ks.length = 2
  · obtain ⟨h1, h2⟩ := hno
    obtain rfl : ns = [] := List.eq_nil_of_length_eq_zero h1
    match ks, h2 with
    | [a, b], _ =>
      obtain ⟨_, _, h3, _⟩ := id h
      obtain ⟨A', c', e, hsee, _⟩ := h3
      obtain ⟨ad, rfl, _⟩ := hsee.at_ (by simp [XE.kids])
      injection e with e1 e2 e3
      subst e1
      simp only [pesX, smallP] at hs
      exact typeTwo_x d IH kk nn A1 c1 ms A2 c2 ad c3 a b w hs.1 hs.2.1 h
  · have h0 := typeTwo_no kk nn A1 A2 A3 ms.length c1 ns.length c2 ks.length c3 w hno
    have e : twoT kk ns (tysP (pesX ks)) = 0 := by
      unfold twoT
      split
      · rename_i a b he
        exfalso; apply hno
        refine ⟨rfl, ?_⟩
        have := tysP_length ks
        rw [he] at this; simpa using this.symm
      · rfl
    rw [e]; exact h0
set_option maxHeartbeats 4000000 in
theorem type_step (d : Nat) (IH : TypeSaid d) : TypeSaid (d + 1) := by
  intro x w hsm h
  obtain ⟨A1, c1, A2, c2, A3, c3, e1, e2, e3⟩ := okX_forms h
  obtain ⟨kk, nn, mv, ms, nv, ns, kv, ks⟩ := x
  simp only [XE.mv, XE.nv, XE.kv, XE.ms, XE.ns, XE.kids] at e1 e2 e3
  subst e1; subst e2; subst e3
  have HT : Hid ((XE.mk kk nn (.slice A1 ms.length c1) ms (.slice A2 ns.length c2) ns (.slice A3 ks.length c3) ks).pe.ty = if kk = 1 then (if ms.length + ns.length + ks.length = 0 then 1 else 0)
    else if kk = 2 then (if ns.length + ks.length = 0 ∧ rightM ms = true ∧ 1 ≤ nn ∧ nn ≤ 1048576 then 2 else 0)
    else if ¬ (ms.length = 0 ∧ nn = 0) then 0
    else if wordX kk ≠ ⟨#[]⟩ then oneT ns (tysP (pesX ks))
    else if signX kk ≠ ⟨#[]⟩ then twoT kk ns (tysP (pesX ks)) else 0) := Lib.hid (by
      show (PE.mk kk nn ms ns (pesX ks)).ty = _
      unfold PE.ty
      rw [show (pesX ks).length = ks.length by have := tysP_length ks; rw [← this]; exact (by
        have : ∀ l : List PE, (tysP l).length = l.length := fun l => by
          induction l with
          | nil => rfl
          | cons a l ih => simp [tysP, ih]
        exact (this _).symm)])
  obtain ⟨hs1, hs2, hs3, hsk⟩ := (show ms.length ≤ 1000002 ∧ ns.length ≤ 1000002 ∧ (pesX ks).length ≤ 1000002 ∧ smallP (pesX ks) from hsm)
  have hs3' : ks.length ≤ 1000002 := by
    have : ∀ l : List XE, (pesX l).length = l.length := fun l => by
      induction l with
      | nil => rfl
      | cons a l ih => simp [pesX, ih]
    rw [this] at hs3; exact hs3
  obtain ⟨q, hq⟩ : ∃ q, (XE.mk kk nn (.slice A1 ms.length c1) ms (.slice A2 ns.length c2) ns (.slice A3 ks.length c3) ks).pe.ty = q := ⟨_, rfl⟩
  rw [hq] at HT ⊢
  have hb : Below w.heap.size w (w.alloc (.cells #[.int .i64 kk, .int .i64 nn, .slice A1 ms.length c1, .slice A2 ns.length c2, .slice A3 ks.length c3] 26)) := (Below.refl _ _).alloc (Nat.le_refl _) _
  have HB := Lib.hid hb
  have HX := Lib.hid (Blk.mk (heap_alloc_new w (.cells #[.int .i64 kk, .int .i64 nn, .slice A1 ms.length c1, .slice A2 ns.length c2, .slice A3 ks.length c3] 26)) : Blk _ w.heap.size 26 [.int .i64 kk, .int .i64 nn, .slice A1 ms.length c1, .slice A2 ns.length c2, .slice A3 ks.length c3])
  have H0 := Lib.hid (okX_below hb (d + 1) _ h)
  have H1 := Lib.hid (typeOne_x d IH kk nn A1 c1 ms A2 c2 ns A3 c3 ks (w.alloc (.cells #[.int .i64 kk, .int .i64 nn, .slice A1 ms.length c1, .slice A2 ns.length c2, .slice A3 ks.length c3] 26)) hsk H0.out)
  have H2 := Lib.hid (typeTwo_all d IH kk nn A1 c1 ms A2 c2 ns A3 c3 ks (w.alloc (.cells #[.int .i64 kk, .int .i64 nn, .slice A1 ms.length c1, .slice A2 ns.length c2, .slice A3 ks.length c3] 26)) hsk H0.out)
  obtain ⟨m1, m2, m3⟩ := Slc.slice H0.out.1
  have HR := Lib.hid (rightM_any A1 ms.length c1 (w.alloc (.cells #[.int .i64 kk, .int .i64 nn, .slice A1 ms.length c1, .slice A2 ns.length c2, .slice A3 ks.length c3] 26)).heap.size ms (w.alloc (.cells #[.int .i64 kk, .int .i64 nn, .slice A1 ms.length c1, .slice A2 ns.length c2, .slice A3 ks.length c3] 26)) m1 (Nat.le_refl _) (Nat.le_trans m2 m3))
  have HW := Lib.hid (word_x kk (w.alloc (.cells #[.int .i64 kk, .int .i64 nn, .slice A1 ms.length c1, .slice A2 ns.length c2, .slice A3 ks.length c3] 26)))
  have HS := Lib.hid (sign_x kk (w.alloc (.cells #[.int .i64 kk, .int .i64 nn, .slice A1 ms.length c1, .slice A2 ns.length c2, .slice A3 ks.length c3] 26)))
  clear m1 m2 m3 H0 hb hq h hsm hs3 hsk IH
  show Calls Tryz.prog 9 #[.agg #[.int .i64 kk, .int .i64 nn, .slice A1 ms.length c1, .slice A2 ns.length c2, .slice A3 ks.length c3]] w _
  generalize ms.length = lm at *
  generalize ns.length = ln at *
  generalize ks.length = lk at *
  go_enter Tryz.func9, Tryz.ntmps9
  go_upto_region 1 with fail
  generalize w.alloc (.cells #[.int .i64 kk, .int .i64 nn, .slice A1 lm c1, .slice A2 ln c2, .slice A3 lk c3] 26) = W1 at *
  obtain ⟨x0, x1, x2, x3, x4⟩ := blk_cells5 HX.out
  by_cases k1 : kk = 1
  · have t1 : (kk == 1) = true := by rw [k1]; rfl
    by_cases z : lm + ln + lk = 0
    · have t2 : decide ((0 : Int) < (lm : Int) + ln + lk) = false := decide_eq_false (by omega)
      have HE := Lib.hid (show q = 1 by rw [HT.out, if_pos k1, if_pos z])
      have hz1 : lm = 0 := by omega
      have hz2 : ln = 0 := by omega
      have hz3 : lk = 0 := by omega
      subst hz1; subst hz2; subst hz3
      clear k1 t2 z
      go_wp2_with fail
      go_ret
      exact ⟨by rw [HE.out]; rfl, HB.out⟩
    · have t2 : decide ((0 : Int) < (lm : Int) + ln + lk) = true := decide_eq_true (by omega)
      have t3 : 0 < lm + ln + lk := by omega
      have HE := Lib.hid (show q = 0 by rw [HT.out, if_pos k1, if_neg z])
      clear k1 z
      go_wp2_with fail
      go_ret
      exact ⟨by rw [HE.out]; rfl, HB.out⟩
  · have t1 : (kk == 1) = false := by rw [beq_eq_false_iff_ne]; exact k1
    by_cases k2 : kk = 2
    · have t2 : (kk == 2) = true := by rw [k2]; rfl
      by_cases z : ln + lk = 0
      · have hz2 : ln = 0 := by omega
        have hz3 : lk = 0 := by omega
        subst hz2; subst hz3
        cases hr : rightM ms with
        | false =>
          have HE := Lib.hid (show q = 0 by rw [HT.out, if_neg k1, if_pos k2, if_neg (by rw [hr]; simp)])
          rw [hr] at HR
          clear k1 k2 z hr
          go_wp2_with fail
          (with_reducible refine HR.out.mono ?_); rintro e w2 ⟨rfl, hb2⟩
          have HB2 := Lib.hid (HB.out.trans (hb2.mono HB.out.size))
          have HX2 := Lib.hid (HX.out.below hb2 HX.out.lt)
          clear hb2 x0 x1 x2 x3 x4
          obtain ⟨x0, x1, x2, x3, x4⟩ := blk_cells5 HX2.out
          go_wp2_with fail
          go_ret
          exact ⟨by rw [HE.out]; rfl, HB2.out⟩
        | true =>
          rw [hr] at HR
          by_cases n1 : 1 ≤ nn
          · have n1' : ¬ nn < 1 := by omega
            have n1b : decide (nn < 1) = false := decide_eq_false n1'
            by_cases n2 : nn ≤ 1048576
            · have n2' : ¬ 1048576 < nn := by omega
              have n2b : decide (1048576 < nn) = false := decide_eq_false n2'
              have HE := Lib.hid (show q = 2 by rw [HT.out, if_neg k1, if_pos k2, if_pos ⟨z, hr, n1, n2⟩])
              clear k1 k2 z hr
              go_wp2_with fail
              (with_reducible refine HR.out.mono ?_); rintro e w2 ⟨rfl, hb2⟩
              have HB2 := Lib.hid (HB.out.trans (hb2.mono HB.out.size))
              have HX2 := Lib.hid (HX.out.below hb2 HX.out.lt)
              clear hb2 x0 x1 x2 x3 x4
              obtain ⟨x0, x1, x2, x3, x4⟩ := blk_cells5 HX2.out
              go_wp2_with fail
              go_ret
              exact ⟨by rw [HE.out]; rfl, HB2.out⟩
            · have n2' : 1048576 < nn := by omega
              have n2b : decide (1048576 < nn) = true := decide_eq_true n2'
              have HE := Lib.hid (show q = 0 by rw [HT.out, if_neg k1, if_pos k2, if_neg (fun h => n2 h.2.2.2)])
              clear k1 k2 z hr
              go_wp2_with fail
              (with_reducible refine HR.out.mono ?_); rintro e w2 ⟨rfl, hb2⟩
              have HB2 := Lib.hid (HB.out.trans (hb2.mono HB.out.size))
              have HX2 := Lib.hid (HX.out.below hb2 HX.out.lt)
              clear hb2 x0 x1 x2 x3 x4
              obtain ⟨x0, x1, x2, x3, x4⟩ := blk_cells5 HX2.out
              go_wp2_with fail
              go_ret
              exact ⟨by rw [HE.out]; rfl, HB2.out⟩
          · have n1' : nn < 1 := by omega
            have n1b : decide (nn < 1) = true := decide_eq_true n1'
            have HE := Lib.hid (show q = 0 by rw [HT.out, if_neg k1, if_pos k2, if_neg (fun h => n1 h.2.2.1)])
            clear k1 k2 z hr
            go_wp2_with fail
            (with_reducible refine HR.out.mono ?_); rintro e w2 ⟨rfl, hb2⟩
            have HB2 := Lib.hid (HB.out.trans (hb2.mono HB.out.size))
            have HX2 := Lib.hid (HX.out.below hb2 HX.out.lt)
            clear hb2 x0 x1 x2 x3 x4
            obtain ⟨x0, x1, x2, x3, x4⟩ := blk_cells5 HX2.out
            go_wp2_with fail
            go_ret
            exact ⟨by rw [HE.out]; rfl, HB2.out⟩
      · have t3 : 0 < ln + lk := by omega
        have t3b : decide ((0 : Int) < (ln : Int) + lk) = true := decide_eq_true (by omega)
        have HE := Lib.hid (show q = 0 by rw [HT.out, if_neg k1, if_pos k2, if_neg (fun h => z h.1)])
        clear k1 k2 z
        go_wp2_with fail
        go_ret
        exact ⟨by rw [HE.out]; rfl, HB.out⟩
    · have t2 : (kk == 2) = false := by rw [beq_eq_false_iff_ne]; exact k2
      have HT2 := Lib.hid (show q = if ¬ (lm = 0 ∧ nn = 0) then 0
        else if wordX kk ≠ ⟨#[]⟩ then oneT ns (tysP (pesX ks))
        else if signX kk ≠ ⟨#[]⟩ then twoT kk ns (tysP (pesX ks)) else 0 by rw [HT.out, if_neg k1, if_neg k2])
      clear HT k1 k2 HR
      by_cases z : lm = 0
      · subst z
        by_cases zn : nn = 0
        · subst zn
          have HT3 := Lib.hid (show q = if wordX kk ≠ ⟨#[]⟩ then oneT ns (tysP (pesX ks))
            else if signX kk ≠ ⟨#[]⟩ then twoT kk ns (tysP (pesX ks)) else 0 by rw [HT2.out, if_neg (by simp)])
          clear HT2
          generalize wordX kk = wd at *
          generalize signX kk = sg at *
          generalize oneT ns (tysP (pesX ks)) = q1 at *
          generalize twoT kk ns (tysP (pesX ks)) = q2 at *
          by_cases hwd : wd = ⟨#[]⟩
          · have HT4 := Lib.hid (show q = if sg ≠ ⟨#[]⟩ then q2 else 0 by rw [HT3.out, if_neg (by simpa using hwd)])
            clear HT3 H1
            subst hwd
            go_wp2_with fail
            (with_reducible refine HW.out.mono ?_); rintro e w' ⟨rfl, rfl⟩
            go_wp2_with fail
            (with_reducible refine HS.out.mono ?_); rintro e w' ⟨rfl, rfl⟩
            by_cases hsg : sg = ⟨#[]⟩
            · have HE := Lib.hid (show q = 0 by rw [HT4.out, if_neg (by simpa using hsg)])
              clear HT4
              subst hsg
              go_wp2_with fail
              go_ret
              exact ⟨by rw [HE.out]; rfl, HB.out⟩
            · have v1 : sg.toList.isEmpty = false := ba_full hsg
              have HE := Lib.hid (show q = q2 by rw [HT4.out, if_pos hsg])
              clear HT4
              go_wp2_with fail
              (with_reducible refine H2.out.mono ?_); rintro e w2 ⟨rfl, hb2⟩
              have HB2 := Lib.hid (HB.out.trans (hb2.mono HB.out.size))
              clear hb2
              go_wp2_with fail
              go_ret
              exact ⟨by rw [HE.out]; rfl, HB2.out⟩
          · have u1 : wd.toList.isEmpty = false := ba_full hwd
            have HE := Lib.hid (show q = q1 by rw [HT3.out, if_pos hwd])
            clear HT3 H2 HS
            go_wp2_with fail
            (with_reducible refine HW.out.mono ?_); rintro e w' ⟨rfl, rfl⟩
            go_wp2_with fail
            (with_reducible refine H1.out.mono ?_); rintro e w2 ⟨rfl, hb2⟩
            have HB2 := Lib.hid (HB.out.trans (hb2.mono HB.out.size))
            clear hb2
            go_wp2_with fail
            go_ret
            exact ⟨by rw [HE.out]; rfl, HB2.out⟩
        · have n1 : (nn != 0) = true := by rw [bne_iff_ne]; exact zn
          have n2 : (nn == 0) = false := by rw [beq_eq_false_iff_ne]; exact zn
          have HE := Lib.hid (show q = 0 by rw [HT2.out, if_pos (fun h => zn h.2)])
          clear HT2 zn
          go_wp2_with fail
          go_ret
          exact ⟨by rw [HE.out]; rfl, HB.out⟩
      · have t3 : decide (0 < lm) = true := decide_eq_true (by omega)
        have HE := Lib.hid (show q = 0 by rw [HT2.out, if_pos (fun h => z h.1)])
        clear HT2 z
        go_wp2_with fail
        go_ret
        exact ⟨by rw [HE.out]; rfl, HB.out⟩
theorem type_any : ∀ d, TypeSaid d
  | 0 => fun x w _ h => h.elim
  | d + 1 => type_step d (type_any d)
end Go.Proofs.YtcaapbbbekggiaaGreatDoor
