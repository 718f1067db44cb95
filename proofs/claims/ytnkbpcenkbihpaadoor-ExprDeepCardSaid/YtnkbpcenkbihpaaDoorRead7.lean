/- expr.reader: pick walked. -/
import Derived.Test.YtnkbpcenkbihpaaDoorRead6
namespace Go.Proofs.YtnkbpcenkbihpaaDoor
open Go.ChangeShapes Go.WideShapes Go.ChangeAt Go.RowKit
set_option linter.unusedVariables false
set_option linter.unusedSimpArgs false
set_option maxRecDepth 100000
/-- An expression as it is read: with no word of memory. -/
inductive PE where
  | mk (kd n : Int) (ms : List Mtc) (ns : List ByteArray) (kids : List PE)
mutual
def XE.pe : XE → PE
  | .mk k n _ ms _ ns _ ks => .mk k n ms ns (pesX ks)
def pesX : List XE → List PE
  | [] => []
  | x :: l => x.pe :: pesX l
end
/-- A reader's answer that is an expression: it lies in memory made since. -/
def XAns (b : Nat) (A : Option Addr) (n c : Nat) (ts : List Tok) (en : Int) (d : Nat) (r : PE × PS) (w : World) (e : Ending) (w' : World) : Prop :=
  ∃ x : XE, x.pe = r.1 ∧ e = .returned x.val ∧ FarS (fun q => q < w.heap.size) (okX d x) w' ∧ Moved b A n c ts en r.2 w w'
theorem okX_floors {w : World} {d : Nat} {x : XE} (h : okX d x w) (k : Nat) : okX (d + k) x w := by
  induction k with
  | zero => exact h
  | succ k ih => exact okX_more _ _ ih
theorem XAns.floors {b n c d : Nat} {A : Option Addr} {ts : List Tok} {en : Int} {r : PE × PS} {w w' : World} {e : Ending} (h : XAns b A n c ts en d r w e w') (k : Nat) : XAns b A n c ts en (d + k) r w e w' := by
  obtain ⟨x, h1, h2, h3, h4⟩ := h
  exact ⟨x, h1, h2, fun V hs hk => okX_floors (h3 V hs hk) k, h4⟩
theorem XAns.forms {b n c d : Nat} {A : Option Addr} {ts : List Tok} {en : Int} {r : PE × PS} {w w' : World} {e : Ending} (h : XAns b A n c ts en d r w e w') :
    ∃ (xk xn : Int) (A1 : Option Addr) (c1 : Nat) (ms : List Mtc) (A2 : Option Addr) (c2 : Nat) (ns : List ByteArray) (A3 : Option Addr) (c3 : Nat) (ks : List XE),
      e = .returned (.agg #[.int .i64 xk, .int .i64 xn, .slice A1 ms.length c1, .slice A2 ns.length c2, .slice A3 ks.length c3]) ∧
      (XE.mk xk xn (.slice A1 ms.length c1) ms (.slice A2 ns.length c2) ns (.slice A3 ks.length c3) ks).pe = r.1 ∧
      FarS (fun q => q < w.heap.size) (okX d (.mk xk xn (.slice A1 ms.length c1) ms (.slice A2 ns.length c2) ns (.slice A3 ks.length c3) ks)) w' ∧ Moved b A n c ts en r.2 w w' := by
  obtain ⟨⟨xk, xn, xmv, xms, xnv, xns, xkv, xks⟩, h1, h2, h3, h4⟩ := h
  obtain ⟨A1, c1, A2, c2, A3, c3, e1, e2, e3⟩ := okX_forms h3.now
  simp only [XE.mv, XE.nv, XE.kv, XE.ms, XE.ns, XE.kids] at e1 e2 e3
  subst e1; subst e2; subst e3
  exact ⟨xk, xn, A1, c1, xms, A2, c2, xns, A3, c3, xks, h2, h1, h3, h4⟩
def pickR (ts : List Tok) (en : Int) (n : Nat) (s : PS) : PE × PS := (.mk 2 (readPickF ts en n s).1.2 (readPickF ts en n s).1.1 [] [], (readPickF ts en n s).2)
theorem PkAt.ans {b n c g2 g3 : Nat} {A : Option Addr} {ts : List Tok} {en : Int} {s s' : PS} {w0 w : World} {v : Value} {ms : List Mtc} {z : Int} (h : PkAt b A n c ts en s w0 g2 g3 z v ms w) (h0 : RdAt b A n c ts en s' w0) :
    XAns b A n c ts en 1 (.mk 2 z ms [] [], s) w0 (.returned (.agg #[.int .i64 2, .int .i64 z, v, .slice none 0 0, .slice none 0 0])) (set5W w g2 (.int .i64 2) (.int .i64 z) v (.slice none 0 0) (.slice none 0 0)) := by
  have h2 := h.l2; have h3 := h.l3; have hb := h.lb
  have hbg : b ≠ g2 := by omega
  have hg := set5W_grown w g2 (.int .i64 2) (.int .i64 z) v (.slice none 0 0) (.slice none 0 0)
  have ho : Only b w0 (set5W w g2 (.int .i64 2) (.int .i64 z) v (.slice none 0 0) (.slice none 0 0)) := h.only.of_grown hg (fun g e => by injection e with e; omega)
  have hrow := own_grown h.row hg (fun g hg2 e => by have := h.ne g hg2; injection e with e; omega)
  refine ⟨.mk 2 z v ms (.slice none 0 0) [] (.slice none 0 0) [], rfl, rfl, okX_far (FarS.own hrow (fun g hg2 e => by have := (hrow.lt g hg2).1; omega)) (FarS.nil 1) (FarS.nil 5) (fun x hx => absurd hx List.not_mem_nil), h0.of (h.rd.blk.grown hg (fun e => by injection e with e; omega)) ho h.rd.le, ho⟩
set_option maxHeartbeats 4000000 in
theorem pick_x (b : Nat) (A : Option Addr) (n c : Nat) (ts : List Tok) (en : Int) (s : PS) (w : World) (h : RdAt b A n c ts en s w) (hn : n ≤ 1000000) :
    Calls Tryd.prog 71 #[.pointer (some ⟨b, 0, none⟩)] w fun e w' => XAns b A n c ts en 1 (pickR ts en n s) w e w' := by
  unfold pickR
  have HR0 := Lib.hid h
  have HLEN := Lib.hid h.len
  have hbw : b < w.heap.size := h.blk.lt
  obtain ⟨i0, hi0, hz0, hz1, hz2⟩ := info_parts Tryd.infoMtc5
  have HMU := Lib.hid (must_any b A n c ts en s 4 ⟨#[123]⟩ ((w.alloc (.cells #[.int .i64 0, .int .i64 0, .slice none 0 0, .slice none 0 0, .slice none 0 0] 26)).alloc (.cells #[.int .i64 2, .int .i64 0, .slice none 0 0, .slice none 0 0, .slice none 0 0] 26)) ((h.alloc _).alloc _) (by decide) hn)
  have HP0 : Hid (PkAt b A n c ts en s w w.heap.size (w.heap.size + 1) 0 (.slice none 0 0) [] ((w.alloc (.cells #[.int .i64 0, .int .i64 0, .slice none 0 0, .slice none 0 0, .slice none 0 0] 26)).alloc (.cells #[.int .i64 2, .int .i64 0, .slice none 0 0, .slice none 0 0, .slice none 0 0] 26))) := Lib.hid ⟨(h.alloc _).alloc _, ((Only.of_below (Below.refl w.heap.size w)).alloc _).alloc _, (Blk.mk (heap_alloc_new w _)).alloc _, by have hh := (Blk.mk (heap_alloc_new (w.alloc (.cells #[.int .i64 0, .int .i64 0, .slice none 0 0, .slice none 0 0, .slice none 0 0] 26)) (.cells #[.int .i64 2, .int .i64 0, .slice none 0 0, .slice none 0 0, .slice none 0 0] 26)) : Blk _ (w.alloc (.cells #[.int .i64 0, .int .i64 0, .slice none 0 0, .slice none 0 0, .slice none 0 0] 26)).heap.size 26 [.int .i64 2, .int .i64 0, .slice none 0 0, .slice none 0 0, .slice none 0 0]); simpa using hh, own_nil _ _ _ _, (fun g hg => by cases hg), Nat.le_refl _, Nat.lt_succ_self _, hbw⟩
  have HMF : Hid (∃ s1 mE sE t1 s2 s3, mustF ts en s 4 ⟨#[123]⟩ = s1 ∧ msF ts en (n + 2) [] s1 = (mE, sE) ∧ takeF ts en (mustF ts en sE 4 ⟨#[91]⟩) 1 = (t1, s2) ∧ mustF ts en s2 4 ⟨#[93]⟩ = s3 ∧ readPickF ts en n s = ((mE, t1.n), s3)) := Lib.hid ⟨_, _, _, _, _, _, rfl, rfl, rfl, rfl, rfl⟩
  obtain ⟨s1, mE, sE, t1, s2, s3, e1, e2, e3, e4, e5⟩ := HMF.out
  rw [e1] at HMU
  rw [e5]
  have HMS := Lib.hid e2; have HTK := Lib.hid e3; have HM3 := Lib.hid e4
  clear h e1 e2 e3 e4 e5 HMF
  have HG := Lib.hid (show ∃ g, w.heap.size = g from ⟨_, rfl⟩)
  have HG3 := Lib.hid (show ∃ g, w.heap.size + 1 = g from ⟨_, rfl⟩)
  go_enter Tryd.func71, Tryd.ntmps71
  go_upto_region 2 with fail
  obtain ⟨g3, hg3'⟩ := HG3.out
  obtain ⟨g2, hg2'⟩ := HG.out
  rw [hg3'] at HP0 ⊢
  rw [hg2'] at HP0 ⊢
  clear HG HG3
  generalize (w.alloc (.cells #[.int .i64 0, .int .i64 0, .slice none 0 0, .slice none 0 0, .slice none 0 0] 26)).alloc (.cells #[.int .i64 2, .int .i64 0, .slice none 0 0, .slice none 0 0, .slice none 0 0] 26) = W2 at *
  go_wp2_with fail
  (with_reducible refine HMU.out.mono ?_); rintro e w1 ⟨rfl, hm1⟩
  have HP1 := Lib.hid (HP0.out.moved hm1)
  clear hm1 HMU HP0
  go_upto_block 0 with fail
  go_cut [] from 7 to 30 (fun wx => ∃ v, PkAt b A n c ts en sE w g2 g3 0 v mE wx)
  case first =>
    go_wp2_with fail
    go_loopg [] (n + 2) (fun g wr => ∃ (s' : PS) (ms : List Mtc) (v : Value), leftF n s' ≤ g ∧ ms.length + leftF n s' ≤ n + 2 ∧ msF ts en g ms s' = (mE, sE) ∧ PkAt b A n c ts en s' w g2 g3 0 v ms wr)
    case atStart => exact ⟨s1, [], .slice none 0 0, by unfold leftF; split <;> omega, by unfold leftF; simp only [List.length_nil]; split <;> omega, HMS.out, HP1.out⟩
    case round =>
      obtain ⟨s', ms, v, hfu, hml, hms, hat⟩ := hrel
      have HF := Lib.hid hms; have HA := Lib.hid hat
      have HFU := Lib.hid hfu; have HML := Lib.hid hml
      have HLE := Lib.hid hat.rd.le
      clear hms hat hfu hml HMS HP1
      cases gk with
      | zero => exact absurd HFU.out (by have := leftF_pos n s' HLE.out; omega)
      | succ g =>
        obtain ⟨c0, c1, c2, c3, c4⟩ := HA.out.rd.cells
        by_cases hfe : s'.fe = 0
        · have t1 : (s'.fe == 0) = true := by rw [hfe]; rfl
          cases hq : isF ts s' 4 ⟨#[125]⟩ with
          | true =>
            have HE := Lib.hid (show (ms, nextF s') = (mE, sE) by rw [← HF.out]; unfold msF; rw [if_pos hfe, if_pos hq])
            have HS := Lib.hid (skip_yes (tx := ⟨#[125]⟩) HA.out.rd (show (4 : Int) ≠ 0 by decide) hn hq)
            clear hq hfe HF
            go_wp2_with fail
            (with_reducible refine HS.out.mono ?_); rintro e w5 ⟨rfl, hm⟩
            have HX := Lib.hid (HA.out.moved hm)
            clear hm
            go_wp2_with fail
            go_meet
            have he := HE.out
            injection he with he1 he2
            rw [← he1, ← he2]; exact ⟨v, HX.out⟩
          | false =>
            have HS := Lib.hid (skip_no (tx := ⟨#[125]⟩) HA.out.rd (show (4 : Int) ≠ 0 by decide) hn hq)
            have HF2 : Hid (∃ s2 : PS, (if ms.length = 0 then s' else mustF ts en s' 4 ⟨#[44]⟩) = s2 ∧ msF ts en g (ms ++ [(matcherF ts en s2).1]) (matcherF ts en s2).2 = (mE, sE) ∧ (matcherF ts en s2).2.p ≤ n ∧ leftF n (matcherF ts en s2).2 < leftF n s') := Lib.hid ⟨_, rfl, by rw [← HF.out]; conv => rhs; unfold msF; rw [if_pos hfe, if_neg (by rw [hq]; simp)], by simpa using round_left (en := en) HLEN.out HLE.out hfe (decide (ms.length = 0))⟩
            obtain ⟨sx, hsx, hmx, hpx, hlx⟩ := HF2.out
            have HSX := Lib.hid hsx; have HMX := Lib.hid hmx; have HPX := Lib.hid hpx; have HLX := Lib.hid hlx
            obtain ⟨Av, cv, hv, _, _⟩ := own_slice HA.out.row
            subst hv
            clear hq hfe HF HF2 hsx hmx hpx hlx
            go_wp2_with fail
            (with_reducible refine HS.out.mono ?_); rintro e w5 ⟨rfl, hm⟩
            have HA2 := Lib.hid (HA.out.moved hm)
            clear hm HS HA c0 c1 c2 c3 c4
            obtain ⟨x0, x1, x2, x3, x4⟩ := blk_cells5 HA2.out.x
            obtain ⟨p5, hp5⟩ : ∃ p, decide (0 < ms.length) = p := ⟨_, rfl⟩
            have HPP := Lib.hid hp5
            go_upto_if 21 with fail
            clear hp5
            go_cut [] from 22 to 23 (fun wx => PkAt b A n c ts en sx w g2 g3 0 (.slice Av ms.length cv) ms wx)
            case first =>
              cases p5 with
              | false =>
                have h0 : ms.length = 0 := by have := of_decide_eq_false HPP.out; omega
                have HE := Lib.hid (show s' = sx by rw [← HSX.out, if_pos h0])
                clear h0
                go_wp2_with fail
                go_meet
                rw [← HE.out]; exact HA2.out
              | true =>
                have h0 : ¬ ms.length = 0 := by have := of_decide_eq_true HPP.out; omega
                have HE := Lib.hid (show mustF ts en s' 4 ⟨#[44]⟩ = sx by rw [← HSX.out, if_neg h0])
                have HM := Lib.hid (must_any b A n c ts en s' 4 ⟨#[44]⟩ _ HA2.out.rd (by decide) hn)
                rw [HE.out] at HM
                clear h0
                go_wp2_with fail
                (with_reducible refine HM.out.mono ?_); rintro e w6 ⟨rfl, hm⟩
                have HX := Lib.hid (HA2.out.moved hm)
                clear hm
                go_wp2_with fail
                go_meet
                exact HX.out
            case rest =>
              have HA3 := Lib.hid hcut
              clear hcut HA2 x0 x1 x2 x3 x4
              obtain ⟨m, sN, hmN⟩ : ∃ m sN, matcherF ts en sx = (m, sN) := ⟨_, _, rfl⟩
              have HMX2 := Lib.hid (show msF ts en g (ms ++ [m]) sN = (mE, sE) by have h := HMX.out; rw [hmN] at h; exact h)
              have HLX2 := Lib.hid (show leftF n sN < leftF n s' by have h := HLX.out; rw [hmN] at h; exact h)
              have HMT := Lib.hid (fun V (hV : RdAt b A n c ts en sx V) => by have h := matcher_x b A n c ts en sx V hV hn; rw [hmN] at h; exact h)
              clear HMX HLX HPX hmN
              go_upto_region 6 with fail
              obtain ⟨D, hD⟩ : ∃ D, wc.drew = D := ⟨_, rfl⟩
              have HAD := Lib.hid (show PkAt b A n c ts en sx w g2 g3 0 (.slice Av ms.length cv) ms D by rw [← hD]; exact HA3.out.below (Below.refl _ _).drew)
              obtain ⟨x0, x1, x2, x3, x4⟩ := blk_cells5 HAD.out.x
              have hbs0 : w.heap.size ≤ D.heap.size := HAD.out.only.size
              have tok1 : True := trivial
              have tok2 : True := trivial
              clear HA3 x0 x1 x3 x4
              go_region_law (first
                | (have tk := tok1; (try go_simp); go_at_call 87; (with_reducible refine (HMT.out _ HAD.out.rd).mono ?_); rintro e wm ⟨rfl, hm⟩; have HAM := Lib.hid (HAD.out.moved hm); have HAB := Lib.hid (HAM.out.below ((Below.refl wm.heap.size wm).alloc (Nat.le_refl _) (.cells #[.string m.1, .string m.2.1, .int .i64 m.2.2] 54))); have y2 := (blk_cells5 HAM.out.x).2.2.1; have z2 := (blk_cells5 HAB.out.x).2.2.1; have HX := Lib.hid (show Sees (wm.alloc (.cells #[.string m.1, .string m.2.1, .int .i64 m.2.2] 54)) (wm.alloc (.cells #[.string m.1, .string m.2.1, .int .i64 m.2.2] 54)).heap.size 3 (some ⟨wm.heap.size, 0, none⟩) 1 [.string m.1, .string m.2.1, .int .i64 m.2.2] from (Blk.mk (heap_alloc_new wm _) : Blk _ wm.heap.size 54 [.string m.1, .string m.2.1, .int .i64 m.2.2]).sees rfl (List.prefix_refl _)); have hbs : w.heap.size ≤ (wm.alloc (.cells #[.string m.1, .string m.2.1, .int .i64 m.2.2] 54)).heap.size := HAB.out.only.size; clear tok1 tk hm)
                | (have tk := tok2; refine step_append_at3 rfl (.tmp 25) (.tmp 28) 22 rfl w.heap.size 54 i0 (.agg #[.string ⟨#[]⟩, .string ⟨#[]⟩, .int .i64 0]) 3 40 Tryd.underlying22 hi0 hz0 hz1 hz2 rfl (by decide) (.slice Av ms.length cv) ms.length (mtcs ms) (by first | rfl | (simp [Act.eval]; done)) HAB.out.row _ _ 1 1 [.string m.1, .string m.2.1, .int .i64 m.2.2] (by first | rfl | (simp [Act.eval]; done)) HX.out (mtc_one3 _ _ _) (by have := HML.out; unfold maxLen; omega) (by have := HML.out; omega) hbs ?_; intro v9 w9 hown9 hgr9 hwh9; obtain ⟨A9, c9, hA9, _, _⟩ := own_slice hown9; subst hA9; have HPU := Lib.hid (HAB.out.push HR0.out hown9 hgr9 hwh9); have hne9 : ∀ q, (Value.slice Av ms.length cv).ownBlock = some q → g3 < q := HAB.out.ne; have HXB := Lib.hid (HAB.out.x.grown hgr9 (fun e => by have := hne9 g3 e.symm; omega)); have f9 := HXB.out.frozen 2; have y9 := HXB.out.cell 2; clear tok2 tk hown9 hgr9 hwh9)
                | fail)
              all_goals
                clear HAD HAM HAB HX x2 y2 z2 hbs
                go_wp2_with fail
                go_roundg g
                case measure => omega
                case rel =>
                  have h1 := HLX2.out; have h2 := HFU.out; have h3 := HML.out
                  exact ⟨sN, ms ++ [m], _, by omega, by rw [List.length_append, List.length_singleton]; omega, HMX2.out, HPU.out⟩
        · have t1 : (s'.fe == 0) = false := by rw [beq_eq_false_iff_ne]; exact hfe
          have HE := Lib.hid (show (ms, s') = (mE, sE) by rw [← HF.out]; unfold msF; rw [if_neg hfe])
          clear hfe HF
          go_wp2_with fail
          go_meet
          have he := HE.out
          injection he with he1 he2
          rw [← he1, ← he2]; exact ⟨v, HA.out⟩
  case rest =>
    obtain ⟨v, hat⟩ := hcut
    obtain ⟨Av, cv, hv, _, _⟩ := own_slice hat.row
    subst hv
    have HA := Lib.hid hat
    have HM1 := Lib.hid (must_any b A n c ts en sE 4 ⟨#[91]⟩ _ hat.rd (by decide) hn)
    obtain ⟨s5, hs5⟩ : ∃ q, mustF ts en sE 4 ⟨#[91]⟩ = q := ⟨_, rfl⟩
    rw [hs5] at HM1
    have HTK2 := Lib.hid (show takeF ts en s5 1 = (t1, s2) by rw [← hs5]; exact HTK.out)
    clear hat hs5 HTK HP1 HMS
    go_wp2_with fail
    (with_reducible refine HM1.out.mono ?_); rintro e w5 ⟨rfl, hm⟩
    have HA1 := Lib.hid (HA.out.moved hm)
    have HT := Lib.hid (take_any b A n c ts en s5 1 _ hm.rd (by decide) hn)
    rw [HTK2.out] at HT
    unfold Tok.val at HT
    clear hm HM1 HA
    go_wp2_with fail
    (with_reducible refine HT.out.mono ?_); rintro e w6 ⟨rfl, hm⟩
    have HA2 := Lib.hid (HA1.out.moved hm)
    clear hm HT HA1
    obtain ⟨x0, x1, x2, x3, x4⟩ := blk_cells5 HA2.out.x
    obtain ⟨f0, f1, f2, f3, f4⟩ := blk_fr5 HA2.out.x
    have HA3 := Lib.hid (HA2.out.num HR0.out t1.n)
    go_upto_region 9 with fail
    generalize w6.setCell ⟨g3, 1, none⟩ (.int .i64 t1.n) = W6 at *
    clear x0 x1 x2 x3 x4 f0 f1 f2 f3 f4 HA2
    have HM4 := Lib.hid (must_any b A n c ts en s2 4 ⟨#[93]⟩ _ HA3.out.rd (by decide) hn)
    rw [HM3.out] at HM4
    go_wp2_with fail
    (with_reducible refine HM4.out.mono ?_); rintro e w7 ⟨rfl, hm⟩
    have HA4 := Lib.hid (HA3.out.moved hm)
    clear hm HM4 HA3
    obtain ⟨x0, x1, x2, x3, x4⟩ := blk_cells5 HA4.out.x
    obtain ⟨z0, z1, z2, z3, z4⟩ := blk_cells5 HA4.out.z_
    obtain ⟨f0, f1, f2, f3, f4⟩ := blk_fr5 HA4.out.z_
    have HQ := Lib.hid (set5W_blk HA4.out.z_ (.int .i64 2) (.int .i64 t1.n) (.slice Av mE.length cv) (.slice none 0 0) (.slice none 0 0))
    have HANS := Lib.hid (HA4.out.ans HR0.out)
    go_wp2_with fail
    obtain ⟨q0, q1, q2, q3, q4⟩ := blk_cells5 HQ.out
    unfold set5W at q0 q1 q2 q3 q4
    refine bodyPost_ret (v := .agg #[.int .i64 2, .int .i64 t1.n, .slice Av mE.length cv, .slice none 0 0, .slice none 0 0]) (by simp [results, Tryd.results71, go_sem, q0, q1, q2, q3, q4]) rfl ?_
    exact HANS.out
end Go.Proofs.YtnkbpcenkbihpaaDoor
