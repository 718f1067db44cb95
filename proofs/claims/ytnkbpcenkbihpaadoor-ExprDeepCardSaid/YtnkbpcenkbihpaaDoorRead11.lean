/- expr.reader: ofOne walked. -/
import Derived.Test.YtnkbpcenkbihpaaDoorRead10
namespace Go.Proofs.YtnkbpcenkbihpaaDoor
open Go.ChangeShapes Go.WideShapes Go.ChangeAt Go.RowKit
set_option linter.unusedVariables false
set_option linter.unusedSimpArgs false
set_option maxRecDepth 100000
set_option maxHeartbeats 4000000 in
theorem one_x (b : Nat) (A : Option Addr) (n c : Nat) (ts : List Tok) (en : Int) (f : Nat) (IH : ExprSaid b A n c ts en f) (hn : n ≤ 1000000) (kd : Int) (deep : Nat) (s : PS) (w : World) (hd : deep + (f + 1) = 9) (h : RdAt b A n c ts en s w) :
    Calls Tryd.prog 70 #[.pointer (some ⟨b, 0, none⟩), .int .i64 kd, .int .i64 (deep : Nat)] w fun e w' => XAns b A n c ts en (f + 2) (ofOneF ts en n (exprF ts en n f) kd s) w e w' := by
  have HR0 := Lib.hid h
  have HLEN := Lib.hid h.len
  have hbw : b < w.heap.size := h.blk.lt
  have HIH := Lib.hid IH
  have hde : IntKind.i64.wrap ((deep : Int) + 1) = (deep : Int) + 1 := by rw [IntKind.wrap_i64]; omega
  have HD := Lib.hid hd
  obtain ⟨i0, hi0, hz0, hz1, hz2⟩ := info_parts Tryd.infoStr5
  have HTA := Lib.hid (take_any b A n c ts en s 2 ((w.alloc (.cells #[.int .i64 0, .int .i64 0, .slice none 0 0, .slice none 0 0, .slice none 0 0] 26)).alloc (.cells #[.int .i64 kd, .int .i64 0, .slice none 0 0, .slice none 0 0, .slice none 0 0] 26)) ((h.alloc _).alloc _) (by decide) hn)
  have HP0 : Hid (OnAt b A n c ts en s w w.heap.size (w.heap.size + 1) kd (.slice none 0 0) [] (.slice none 0 0) ((w.alloc (.cells #[.int .i64 0, .int .i64 0, .slice none 0 0, .slice none 0 0, .slice none 0 0] 26)).alloc (.cells #[.int .i64 kd, .int .i64 0, .slice none 0 0, .slice none 0 0, .slice none 0 0] 26))) := Lib.hid ⟨(h.alloc _).alloc _, ((Only.of_below (Below.refl w.heap.size w)).alloc _).alloc _, (Blk.mk (heap_alloc_new w _)).alloc _, by have hh := (Blk.mk (heap_alloc_new (w.alloc (.cells #[.int .i64 0, .int .i64 0, .slice none 0 0, .slice none 0 0, .slice none 0 0] 26)) (.cells #[.int .i64 kd, .int .i64 0, .slice none 0 0, .slice none 0 0, .slice none 0 0] 26)) : Blk _ (w.alloc (.cells #[.int .i64 0, .int .i64 0, .slice none 0 0, .slice none 0 0, .slice none 0 0] 26)).heap.size 26 [.int .i64 kd, .int .i64 0, .slice none 0 0, .slice none 0 0, .slice none 0 0]); simpa using hh, own_nil _ _ _ _, (fun g hg => by cases hg), Nat.le_refl _, Nat.lt_succ_self _, hbw⟩
  have HFF : Hid (∃ t0 s1 s2 s3 nE sE s4 t1 s5 s6, takeF ts en s 2 = (t0, s1) ∧ mustF ts en s1 2 ⟨#[98, 121]⟩ = s2 ∧ mustF ts en s2 4 ⟨#[40]⟩ = s3 ∧ nsF ts en (n + 2) [] s3 = (nE, sE) ∧ mustF ts en sE 4 ⟨#[40]⟩ = s4 ∧ exprF ts en n f s4 = (t1, s5) ∧ mustF ts en s5 4 ⟨#[41]⟩ = s6 ∧ ofOneF ts en n (exprF ts en n f) kd s = (.mk kd 0 [] nE [t1], s6)) := Lib.hid ⟨_, _, _, _, _, _, _, _, _, _, rfl, rfl, rfl, rfl, rfl, rfl, rfl, rfl⟩
  obtain ⟨t0, s1, s2, s3, nE, sE, s4, t1, s5, s6, e1, e2, e3, e4, e5, e6, e7, e8⟩ := HFF.out
  rw [e1] at HTA
  rw [e8]
  unfold Tok.val at HTA
  have E2 := Lib.hid e2; have E3 := Lib.hid e3; have HMS := Lib.hid e4; have E5 := Lib.hid e5; have E6 := Lib.hid e6; have E7 := Lib.hid e7
  clear h e1 e2 e3 e4 e5 e6 e7 e8 HFF IH hd
  have HG := Lib.hid (show ∃ g, w.heap.size = g from ⟨_, rfl⟩)
  have HG3 := Lib.hid (show ∃ g, w.heap.size + 1 = g from ⟨_, rfl⟩)
  go_enter Tryd.func70, Tryd.ntmps70
  go_upto_region 2 with fail
  obtain ⟨g3, hg3'⟩ := HG3.out
  obtain ⟨g2, hg2'⟩ := HG.out
  rw [hg3'] at HP0 ⊢
  rw [hg2'] at HP0 ⊢
  clear HG HG3
  generalize (w.alloc (.cells #[.int .i64 0, .int .i64 0, .slice none 0 0, .slice none 0 0, .slice none 0 0] 26)).alloc (.cells #[.int .i64 kd, .int .i64 0, .slice none 0 0, .slice none 0 0, .slice none 0 0] 26) = W2 at *
  go_wp2_with fail
  (with_reducible refine HTA.out.mono ?_); rintro e w1 ⟨rfl, hm⟩
  have HP1 := Lib.hid (HP0.out.moved hm)
  have HX := Lib.hid (must_any b A n c ts en s1 2 ⟨#[98, 121]⟩ _ hm.rd (by decide) hn)
  rw [E2.out] at HX
  clear hm HTA HP0
  go_wp2_with fail
  (with_reducible refine HX.out.mono ?_); rintro e w2 ⟨rfl, hm⟩
  have HP2 := Lib.hid (HP1.out.moved hm)
  have HY := Lib.hid (must_any b A n c ts en s2 4 ⟨#[40]⟩ _ hm.rd (by decide) hn)
  rw [E3.out] at HY
  clear hm HX HP1
  go_wp2_with fail
  (with_reducible refine HY.out.mono ?_); rintro e w3 ⟨rfl, hm⟩
  have HP3 := Lib.hid (HP2.out.moved hm)
  clear hm HY HP2
  go_upto_block 0 with fail
  go_cut [] from 16 to 40 (fun wx => ∃ v, OnAt b A n c ts en sE w g2 g3 kd v nE (.slice none 0 0) wx)
  case first =>
    go_wp2_with fail
    go_loopg [] (n + 2) (fun g wr => ∃ (s' : PS) (ns : List ByteArray) (v : Value), leftF n s' ≤ g ∧ ns.length + leftF n s' ≤ n + 2 ∧ nsF ts en g ns s' = (nE, sE) ∧ OnAt b A n c ts en s' w g2 g3 kd v ns (.slice none 0 0) wr)
    case atStart => exact ⟨s3, [], .slice none 0 0, by unfold leftF; split <;> omega, by unfold leftF; simp only [List.length_nil]; split <;> omega, HMS.out, HP3.out⟩
    case round =>
      obtain ⟨s', ns, v, hfu, hml, hms, hat⟩ := hrel
      have HF := Lib.hid hms; have HA := Lib.hid hat
      have HFU := Lib.hid hfu; have HML := Lib.hid hml
      have HLE := Lib.hid hat.rd.le
      clear hms hat hfu hml HMS HP3
      cases gk with
      | zero => exact absurd HFU.out (by have := leftF_pos n s' HLE.out; omega)
      | succ g =>
        obtain ⟨c0, c1, c2, c3, c4⟩ := HA.out.rd.cells
        by_cases hfe : s'.fe = 0
        · have t1 : (s'.fe == 0) = true := by rw [hfe]; rfl
          cases hq : isF ts s' 4 ⟨#[41]⟩ with
          | true =>
            have HE := Lib.hid (show (ns, nextF s') = (nE, sE) by rw [← HF.out]; unfold nsF; rw [if_pos hfe, if_pos hq])
            have HS := Lib.hid (skip_yes (tx := ⟨#[41]⟩) HA.out.rd (show (4 : Int) ≠ 0 by decide) hn hq)
            clear hq hfe HF
            go_wp2_with fail
            (with_reducible refine HS.out.mono ?_); rintro e w5 ⟨rfl, hm⟩
            have HX := Lib.hid (HA.out.moved hm)
            clear hm
            go_wp2_with fail
            go_meet
            have he := HE.out
            injection he with he1 he2
            rw [← he1, ← he2]; exact ⟨v, HX.out⟩
          | false =>
            have HS := Lib.hid (skip_no (tx := ⟨#[41]⟩) HA.out.rd (show (4 : Int) ≠ 0 by decide) hn hq)
            have HF2 : Hid (∃ s2 : PS, (if ns.length = 0 then s' else mustF ts en s' 4 ⟨#[44]⟩) = s2 ∧ nsF ts en g (ns ++ [(takeF ts en s2 2).1.tx]) (takeF ts en s2 2).2 = (nE, sE) ∧ (takeF ts en s2 2).2.p ≤ n ∧ leftF n (takeF ts en s2 2).2 < leftF n s') := Lib.hid ⟨_, rfl, by rw [← HF.out]; conv => rhs; unfold nsF; rw [if_pos hfe, if_neg (by rw [hq]; simp)], by simpa using name_left (en := en) HLEN.out HLE.out hfe (decide (ns.length = 0))⟩
            obtain ⟨sx, hsx, hmx, hpx, hlx⟩ := HF2.out
            have HSX := Lib.hid hsx; have HMX := Lib.hid hmx; have HLX := Lib.hid hlx
            obtain ⟨Av, cv, hv, _, _⟩ := own_slice HA.out.row
            subst hv
            clear hq hfe HF HF2 hsx hmx hpx hlx
            go_wp2_with fail
            (with_reducible refine HS.out.mono ?_); rintro e w5 ⟨rfl, hm⟩
            have HA2 := Lib.hid (HA.out.moved hm)
            clear hm HS HA c0 c1 c2 c3 c4
            obtain ⟨x0, x1, x2, x3, x4⟩ := blk_cells5 HA2.out.x
            obtain ⟨p5, hp5⟩ : ∃ p, decide (0 < ns.length) = p := ⟨_, rfl⟩
            have HPP := Lib.hid hp5
            go_upto_if 30 with fail
            clear hp5
            go_cut [] from 31 to 32 (fun wx => OnAt b A n c ts en sx w g2 g3 kd (.slice Av ns.length cv) ns (.slice none 0 0) wx)
            case first =>
              cases p5 with
              | false =>
                have h0 : ns.length = 0 := by have := of_decide_eq_false HPP.out; omega
                have HE := Lib.hid (show s' = sx by rw [← HSX.out, if_pos h0])
                clear h0
                go_wp2_with fail
                go_meet
                rw [← HE.out]; exact HA2.out
              | true =>
                have h0 : ¬ ns.length = 0 := by have := of_decide_eq_true HPP.out; omega
                have HE := Lib.hid (show mustF ts en s' 4 ⟨#[44]⟩ = sx by rw [← HSX.out, if_neg h0])
                have HM := Lib.hid (must_any b A n c ts en s' 4 ⟨#[44]⟩ _ HA2.out.rd (by decide) hn)
                rw [HE.out] at HM
                clear h0
                go_wp2_with fail
                (with_reducible refine HM.out.mono ?_); rintro e w6 ⟨rfl, hm⟩
                have HX := Lib.hid (HA2.out.moved hm)
                clear hm
                go_wp2_with fail
                go_meet
                exact HX.out
            case rest =>
              have HA3 := Lib.hid hcut
              clear hcut HA2 x0 x1 x2 x3 x4
              obtain ⟨⟨tk, tn, ta, tx⟩, sN, hmN⟩ : ∃ m sN, takeF ts en sx 2 = (m, sN) := ⟨_, _, rfl⟩
              have HMX2 := Lib.hid (show nsF ts en g (ns ++ [tx]) sN = (nE, sE) by have h := HMX.out; rw [hmN] at h; exact h)
              have HLX2 := Lib.hid (show leftF n sN < leftF n s' by have h := HLX.out; rw [hmN] at h; exact h)
              have HMT := Lib.hid (fun V (hV : RdAt b A n c ts en sx V) => by have h := take_any b A n c ts en sx 2 V hV (by decide) hn; rw [hmN] at h; unfold Tok.val at h; exact h)
              clear HMX HLX hmN
              go_upto_region 8 with fail
              obtain ⟨D, hD⟩ : ∃ D, wc.drew = D := ⟨_, rfl⟩
              have HAD := Lib.hid (show OnAt b A n c ts en sx w g2 g3 kd (.slice Av ns.length cv) ns (.slice none 0 0) D by rw [← hD]; exact HA3.out.below (Below.refl _ _).drew)
              obtain ⟨x0, x1, x2, x3, x4⟩ := blk_cells5 HAD.out.x
              have tok1 : True := trivial
              have tok2 : True := trivial
              clear HA3 x0 x1 x2 x4
              go_region_law (first
                | (have tk := tok1; (try go_simp); go_at_call 69; (with_reducible refine (HMT.out _ HAD.out.rd).mono ?_); rintro e wm ⟨rfl, hm⟩; have HAM := Lib.hid (HAD.out.moved hm); have HAB := Lib.hid (HAM.out.below ((Below.refl wm.heap.size wm).alloc (Nat.le_refl _) (.cells #[.string tx] 9))); have y2 := (blk_cells5 HAM.out.x).2.2.2.1; have z2 := (blk_cells5 HAB.out.x).2.2.2.1; have HX := Lib.hid (show Sees (wm.alloc (.cells #[.string tx] 9)) (wm.alloc (.cells #[.string tx] 9)).heap.size 1 (some ⟨wm.heap.size, 0, none⟩) 1 [.string tx] from (Blk.mk (heap_alloc_new wm _) : Blk _ wm.heap.size 9 [.string tx]).sees rfl (List.prefix_refl _)); have hbs : w.heap.size ≤ (wm.alloc (.cells #[.string tx] 9)).heap.size := HAB.out.only.size; clear tok1 tk hm)
                | (have tk := tok2; refine step_append_at3 rfl (.tmp 34) (.tmp 38) 23 rfl w.heap.size 9 i0 (.string ⟨#[]⟩) 1 16 Tryd.underlying23 hi0 hz0 hz1 hz2 rfl (by decide) (.slice Av ns.length cv) ns.length (strs ns) (by first | rfl | (simp [Act.eval]; done)) HAB.out.row _ _ 1 1 [.string tx] (by first | rfl | (simp [Act.eval]; done)) HX.out (by simp [Value.oneCell']) (by have := HML.out; unfold maxLen; omega) (by have := HML.out; omega) hbs ?_; intro v9 w9 hown9 hgr9 hwh9; obtain ⟨A9, c9, hA9, _, _⟩ := own_slice hown9; subst hA9; have HPU := Lib.hid (HAB.out.push HR0.out hown9 hgr9 hwh9); have hne9 : ∀ q, (Value.slice Av ns.length cv).ownBlock = some q → g3 < q := HAB.out.ne; have HXB := Lib.hid (HAB.out.x.grown hgr9 (fun e => by have := hne9 g3 e.symm; omega)); have f9 := HXB.out.frozen 3; have y9 := HXB.out.cell 3; clear tok2 tk hown9 hgr9 hwh9)
                | fail)
              all_goals
                clear HAD HAM HAB HX x3 y2 z2 hbs
                go_wp2_with fail
                go_roundg g
                case measure => omega
                case rel =>
                  have h1 := HLX2.out; have h2 := HFU.out; have h3 := HML.out
                  exact ⟨sN, ns ++ [tx], _, by omega, by rw [List.length_append, List.length_singleton]; omega, HMX2.out, HPU.out⟩
        · have t1 : (s'.fe == 0) = false := by rw [beq_eq_false_iff_ne]; exact hfe
          have HE := Lib.hid (show (ns, s') = (nE, sE) by rw [← HF.out]; unfold nsF; rw [if_neg hfe])
          clear hfe HF
          go_wp2_with fail
          go_meet
          have he := HE.out
          injection he with he1 he2
          rw [← he1, ← he2]; exact ⟨v, HA.out⟩
  case rest =>
    obtain ⟨v, hat⟩ := hcut
    obtain ⟨Av, cv, hv, _, _⟩ := own_slice hat.row
    subst hv
    have HA := Lib.hid hat
    have HM1 := Lib.hid (must_any b A n c ts en sE 4 ⟨#[40]⟩ _ hat.rd (by decide) hn)
    rw [E5.out] at HM1
    clear hat HP3 HMS
    go_wp2_with fail
    (with_reducible refine HM1.out.mono ?_); rintro e w5 ⟨rfl, hm⟩
    have HA1 := Lib.hid (HA.out.moved hm)
    have HC1 := Lib.hid (HIH.out (deep + 1) s4 w5 (by have := HD.out; omega) hm.rd)
    rw [E6.out, show ((deep + 1 : Nat) : Int) = (deep : Int) + 1 from rfl] at HC1
    clear hm HM1 HA
    go_wp2_with fail
    (with_reducible refine HC1.out.mono ?_); rintro e w6 hx
    obtain ⟨xk, xn, A1, c1, xms, A2, c2, xns, A3, c3, xks, rfl, hp, hf, hm⟩ := hx.forms
    have HPE := Lib.hid hp
    have hl2 := HA1.out.z_.lt
    have hl3 := HA1.out.x.lt
    have HK1 := Lib.hid (Kid.made hf hm.only.size)
    have HA2 := Lib.hid ((HA1.out.moved hm).below ((Below.refl w6.heap.size w6).alloc (Nat.le_refl _) (.cells #[.int .i64 xk, .int .i64 xn, .slice A1 xms.length c1, .slice A2 xns.length c2, .slice A3 xks.length c3] 26)))
    have HA3 := Lib.hid (HA2.out.kid HR0.out (.slice (some ⟨w6.heap.size, 0, none⟩) 1 1))
    have HK2 := Lib.hid (HK1.out.grown (only_setCell (World.grownBy.refl (w6.alloc (.cells #[.int .i64 xk, .int .i64 xn, .slice A1 xms.length c1, .slice A2 xns.length c2, .slice A3 xks.length c3] 26)) (some g3)) (p := ⟨g3, 4, none⟩) (.inl rfl) (.slice (some ⟨w6.heap.size, 0, none⟩) 1 1)) hl3)
    clear hx hp hf hm HC1 HA1 HK1
    obtain ⟨x0, x1, x2, x3, x4⟩ := blk_cells5 HA2.out.x
    obtain ⟨f0, f1, f2, f3, f4⟩ := blk_fr5 HA2.out.x
    have HG6 := Lib.hid (show ∃ g, w6.heap.size = g from ⟨_, rfl⟩)
    go_upto_region 11 with fail
    obtain ⟨g6, hg6⟩ := HG6.out
    generalize (w6.alloc (.cells #[.int .i64 xk, .int .i64 xn, .slice A1 xms.length c1, .slice A2 xns.length c2, .slice A3 xks.length c3] 26)).setCell ⟨g3, 4, none⟩ (.slice (some ⟨w6.heap.size, 0, none⟩) 1 1) = W7 at *
    rw [hg6] at HA3 HK2
    clear x0 x1 x2 x3 x4 f0 f1 f2 f3 f4 HA2 HG6 hg6
    have HM4 := Lib.hid (must_any b A n c ts en s5 4 ⟨#[41]⟩ _ HA3.out.rd (by decide) hn)
    rw [E7.out] at HM4
    go_wp2_with fail
    (with_reducible refine HM4.out.mono ?_); rintro e w8 ⟨rfl, hm⟩
    have HA4 := Lib.hid (HA3.out.moved hm)
    have HK3 := Lib.hid (HK2.out.grown hm.only.grown (by omega))
    clear hm HM4 HA3 HK2
    obtain ⟨x0, x1, x2, x3, x4⟩ := blk_cells5 HA4.out.x
    obtain ⟨z0, z1, z2, z3, z4⟩ := blk_cells5 HA4.out.z_
    obtain ⟨f0, f1, f2, f3, f4⟩ := blk_fr5 HA4.out.z_
    have HQ := Lib.hid (set5W_blk HA4.out.z_ (.int .i64 kd) (.int .i64 0) (.slice none 0 0) (.slice Av nE.length cv) (.slice (some ⟨g6, 0, none⟩) 1 1))
    have HANS := Lib.hid (HA4.out.ans HR0.out HK3.out hl2)
    rw [HPE.out] at HANS
    go_wp2_with fail
    obtain ⟨q0, q1, q2, q3, q4⟩ := blk_cells5 HQ.out
    unfold set5W at q0 q1 q2 q3 q4
    refine bodyPost_ret (v := .agg #[.int .i64 kd, .int .i64 0, .slice none 0 0, .slice Av nE.length cv, .slice (some ⟨g6, 0, none⟩) 1 1]) (by simp [results, Tryd.results70, go_sem, q0, q1, q2, q3, q4]) rfl ?_
    exact HANS.out
end Go.Proofs.YtnkbpcenkbihpaaDoor
