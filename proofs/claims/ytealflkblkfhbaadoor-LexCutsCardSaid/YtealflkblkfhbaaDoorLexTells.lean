/- LexTells. -/
import Derived.Test.YtealflkblkfhbaaDoorLexRuns
import Derived.Test.YtealflkblkfhbaaDoorRefLex3
import Derived.Test.YtealflkblkfhbaaDoorRefPrint2
import Derived.Test.YtealflkblkfhbaaDoorKeepX3
import Derived.Test.YtealflkblkfhbaaDoorSameTok
import Derived.Test.YtealflkblkfhbaaDoorSameStr
namespace Go.Proofs.YtealflkblkfhbaaDoor
open Go.ChangeShapes Go.WideShapes Go.ChangeAt Go.RowKit
set_option linter.unusedVariables false
set_option linter.unusedSimpArgs false
set_option maxRecDepth 100000
/-- Text of an expression of numbers: how long. -/
def TextAns (w : World) (e : Ending) (w' : World) : Prop := ∃ T : ByteArray, e = .returned (.string T) ∧ T.size ≤ 32000 ∧ Below w.heap.size w w'
theorem text_v {x : XE} {w : World} (hok : okX 5 x w) (hk : keepV 5 x) : Calls Tryd.prog 9 #[x.val] w (TextAns w) :=
  (text_any x w hok hk).mono fun e w' h => ⟨_, h.1, by
    show (printX 5 x).toArray.size ≤ 32000
    rw [List.size_toArray]; exact printV_len hk, h.2⟩
theorem expr_v (k : KSet) (w : World) (hk : k.ok w.heap.size w) : Calls Tryd.prog 10 #[.agg #[.slice k.A k.n k.c, .slice k.A2 k.n2 k.c2]] w (ExprAns w) := expr_any k w hk
theorem bel_drewN {n : Nat} {w w' : World} (h : Below n w w') (m : Nat) : Below n w (w'.drewN m) := by
  induction m with
  | zero => exact h
  | succ m ih => exact ih.drew
theorem strs_txs (l : List ByteArray) : txs1 l = strs l := rfl
set_option maxHeartbeats 8000000 in
theorem lex_tells (s : ByteArray) (k : KSet) (at_ : Int) (x : UInt8) (own : Bool) (w : World) (hs : s.size ≤ 9223372036854775807) (hk : k.ok w.heap.size w) (hat : I64 at_) (tab : Tab w) :
    Calls Tryd.prog 4 #[.string s, k.val, .int .i64 at_, .int .u8 (x.toNat : Int), .bool own] w fun e w' => e = .returned (.bool true) ∧ Below w.heap.size w w' := by
  have HTAB := Lib.hid tab
  have HAT := Lib.hid hat
  have HB0 := Lib.hid ((Below.refl w.heap.size w).alloc (Nat.le_refl _) (.cells #[.slice k.A k.n k.c, .slice k.A2 k.n2 k.c2] 32))
  have HBX := Lib.hid (Blk.mk (heap_alloc_new w (.cells #[.slice k.A k.n k.c, .slice k.A2 k.n2 k.c2] 32)) : Blk _ w.heap.size 32 [.slice k.A k.n k.c, .slice k.A2 k.n2 k.c2])
  have HK := Lib.hid (hk.below HB0.out)
  clear tab hat hk
  obtain ⟨m, hm⟩ : ∃ m : Nat, min (s.size : Int) 80 = (m : Int) := ⟨min s.size 80, by omega⟩
  have hm2 : (if (80 : Int) < s.size then 80 else (s.size : Int)) = (m : Int) := by rw [← hm]; split <;> omega
  have hm80 : m ≤ 80 := by omega
  have hms : m ≤ s.size := by omega
  have hm0 : (0 : Int) ≤ m := by omega
  have hmi : (m : Int) ≤ s.size := by omega
  show Calls _ _ #[_, .agg #[.slice k.A k.n k.c, .slice k.A2 k.n2 k.c2], _, _, _] _ _
  go_enter Tryd.func4, Tryd.ntmps4
  go_upto_region 2 with fail
  have hS80 : (s.extract 0 m).size ≤ 80 := by rw [ByteArray.size_extract]; omega
  generalize s.extract 0 m = S at *
  obtain ⟨b6, hb6⟩ : ∃ b, w.heap.size = b := ⟨_, rfl⟩
  have HB6 := Lib.hid hb6
  rw [hb6]
  clear hb6 hm hm2 hm0 hmi
  generalize w.alloc (.cells #[.slice k.A k.n k.c, .slice k.A2 k.n2 k.c2] 32) = W1 at *
  rw [HB6.out] at HBX
  go_upto_if 24 with fail
  go_cut [0] from 11 to 48 (fun x0 wx => ∃ S2 : ByteArray, x0 = .string S2 ∧ S2.size ≤ 70000 ∧ Below w.heap.size w wx)
  case first =>
    cases own with
    | false =>
      go_wp2_with fail
      go_meet
      exact ⟨S, rfl, by omega, HB0.out⟩
    | true =>
      have c0 := HBX.out.cell 0
      have c1 := HBX.out.cell 1
      simp only [List.getElem?_cons_zero, List.getElem?_cons_succ] at c0 c1
      have HEX := Lib.hid (expr_v k W1 (⟨HK.out.has_.more HB0.out.size, HK.out.hasI, HK.out.n_, HK.out.vals_.more HB0.out.size, HK.out.valsI, HK.out.n2_⟩))
      go_wp2_with fail
      (with_reducible refine HEX.out.mono ?_); rintro e w2 ⟨xx, he, hkx, hox, hb2⟩
      have HTX := Lib.hid (text_v hox hkx)
      obtain ⟨A1, c1', A2, c2, A3, c3, e1, e2, e3⟩ := okX_forms hox
      obtain ⟨xk, xn, xmv, xms, xnv, xns, xkv, xks⟩ := xx
      simp only [XE.mv, XE.nv, XE.kv, XE.ms, XE.ns, XE.kids] at e1 e2 e3
      subst e1; subst e2; subst e3
      have he2 : e = .returned (.agg #[.int .i64 xk, .int .i64 xn, .slice A1 xms.length c1', .slice A2 xns.length c2, .slice A3 xks.length c3]) := he
      subst he2
      have HTX2 := Lib.hid (show Calls Tryd.prog 9 #[.agg #[.int .i64 xk, .int .i64 xn, .slice A1 xms.length c1', .slice A2 xns.length c2, .slice A3 xks.length c3]] w2 (TextAns w2) from HTX.out)
      have HB2 := Lib.hid (HB0.out.trans (hb2.mono HB0.out.size))
      clear he hkx hox hb2 HTX HEX c0 c1
      go_wp2_with fail
      (with_reducible refine HTX2.out.mono ?_); rintro e w3 ⟨T, rfl, hT, hb3⟩
      have HB3 := Lib.hid (HB2.out.trans (hb3.mono HB2.out.size))
      clear hb3 HTX2 HB2
      obtain ⟨q, hq⟩ : ∃ q : Nat, max ((T.size : Int) - 1) 0 = (q : Int) := ⟨T.size - 1, by omega⟩
      have hq2 : (if (T.size : Int) - 1 < 0 then 0 else (T.size : Int) - 1) = (q : Int) := by rw [← hq]; split <;> omega
      have hq3 : (if (0 : Int) < (T.size : Int) - 1 then (T.size : Int) - 1 else 0) = (q : Int) := by rw [← hq]; split <;> omega
      have hqn : q = T.size - 1 := by omega
      have HW := Lib.hid (within_any at_ 0 q w3 HAT.out (by omega) (by omega) (by omega))
      obtain ⟨hi1, hi2⟩ := nWithin_in at_ (lo := 0) (hi := (q : Int)) (by omega)
      generalize nWithin at_ 0 (q : Int) = ii at *
      obtain ⟨i, rfl⟩ := Int.eq_ofNat_of_zero_le hi1
      have hiq : i ≤ q := by omega
      have HQN := Lib.hid hqn
      clear hqn hi1 hi2
      go_upto_region 4 with fail
      go_wp2_with fail
      (with_reducible refine HW.out.mono ?_); rintro e wz ⟨rfl, rfl⟩
      by_cases h0 : 0 < T.size
      · have h0i : (0 : Int) < T.size := by omega
        have hiT : i < T.size := by have := HQN.out; omega
        obtain ⟨j, hj⟩ : ∃ j, i + 1 = j := ⟨_, rfl⟩
        have i1 : (0 : Int) ≤ i := by omega
        have i2 : (i : Int) ≤ T.size := by omega
        have i3 : (i : Int) + 1 = (j : Int) := by omega
        have i4 : (0 : Int) ≤ j := by omega
        have i5 : (j : Int) ≤ T.size := by omega
        have i6 : IntKind.i64.wrap ((i : Int) + 1) = (j : Int) := by rw [IntKind.wrap_i64]; omega
        have hp1 : (T.extract 0 i).size ≤ 32000 := by rw [ByteArray.size_extract]; omega
        have hp2 : (T.extract j T.size).size ≤ 32000 := by rw [ByteArray.size_extract]; omega
        have HSZ := Lib.hid (show (T.extract 0 i ++ ⟨#[x]⟩ ++ T.extract j T.size).size ≤ 70000 by
          rw [ByteArray.size_append, ByteArray.size_append]; show (T.extract 0 i).size + 1 + _ ≤ 70000; omega)
        have hcv := conv_at (w3.alloc (.cells #[.int .u8 (x.toNat : Int)] 5)) w3.heap.size x (x.toNat : Int) rfl (Blk.mk (heap_alloc_new w3 _))
        have hcv2 := conv_at (w3.alloc (.cells #[.int .u8 (x.toNat : Int)] 5)).drew w3.heap.size x (x.toNat : Int) rfl (Blk.mk (heap_alloc_new w3 _))
        have i7 : IntKind.i64.wrap (j : Int) = (j : Int) := by rw [IntKind.wrap_i64]; omega
        have l1 : ¬ 9223372036854775807 < min i T.size + 1 := by omega
        have l2 : ¬ 9223372036854775807 < min i T.size + 1 + (T.size - j) := by omega
        clear hj
        go_upto_region 6 with fail
        have HB4 := Lib.hid (HB3.out.alloc HB3.out.size (.cells #[.int .u8 (x.toNat : Int)] 5))
        go_region_law (fail)
        all_goals
          clear hcv hcv2
          go_simp
          go_wp2_with fail
          go_meet
          exact ⟨_, rfl, HSZ.out, HB4.out.drew⟩
      · have h0i : ¬ (0 : Int) < T.size := by omega
        go_wp2_with fail
        go_meet
        exact ⟨S, rfl, by omega, HB3.out⟩
  case rest =>
    obtain ⟨S2, rfl, hs2, hbel⟩ := hcut
    have HB1 := Lib.hid hbel
    clear hbel HB0 HBX HK hS80
    have HTK := Lib.hid (tokens_any S2 wc (by omega))
    have HRT := Lib.hid (fun V => rtokens_any one_any S2 V (by omega))
    obtain ⟨tk, htk⟩ : ∃ t, tokF S2.data.toList = t := ⟨_, rfl⟩
    rw [htk] at HTK HRT
    clear htk
    obtain ⟨toks, at0⟩ := tk
    go_wp2_with fail
    (with_reducible refine HTK.out.mono ?_); rintro e w2 h2
    unfold TokAns at h2
    have HR2 := Lib.hid (HRT.out w2)
    clear HTK HRT
    by_cases hlt : at0 < S2.size
    · have HLT := Lib.hid hlt
      rw [if_pos hlt] at h2
      obtain ⟨rfl, hb2⟩ := h2
      have HB2 := Lib.hid (HB1.out.trans (hb2.mono HB1.out.size))
      clear hb2 hlt
      go_wp2_with fail
      (with_reducible refine HR2.out.mono ?_); rintro e w3 h3
      unfold RTokAns at h3
      rw [if_pos HLT.out] at h3
      obtain ⟨rfl, hb3⟩ := h3
      have HB3 := Lib.hid (HB2.out.trans (hb3.mono HB2.out.size))
      clear hb3 HR2
      have HSM := Lib.hid (same_tok none none 0 0 0 0 0 [] w3 Sees.nil Sees.nil (by omega))
      go_wp2_with fail
      (with_reducible refine HSM.out.mono ?_); rintro e w4 ⟨rfl, m4, rfl⟩
      have HB4 := Lib.hid (show Below w.heap.size w (w3.drewN m4) from bel_drewN HB3.out m4)
      generalize w3.drewN m4 = w4 at *
      go_wp2_with fail
      (with_reducible refine (lsigns_any _).mono ?_); rintro e w5 ⟨rfl, hw5⟩
      have HS5 := Lib.hid (show Blk w5 w4.heap.size 9 (strs signsL) by rw [← hw5]; exact Blk.mk (heap_alloc_new w4 _))
      have HB5 := Lib.hid (show Below w.heap.size w w5 by rw [← hw5]; exact HB4.out.alloc HB4.out.size _)
      generalize w4.heap.size = g5 at *
      clear hw5 HB4
      go_wp2_with fail
      (with_reducible refine (rsigns_any _).mono ?_); rintro e w6 ⟨rfl, hw6⟩
      have HS6 := Lib.hid (show Blk w6 w5.heap.size 9 (strs signsL) by rw [← hw6]; exact Blk.mk (heap_alloc_new w5 _))
      have HS56 := Lib.hid (show Blk w6 g5 9 (strs signsL) by rw [← hw6]; exact HS5.out.alloc _)
      have HB6' := Lib.hid (show Below w.heap.size w w6 by rw [← hw6]; exact HB5.out.alloc HB5.out.size _)
      generalize w5.heap.size = g6 at *
      clear hw6 HB5 HS5
      have HSS := Lib.hid (same_str (some ⟨g5, 0, none⟩) (some ⟨g6, 0, none⟩) 22 22 22 22 _ _ signsL signsL w6 (HS56.out.sees (size := 1) (n := 22) rfl (List.prefix_refl _)) (HS6.out.sees (size := 1) (n := 22) rfl (List.prefix_refl _)) (by omega) (by omega))
      rw [decide_eq_true (rfl : signsL = signsL)] at HSS
      go_wp2_with fail
      (with_reducible refine HSS.out.mono ?_); rintro e w7 ⟨rfl, m7, rfl⟩
      have HB7 := Lib.hid (show Below w.heap.size w (w6.drewN m7) from bel_drewN HB6'.out m7)
      generalize w6.drewN m7 = w7 at *
      have HLR := Lib.hid (lex_runs w7 (tab_of HTAB.out HB7.out))
      clear HSS HS6 HS56 HB6'
      go_wp2_with fail
      (with_reducible refine HLR.out.mono ?_); rintro e w8 ⟨rfl, hb8⟩
      have HB8 := Lib.hid (HB7.out.trans (hb8.mono HB7.out.size))
      clear hb8
      go_wp2_with fail
      go_ret
      exact ⟨rfl, HB8.out⟩
    · have HLT := Lib.hid hlt
      rw [if_neg hlt] at h2
      obtain ⟨A, c, rfl, hown2, hb2, hc1, hc2⟩ := h2
      have HB2 := Lib.hid (HB1.out.trans (hb2.mono HB1.out.size))
      have HO2 := Lib.hid hown2
      clear hb2 hlt hown2
      obtain ⟨nt, hnt⟩ : ∃ n, toks.length = n := ⟨_, rfl⟩
      rw [hnt] at HO2 hc1
      rw [hnt]
      go_wp2_with fail
      (with_reducible refine HR2.out.mono ?_); rintro e w3 h3
      unfold RTokAns at h3
      rw [if_neg HLT.out] at h3
      obtain ⟨A2, c2, rfl, hown3, hb3, hd1, hd2⟩ := h3
      have HB3 := Lib.hid (HB2.out.trans (hb3.mono HB2.out.size))
      rw [hnt] at hown3 hd1
      rw [hnt]
      clear hnt
      have HSM := Lib.hid (same_tok A A2 nt c c2 _ _ toks w3 ((Sees.of_own HO2.out).below hb3) (Sees.of_own hown3) (by omega))
      clear hb3 HR2 hown3 HO2
      go_wp2_with fail
      (with_reducible refine HSM.out.mono ?_); rintro e w4 ⟨rfl, m4, rfl⟩
      have HB4 := Lib.hid (show Below w.heap.size w (w3.drewN m4) from bel_drewN HB3.out m4)
      generalize w3.drewN m4 = w4 at *
      go_wp2_with fail
      (with_reducible refine (lsigns_any _).mono ?_); rintro e w5 ⟨rfl, hw5⟩
      have HS5 := Lib.hid (show Blk w5 w4.heap.size 9 (strs signsL) by rw [← hw5]; exact Blk.mk (heap_alloc_new w4 _))
      have HB5 := Lib.hid (show Below w.heap.size w w5 by rw [← hw5]; exact HB4.out.alloc HB4.out.size _)
      generalize w4.heap.size = g5 at *
      clear hw5 HB4
      go_wp2_with fail
      (with_reducible refine (rsigns_any _).mono ?_); rintro e w6 ⟨rfl, hw6⟩
      have HS6 := Lib.hid (show Blk w6 w5.heap.size 9 (strs signsL) by rw [← hw6]; exact Blk.mk (heap_alloc_new w5 _))
      have HS56 := Lib.hid (show Blk w6 g5 9 (strs signsL) by rw [← hw6]; exact HS5.out.alloc _)
      have HB6' := Lib.hid (show Below w.heap.size w w6 by rw [← hw6]; exact HB5.out.alloc HB5.out.size _)
      generalize w5.heap.size = g6 at *
      clear hw6 HB5 HS5
      have HSS := Lib.hid (same_str (some ⟨g5, 0, none⟩) (some ⟨g6, 0, none⟩) 22 22 22 22 _ _ signsL signsL w6 (HS56.out.sees (size := 1) (n := 22) rfl (List.prefix_refl _)) (HS6.out.sees (size := 1) (n := 22) rfl (List.prefix_refl _)) (by omega) (by omega))
      rw [decide_eq_true (rfl : signsL = signsL)] at HSS
      go_wp2_with fail
      (with_reducible refine HSS.out.mono ?_); rintro e w7 ⟨rfl, m7, rfl⟩
      have HB7 := Lib.hid (show Below w.heap.size w (w6.drewN m7) from bel_drewN HB6'.out m7)
      generalize w6.drewN m7 = w7 at *
      have HLR := Lib.hid (lex_runs w7 (tab_of HTAB.out HB7.out))
      clear HSS HS6 HS56 HB6'
      go_wp2_with fail
      (with_reducible refine HLR.out.mono ?_); rintro e w8 ⟨rfl, hb8⟩
      have HB8 := Lib.hid (HB7.out.trans (hb8.mono HB7.out.size))
      clear hb8
      go_wp2_with fail
      go_ret
      exact ⟨rfl, HB8.out⟩
end Go.Proofs.YtealflkblkfhbaaDoor
