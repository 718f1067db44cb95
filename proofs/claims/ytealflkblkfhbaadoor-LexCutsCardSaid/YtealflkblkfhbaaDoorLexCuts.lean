/- LexCuts. -/
import Derived.Test.YtealflkblkfhbaaDoorLexCutsA
namespace Go.Proofs.YtealflkblkfhbaaDoor
open Go.ChangeShapes Go.WideShapes Go.ChangeAt Go.RowKit
set_option linter.unusedVariables false
set_option linter.unusedSimpArgs false
set_option maxRecDepth 100000
set_option maxHeartbeats 8000000 in
theorem lex_cuts (ka kb : KSet) (at_ : Int) (w : World) (hka : ka.ok w.heap.size w) (hkb : kb.ok w.heap.size w) (hat : I64 at_) (tab : Tab w) :
    Calls Tryd.prog 6 #[ka.val, kb.val, .int .i64 at_] w fun e w' => e = .returned (.bool true) ∧ Below w.heap.size w w' := by
  have HTAB := Lib.hid tab
  have HAT := Lib.hid hat
  have HK0 := Lib.hid (TwoK.mk' hka hkb)
  clear tab hka hkb hat
  show Calls _ _ #[.agg #[.slice ka.A ka.n ka.c, .slice ka.A2 ka.n2 ka.c2], .agg #[.slice kb.A kb.n kb.c, .slice kb.A2 kb.n2 kb.c2], _] _ _
  go_enter Tryd.func6, Tryd.ntmps6
  go_upto_region 1 with fail
  generalize (w.alloc (.cells #[.slice ka.A ka.n ka.c, .slice ka.A2 ka.n2 ka.c2] 32)).alloc (.cells #[.slice kb.A kb.n kb.c, .slice kb.A2 kb.n2 kb.c2] 32) = W1 at *
  obtain ⟨bb, hbb⟩ : ∃ b, w.heap.size + 1 = b := ⟨_, rfl⟩
  obtain ⟨ba, hba⟩ : ∃ b, w.heap.size = b := ⟨_, rfl⟩
  have HBA := Lib.hid hba
  have HBB := Lib.hid hbb
  rw [hbb] at HK0
  rw [hbb, hba]
  clear hba hbb
  have HK1 := Lib.hid (show TwoK w ka kb ba bb W1 from HBA.out ▸ HK0.out)
  clear HK0
  refine wp_region_facts (R := fun a b => Below a.heap.size a b) (G := (TwoK w ka kb ba bb)) (V := fun i' u' W => match i' with | 0 => u' = .agg #[.slice ka.A ka.n ka.c, .slice ka.A2 ka.n2 ka.c2] | 1 => ∃ x : XE, u' = x.val ∧ keepV 5 x ∧ okX 5 x W | 2 => ∃ S : ByteArray, u' = .string S ∧ TextV S | 3 => u' = .agg #[.slice kb.A kb.n kb.c, .slice kb.A2 kb.n2 kb.c2] | 4 => ∃ x : XE, u' = x.val ∧ keepV 5 x ∧ okX 5 x W | 5 => ∃ S : ByteArray, u' = .string S ∧ TextV S | 6 => ∃ S : ByteArray, u' = .string S ∧ TextV S | 7 => ∃ S : ByteArray, u' = .string S ∧ TextV S | _ => True) (by kernel_rfl) (fun w => Below.refl _ _) (fun a b c h1 h2 => h1.trans (h2.mono h1.size)) (by kernel_rfl) (by kernel_rfl) ?hG ⟨?o0, ?o1, ?o2, ?o3, ?o4, ?o5, ?o6, ?o7, trivial⟩ ?hend
  case o0 =>
    intro a w hfr hG hd
    refine ⟨fun hw => ?_, fun hw => absurd hw (by simp [Region.wanted])⟩
    have s3 : a.tmps.getD 3 undef = .pointer (some ⟨ba, 0, none⟩) := hfr.at 3 (by kernel_rfl)
    have z0 := hG.now.xa.cell 0; have z1 := hG.now.xa.cell 1; simp only [List.getElem?_cons_zero, List.getElem?_cons_succ] at z0 z1
    refine op_yields (.agg #[.slice ka.A ka.n ka.c, .slice ka.A2 ka.n2 ka.c2]) ?_ ?_ ?_
    · simp only [execOp, resolve, List.map_toArray, List.map_cons, List.map_nil, Act.eval, s3]; simp [go_sem, -Array.getD_eq_getD_getElem?, s3, z0, z1]
    · exact Below.refl _ _
    · exact (fun _ _ => rfl)
  case o1 =>
    intro a w hfr hG hd
    obtain ⟨d0, _⟩ := hd
    refine ⟨fun hw => ?_, fun hw => absurd hw (by simp [Region.wanted])⟩
    have s27 : a.tmps.getD 27 undef = .agg #[.slice ka.A ka.n ka.c, .slice ka.A2 ka.n2 ka.c2] := (d0 rfl).now
    refine op_calls2 ((expr_v ka w hG.now.okA).mono fun e' w' hh => (by obtain ⟨x, h1, h2, h3, h4⟩ := hh; exact ⟨_, h1, h4, fun W' hW' => ⟨x, rfl, h2, okX_below hW' 5 x h3⟩⟩)) ?_; simp only [execOp, resolve, List.map_toArray, List.map_cons, List.map_nil, Act.eval, s27]; simp [go_sem, -Array.getD_eq_getD_getElem?, s27]
  case o2 =>
    intro a w hfr hG hd
    obtain ⟨d0, d1, _⟩ := hd
    refine ⟨fun hw => ?_, fun hw => absurd hw (by simp [Region.wanted])⟩
    have p28 : Hold (fun a b => Below a.heap.size a b) (fun W => ∃ x : XE, (a.tmps.getD 28 undef) = x.val ∧ keepV 5 x ∧ okX 5 x W) w := d0 rfl
    obtain ⟨x, hx, hkx, hox⟩ := p28.now; refine op_calls2 ((text_any x w hox hkx).mono fun e' w' hh => ⟨_, hh.1, hh.2, fun W' _ => ⟨_, rfl, keepV_textV hkx⟩⟩) ?_; simp only [execOp, resolve, List.map_toArray, List.map_cons, List.map_nil, Act.eval, hx]; simp [go_sem, -Array.getD_eq_getD_getElem?, hx]
  case o3 =>
    intro a w hfr hG hd
    refine ⟨fun hw => ?_, fun hw => absurd hw (by simp [Region.wanted])⟩
    have s4 : a.tmps.getD 4 undef = .pointer (some ⟨bb, 0, none⟩) := hfr.at 4 (by kernel_rfl)
    have z0 := hG.now.xb.cell 0; have z1 := hG.now.xb.cell 1; simp only [List.getElem?_cons_zero, List.getElem?_cons_succ] at z0 z1
    refine op_yields (.agg #[.slice kb.A kb.n kb.c, .slice kb.A2 kb.n2 kb.c2]) ?_ ?_ ?_
    · simp only [execOp, resolve, List.map_toArray, List.map_cons, List.map_nil, Act.eval, s4]; simp [go_sem, -Array.getD_eq_getD_getElem?, s4, z0, z1]
    · exact Below.refl _ _
    · exact (fun _ _ => rfl)
  case o4 =>
    intro a w hfr hG hd
    obtain ⟨d0, d1, _⟩ := hd
    refine ⟨fun hw => ?_, fun hw => absurd hw (by simp [Region.wanted])⟩
    have s30 : a.tmps.getD 30 undef = .agg #[.slice kb.A kb.n kb.c, .slice kb.A2 kb.n2 kb.c2] := (d0 rfl).now
    refine op_calls2 ((expr_v kb w hG.now.okB).mono fun e' w' hh => (by obtain ⟨x, h1, h2, h3, h4⟩ := hh; exact ⟨_, h1, h4, fun W' hW' => ⟨x, rfl, h2, okX_below hW' 5 x h3⟩⟩)) ?_; simp only [execOp, resolve, List.map_toArray, List.map_cons, List.map_nil, Act.eval, s30]; simp [go_sem, -Array.getD_eq_getD_getElem?, s30]
  case o5 =>
    intro a w hfr hG hd
    obtain ⟨d0, d1, _⟩ := hd
    refine ⟨fun hw => ?_, fun hw => absurd hw (by simp [Region.wanted])⟩
    have p31 : Hold (fun a b => Below a.heap.size a b) (fun W => ∃ x : XE, (a.tmps.getD 31 undef) = x.val ∧ keepV 5 x ∧ okX 5 x W) w := d0 rfl
    obtain ⟨x, hx, hkx, hox⟩ := p31.now; refine op_calls2 ((text_any x w hox hkx).mono fun e' w' hh => ⟨_, hh.1, hh.2, fun W' _ => ⟨_, rfl, keepV_textV hkx⟩⟩) ?_; simp only [execOp, resolve, List.map_toArray, List.map_cons, List.map_nil, Act.eval, hx]; simp [go_sem, -Array.getD_eq_getD_getElem?, hx]
  case o6 =>
    intro a w hfr hG hd
    obtain ⟨d0, d1, d2, d3, d4, d5, d6, d7, _⟩ := hd
    refine ⟨fun hw => ?_, fun hw => absurd hw (by simp [Region.wanted])⟩
    have p29 : Hold (fun a b => Below a.heap.size a b) (fun W => ∃ S : ByteArray, (a.tmps.getD 29 undef) = .string S ∧ TextV S) w := d0 rfl
    refine op_yields (a.tmps.getD 29 undef) ?_ ?_ ?_
    · simp only [execOp, Act.eval]; rfl
    · exact Below.refl _ _
    · exact p29
  case o7 =>
    intro a w hfr hG hd
    obtain ⟨d0, d1, d2, d3, d4, d5, d6, d7, d8, _⟩ := hd
    refine ⟨fun hw => ?_, fun hw => absurd hw (by simp [Region.wanted])⟩
    have p32 : Hold (fun a b => Below a.heap.size a b) (fun W => ∃ S : ByteArray, (a.tmps.getD 32 undef) = .string S ∧ TextV S) w := d0 rfl
    refine op_yields (a.tmps.getD 32 undef) ?_ ?_ ?_
    · simp only [execOp, Act.eval]; rfl
    · exact Below.refl _ _
    · exact p32
  case hG => exact fun w' hb => HK1.out.below ((Below.refl _ _).drew.trans (hb.mono (by simp)))
  case hend =>
    intro vs w2 hG hv
    have key : (∃ S : ByteArray, vs 6 = .string S ∧ TextV S) ∧ ∃ S : ByteArray, vs 7 = .string S ∧ TextV S := by
      obtain ⟨_, _, _, _, _, _, h6, h7, _⟩ := hv
      exact ⟨h6.now, h7.now⟩
    obtain ⟨⟨S, eS, hS⟩, ⟨T, eT, hT⟩⟩ := key
    have HB2 := Lib.hid hG.now.bel
    clear hv hG HK1 HBA HBB
    simp only [putAll, Act.put, eS, eT]
    clear eS eT
    go_simp
    obtain ⟨hS32, ts, htl, hcS⟩ := hS
    obtain ⟨hT32, us, hul, hcT⟩ := hT
    have HS0 := Lib.hid (hcS [] (fun c r e => by cases e))
    have HT0 := Lib.hid (hcT [] (fun c r e => by cases e))
    have HCS := Lib.hid (hcS (32 :: 32 :: 10 :: T.data.toList) (fun c r e => by injection e with e _; rw [← e]; decide))
    clear hcS hcT
    have HTK := Lib.hid (tokens_any S w2 (by omega))
    rw [HS0.out.tokF (by omega), ba_len] at HTK
    go_wp2_with fail
    (with_reducible refine HTK.out.mono ?_); rintro e w3 h3
    unfold TokAns at h3
    rw [if_neg (Nat.lt_irrefl _)] at h3
    obtain ⟨A1, c1, rfl, hown1, hb3, hac1, hcm1⟩ := h3
    obtain ⟨n1, hn1⟩ : ∃ n, ts.length = n := ⟨_, rfl⟩
    simp only at hown1 hac1
    rw [hn1] at hown1 hac1 htl
    rw [hn1]
    have HN1 := Lib.hid hn1
    have HL3 := Lib.hid (Sees.of_own hown1)
    have HB3 := Lib.hid (HB2.out.trans (hb3.mono HB2.out.size))
    clear hn1 hown1 hb3 HTK HB2
    have HTK := Lib.hid (tokens_any T w3 (by omega))
    rw [HT0.out.tokF (by omega), ba_len] at HTK
    go_wp2_with fail
    (with_reducible refine HTK.out.mono ?_); rintro e w4 h4
    unfold TokAns at h4
    rw [if_neg (Nat.lt_irrefl _)] at h4
    obtain ⟨A2, c2, rfl, hown2, hb4, hac2, hcm2⟩ := h4
    obtain ⟨n2, hn2⟩ : ∃ n, us.length = n := ⟨_, rfl⟩
    simp only at hown2 hac2
    rw [hn2] at hown2 hac2 hul
    rw [hn2]
    have HN2 := Lib.hid hn2
    have HM4 := Lib.hid (Sees.of_own hown2)
    have HL4 := Lib.hid ((HL3.out.below hb4).more hb4.size)
    have HB4 := Lib.hid (HB3.out.trans (hb4.mono HB3.out.size))
    clear hn2 hown2 hb4 HTK HL3 HB3
    obtain ⟨N, hN⟩ : ∃ N, n1 + n2 = N := ⟨_, rfl⟩
    have hs1 : (n1 : Int) + n2 = N := by omega
    have hs2 : IntKind.i64.wrap (N : Int) = N := by rw [IntKind.wrap_i64]; omega
    have HNN := Lib.hid hN
    have hN474 : N ≤ 474 := by omega
    clear hN
    by_cases h4 : 400 < N
    · have h4i : (400 : Int) < N := by omega
      have HLR := Lib.hid (lex_runs w4 (tab_of HTAB.out HB4.out))
      clear h4
      go_wp2_with fail
      (with_reducible refine HLR.out.mono ?_); rintro e w9 ⟨rfl, hb9⟩
      have HB9 := Lib.hid (HB4.out.trans (hb9.mono HB4.out.size))
      clear hb9
      go_wp2_with fail
      go_ret
      exact ⟨rfl, HB9.out⟩
    · have h4i : ¬ (400 : Int) < N := by omega
      have hN400 : N ≤ 400 := by omega
      clear h4 hN474
      have l1 : ¬ 9223372036854775807 < S.size + 3 := by omega
      have l2 : ¬ 9223372036854775807 < S.size + 3 + T.size := by omega
      obtain ⟨bs, hbs⟩ : ∃ bs, ts ++ us.map (shiftT (S.size + 3)) = bs := ⟨_, rfl⟩
      have hbl : bs.length = N := by rw [← hbs, List.length_append, List.length_map, HN1.out, HN2.out, HNN.out]
      have hUl : (S ++ (⟨#[32, 32, 10]⟩ : ByteArray) ++ T).data.toList = S.data.toList ++ (32 :: 32 :: 10 :: T.data.toList) := by
        rw [ByteArray.data_append, ByteArray.data_append, Array.toList_append, Array.toList_append, List.append_assoc]; rfl
      have hUs : (S.data.toList ++ (32 :: 32 :: 10 :: T.data.toList)).length = (S ++ (⟨#[32, 32, 10]⟩ : ByteArray) ++ T).size := by rw [← hUl, ba_len]
      have hU : (S ++ (⟨#[32, 32, 10]⟩ : ByteArray) ++ T).size ≤ 70000 := by rw [← hUs, List.length_append, List.length_cons, List.length_cons, List.length_cons, ba_len, ba_len]; omega
      have hc3 := two_cut HCS.out HT0.out
      rw [ba_len, hbs] at hc3
      have HTK := Lib.hid (tokens_any (S ++ (⟨#[32, 32, 10]⟩ : ByteArray) ++ T) w4 (by omega))
      rw [hUl, hc3.tokF (by omega), hUs] at HTK
      have HBS := Lib.hid hbs
      have HBL := Lib.hid hbl
      clear hbs hbl hUl hUs hU hc3 HCS
      go_wp2_with fail
      (with_reducible refine HTK.out.mono ?_); rintro e w5 h5
      unfold TokAns at h5
      rw [if_neg (Nat.lt_irrefl _)] at h5
      obtain ⟨A3, c3, rfl, hown3, hb5, hac3, hcm3⟩ := h5
      simp only at hown3 hac3
      rw [HBL.out] at hown3 hac3
      rw [HBL.out]
      have HB5 := Lib.hid (HB4.out.trans (hb5.mono HB4.out.size))
      have HCC := Lib.hid (show CsAt w5.heap.size A1 ts A2 us A3 bs n1 n2 N w w5 from ⟨(HL4.out.below hb5).more hb5.size, (HM4.out.below hb5).more hb5.size, Sees.of_own hown3, HB5.out, Nat.le_refl _, HB5.out.size⟩)
      clear hown3 hb5 HTK HL4 HM4 HB4 HB5
      generalize w5.heap.size = B at *
      have hnn : ((N : Int) != N) = false := by simp
      go_wp2_with fail
      go_loopg [18, 19, 20, 21, 81] N (fun g x18 x19 x20 x21 x81 wr => ∃ i : Nat, i + g = N ∧ x81 = .int .i64 i ∧ CsAt B A1 ts A2 us A3 bs n1 n2 N w wr)
      case atStart => exact ⟨0, by omega, rfl, HCC.out⟩
      case round =>
        obtain ⟨i, hig, rfl, hcr⟩ := hrel
        have HCR := Lib.hid hcr
        clear hcr HCC hnn
        cases gk with
        | zero =>
          have hin : ¬ (i : Int) < N := by omega
          have HW := Lib.hid (within_any at_ 0 n1 wr HAT.out (by omega) (by omega) (by omega))
          obtain ⟨hk1, hk2⟩ := nWithin_in at_ (lo := 0) (hi := (n1 : Int)) (by omega)
          generalize nWithin at_ 0 (n1 : Int) = kk at *
          obtain ⟨K, rfl⟩ := Int.eq_ofNat_of_zero_le hk1
          have hKn : K ≤ n1 := by omega
          have k0 : (0 : Int) ≤ K := by omega
          have k1 : (K : Int) ≤ c1 := by omega
          have HKN := Lib.hid hKn
          clear hk1 hk2
          go_wp2_with fail
          (with_reducible refine HW.out.mono ?_); rintro e wz ⟨rfl, rfl⟩
          have HJN := Lib.hid (join_any A1 K c1 (ts.take K) B wr (by rw [tcells_take]; exact HCR.out.l.take HKN.out) HCR.out.lt (by omega) (fun t ht => okTok_TokOk (HS0.out.ok t (List.mem_of_mem_take ht))) (tab_of HTAB.out HCR.out.bel))
          go_wp2_with fail
          (with_reducible refine HJN.out.mono ?_); rintro e w6 ⟨rfl, hb6⟩
          have HC6 := Lib.hid (HCR.out.below hb6)
          obtain ⟨vs, hcv, hal⟩ := joinT_cut2 (36 :: 32 :: T.data.toList) (ts.take K) (fun t ht => HS0.out.ok t (List.mem_of_mem_take ht))
          have hvl : vs.length ≤ 400 := by rw [hal.len, List.length_take, HN1.out]; omega
          have hjl : (joinT (ts.take K)).length ≤ 2003 * 237 := by
            have h1 := joinT_length_le (ts.take K) (fun t ht => okTok_TokOk (HS0.out.ok t (List.mem_of_mem_take ht)))
            have h2 : (ts.take K).length ≤ 237 := by rw [List.length_take, HN1.out]; omega
            omega
          have hd := dollar_cut hcv hvl
          obtain ⟨AH, hAH⟩ : ∃ S : ByteArray, (⟨(joinT (ts.take K)).toArray⟩ : ByteArray) = S := ⟨_, rfl⟩
          have hAl : AH.data.toList = joinT (ts.take K) := by rw [← hAH]
          have hAs : (joinT (ts.take K)).length = AH.size := by rw [← hAl, ba_len]
          rw [hAs] at hd hjl
          have hUl : (AH ++ (⟨#[32, 36, 32]⟩ : ByteArray) ++ T).data.toList = joinT (ts.take K) ++ (32 :: 36 :: 32 :: T.data.toList) := by
            rw [ByteArray.data_append, ByteArray.data_append, Array.toList_append, Array.toList_append, List.append_assoc, hAl]; rfl
          have hUs : (AH ++ (⟨#[32, 36, 32]⟩ : ByteArray) ++ T).size = AH.size + (T.size + 3) := by
            rw [← ba_len, hUl, List.length_append, List.length_cons, List.length_cons, List.length_cons, ba_len, hAs]
          have m1 : ¬ 9223372036854775807 < AH.size + 3 := by omega
          have m2 : ¬ 9223372036854775807 < AH.size + 3 + T.size := by omega
          obtain ⟨P, hP⟩ : ∃ P, AH.size + 1 = P := ⟨_, rfl⟩
          have p1 : (AH.size : Int) + 1 = P := by omega
          have p2 : IntKind.i64.wrap (P : Int) = P := by rw [IntKind.wrap_i64]; omega
          have HTK := Lib.hid (tokens_any (AH ++ (⟨#[32, 36, 32]⟩ : ByteArray) ++ T) w6 (by omega))
          rw [hUl, hd, hP] at HTK
          have HPU := Lib.hid (show P < (AH ++ (⟨#[32, 36, 32]⟩ : ByteArray) ++ T).size by omega)
          rw [hAH]
          clear hb6 HCR hcv hal hvl hjl hd hAH hAl hAs hUl hUs hP HJN HW
          go_wp2_with fail
          (with_reducible refine HTK.out.mono ?_); rintro e w7 h7
          unfold TokAns at h7
          rw [if_pos HPU.out] at h7
          obtain ⟨rfl, hb7⟩ := h7
          have HB7 := Lib.hid (HC6.out.below hb7).bel
          have HLR := Lib.hid (lex_runs w7 (tab_of HTAB.out HB7.out))
          have hpp : ((P : Int) == P) = true := by simp
          clear hb7 HTK HC6
          go_wp2_with fail
          (with_reducible refine HLR.out.mono ?_); rintro e w9 ⟨rfl, hb9⟩
          have HB9 := Lib.hid (HB7.out.trans (hb9.mono HB7.out.size))
          clear hb9
          go_wp2_with fail
          go_ret
          exact ⟨rfl, HB9.out⟩
        | succ g =>
          have hin : i < N := by omega
          have hini : (i : Int) < N := by omega
          have hge0 : (0 : Int) ≤ i := by omega
          obtain ⟨ad3, hk3, hA3, c0, c1', c2', c3'⟩ := HCR.out.b.tok hin
          subst hA3
          have HE := Lib.hid (show bs[i] = (ts ++ us.map (shiftT (S.size + 3)))[i]'(by rw [HBS.out]; exact hk3) by simp only [HBS.out])
          have hr := HE.out
          by_cases h1 : i < n1
          · have h1i : (i : Int) < n1 := by omega
            rw [List.getElem_append_left (by rw [HN1.out]; exact h1)] at hr
            obtain ⟨ad1, hk1, hA1, _⟩ := HCR.out.l.tok h1
            subst hA1
            rw [hr] at c0 c1' c2' c3'
            have HRD := Lib.hid (RdAt.mk' HCR.out (.int .i64 ts[i].kd) (.int .i64 ts[i].n) (.int .i64 ts[i].at_) (.string ts[i].tx) (.int .i64 0) (.int .i64 0) (.int .i64 0) (.string ⟨#[]⟩))
            have HOK := Lib.hid (HS0.out.stands.1 ts[i] (List.getElem_mem hk1))
            have htk : ∀ V : World, Sees V B 4 (some ad1) n1 (tcells ts) → TokAt V ad1 i ts[i].kd ts[i].n ts[i].at_ ts[i].tx := fun V h => h.tokAt h1 hk1
            obtain ⟨pa, ha, hal, _, _⟩ := HOK.out
            rw [ba_len] at hal
            rw [ha] at htk HRD c2'
            generalize ts[i].kd = kd at *
            generalize ts[i].n = nn at *
            generalize ts[i].tx = tx at *
            have HTKA := Lib.hid htk
            have z1 : IntKind.i64.wrap (pa : Int) = pa := by rw [IntKind.wrap_i64]; omega
            clear hr htk ha hal HE HOK
            have hq := fun W => eq_tokens kd nn pa tx W
            go_upto_region 15 with fail
            obtain ⟨bw, hbw⟩ : ∃ b, wr.heap.size + 1 = b := ⟨_, rfl⟩
            obtain ⟨bx, hbx⟩ : ∃ b, wr.heap.size = b := ⟨_, rfl⟩
            generalize (wr.alloc (.cells #[.int .i64 kd, .int .i64 nn, .int .i64 pa, .string tx] 27)).alloc (.cells #[.int .i64 0, .int .i64 0, .int .i64 0, .string ⟨#[]⟩] 27) = W1 at *
            rw [hbw, hbx] at HRD
            rw [hbw, hbx]
            clear hbw hbx HCR c0 c1' c2' c3'
            obtain ⟨x0, x1, x2, x3⟩ := blk_cells4 HRD.out.x
            obtain ⟨y0, y1, y2, y3⟩ := blk_cells4 HRD.out.y
            have g0 := HRD.out.y.frozen 0
            have g1 := HRD.out.y.frozen 1
            have g2 := HRD.out.y.frozen 2
            have g3 := HRD.out.y.frozen 3
            obtain ⟨d0, d1, d2, d3⟩ := HTKA.out W1 HRD.out.c.l
            have HR3 := Lib.hid (HRD.out.put (.int .i64 kd) (.int .i64 nn) (.int .i64 pa) (.string tx))
            go_upto_region 18 with fail
            generalize (((W1.setCell ⟨bw, 0, none⟩ (.int .i64 kd)).setCell ⟨bw, 1, none⟩ (.int .i64 nn)).setCell ⟨bw, 2, none⟩ (.int .i64 pa)).setCell ⟨bw, 3, none⟩ (.string tx) = W3 at *
            clear x0 x1 x2 x3 y0 y1 y2 y3 g0 g1 g2 g3 d0 d1 d2 d3 HRD
            have y2 := HR3.out.y.cell 2
            simp only [List.getElem?_cons_zero, List.getElem?_cons_succ] at y2
            have g2 := HR3.out.y.frozen 2
            have HR4 := Lib.hid (HR3.out.put2 (.int .i64 pa))
            go_upto_region 19 with fail
            generalize W3.setCell ⟨bw, 2, none⟩ (.int .i64 pa) = W4 at *
            clear y2 g2 HR3
            obtain ⟨x0, x1, x2, x3⟩ := blk_cells4 HR4.out.x
            obtain ⟨y0, y1, y2, y3⟩ := blk_cells4 HR4.out.y
            go_wp2_with fail
            go_roundg g
            case measure => omega
            case rel => exact ⟨i + 1, by omega, by go_num, HR4.out.c⟩
          · obtain ⟨j, hj⟩ : ∃ j, n1 + j = i := ⟨i - n1, by omega⟩
            have h1n : ¬ (i : Int) < n1 := by omega
            have hjn : j < n2 := by have := HNN.out; omega
            rw [List.getElem_append_right (by rw [HN1.out]; omega)] at hr
            have ej : i - ts.length = j := by rw [HN1.out]; omega
            simp only [List.getElem_map, ej] at hr
            obtain ⟨ad2, hk2, hA2, _⟩ := HCR.out.m.tok hjn
            subst hA2
            have HOK := Lib.hid (HT0.out.stands.1 us[j] (List.getElem_mem hk2))
            have htk : ∀ V : World, Sees V B 4 (some ad2) n2 (tcells us) → TokAt V ad2 j us[j].kd us[j].n us[j].at_ us[j].tx := fun V h => h.tokAt hjn hk2
            obtain ⟨pb, hb, hbl, _, _⟩ := HOK.out
            rw [ba_len] at hbl
            obtain ⟨F, hF⟩ : ∃ F, S.size + 3 = F := ⟨_, rfl⟩
            obtain ⟨pe, hpe⟩ : ∃ pe, pb + F = pe := ⟨_, rfl⟩
            have r0 : bs[i].kd = us[j].kd := by rw [hr]; rfl
            have r1 : bs[i].n = us[j].n := by rw [hr]; rfl
            have r2 : bs[i].at_ = (pe : Int) := by rw [hr]; show us[j].at_ + ((S.size + 3 : Nat) : Int) = _; rw [hb]; omega
            have r3 : bs[i].tx = us[j].tx := by rw [hr]; rfl
            rw [r0] at c0
            rw [r1] at c1'
            rw [r2] at c2'
            rw [r3] at c3'
            rw [hb] at htk
            have HRD := Lib.hid (RdAt.mk' HCR.out (.int .i64 us[j].kd) (.int .i64 us[j].n) (.int .i64 pe) (.string us[j].tx) (.int .i64 0) (.int .i64 0) (.int .i64 0) (.string ⟨#[]⟩))
            have j1 : (i : Int) - n1 = j := by omega
            have j2 : IntKind.i64.wrap (j : Int) = j := by rw [IntKind.wrap_i64]; omega
            have j3 : (0 : Int) ≤ j := by omega
            have j4 : (j : Int) < n2 := by omega
            have f1 : (S.size : Int) + 3 = F := by omega
            have f2 : IntKind.i64.wrap (F : Int) = F := by rw [IntKind.wrap_i64]; omega
            have f3 : (pb : Int) + F = pe := by omega
            have f4 : IntKind.i64.wrap (pe : Int) = pe := by rw [IntKind.wrap_i64]; omega
            have HJ := Lib.hid hj
            clear hr hb hbl hF hpe r0 r1 r2 r3 ej hj HE HOK
            generalize us[j].kd = kd at *
            generalize us[j].n = nn at *
            generalize us[j].tx = tx at *
            have HTKA := Lib.hid htk
            clear htk
            have hq := fun W => eq_tokens kd nn pe tx W
            go_upto_region 15 with fail
            obtain ⟨bw, hbw⟩ : ∃ b, wr.heap.size + 1 = b := ⟨_, rfl⟩
            obtain ⟨bx, hbx⟩ : ∃ b, wr.heap.size = b := ⟨_, rfl⟩
            generalize (wr.alloc (.cells #[.int .i64 kd, .int .i64 nn, .int .i64 pe, .string tx] 27)).alloc (.cells #[.int .i64 0, .int .i64 0, .int .i64 0, .string ⟨#[]⟩] 27) = W1 at *
            rw [hbw, hbx] at HRD
            rw [hbw, hbx]
            clear hbw hbx HCR c0 c1' c2' c3'
            obtain ⟨x0, x1, x2, x3⟩ := blk_cells4 HRD.out.x
            obtain ⟨y0, y1, y2, y3⟩ := blk_cells4 HRD.out.y
            have g0 := HRD.out.y.frozen 0
            have g1 := HRD.out.y.frozen 1
            have g2 := HRD.out.y.frozen 2
            have g3 := HRD.out.y.frozen 3
            obtain ⟨d0, d1, d2, d3⟩ := HTKA.out W1 HRD.out.c.m
            have HR3 := Lib.hid (HRD.out.put (.int .i64 kd) (.int .i64 nn) (.int .i64 pb) (.string tx))
            go_upto_region 18 with fail
            generalize (((W1.setCell ⟨bw, 0, none⟩ (.int .i64 kd)).setCell ⟨bw, 1, none⟩ (.int .i64 nn)).setCell ⟨bw, 2, none⟩ (.int .i64 pb)).setCell ⟨bw, 3, none⟩ (.string tx) = W3 at *
            clear x0 x1 x2 x3 y0 y1 y2 y3 g0 g1 g2 g3 d0 d1 d2 d3 HRD
            have y2 := HR3.out.y.cell 2
            simp only [List.getElem?_cons_zero, List.getElem?_cons_succ] at y2
            have g2 := HR3.out.y.frozen 2
            have HR4 := Lib.hid (HR3.out.put2 (.int .i64 pe))
            go_upto_region 19 with fail
            generalize W3.setCell ⟨bw, 2, none⟩ (.int .i64 pe) = W4 at *
            clear y2 g2 HR3
            obtain ⟨x0, x1, x2, x3⟩ := blk_cells4 HR4.out.x
            obtain ⟨y0, y1, y2, y3⟩ := blk_cells4 HR4.out.y
            go_wp2_with fail
            go_roundg g
            case measure => omega
            case rel => exact ⟨i + 1, by omega, by go_num, HR4.out.c⟩
end Go.Proofs.YtealflkblkfhbaaDoor
