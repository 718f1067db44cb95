/- LexJoin. -/
import Derived.Test.YtealflkblkfhbaaDoorLexJoinA
namespace Go.Proofs.YtealflkblkfhbaaDoor
open Go.ChangeShapes Go.WideShapes Go.ChangeAt Go.RowKit
set_option linter.unusedVariables false
set_option linter.unusedSimpArgs false
set_option maxRecDepth 100000
set_option maxHeartbeats 8000000 in
theorem lex_join (k : KSet) (A1 : Option Addr) (n1 c1 : Nat) (zs : List Int) (A2 : Option Addr) (n2 c2 : Nat) (xs : List ByteArray) (w : World) (hk : k.ok w.heap.size w)
    (hz : Sees w w.heap.size 1 A1 n1 (ints zs)) (hn1 : n1 ≤ c1) (hc1 : c1 ≤ 9223372036854775807) (hzI : ∀ z ∈ zs, I64 z)
    (hx : Sees w w.heap.size 1 A2 n2 (strs xs)) (hn2 : n2 ≤ c2) (hc2 : c2 ≤ 9223372036854775807) (hxs : ∀ s ∈ xs, s.size ≤ 9223372036854775807) (tab : Tab w) :
    Calls Tryd.prog 5 #[k.val, .slice A1 n1 c1, .slice A2 n2 c2] w fun e w' => e = .returned (.bool true) ∧ Below w.heap.size w w' := by
  obtain ⟨i0, hi0, hz0, hz1, hz2⟩ := info_parts Tryd.infoTok
  have HTAB := Lib.hid tab
  have HZI := Lib.hid hzI
  have HXS := Lib.hid hxs
  have HB0 := Lib.hid ((Below.refl w.heap.size w).alloc (Nat.le_refl _) (.cells #[.slice k.A k.n k.c, .slice k.A2 k.n2 k.c2] 32))
  have HBX := Lib.hid (Blk.mk (heap_alloc_new w (.cells #[.slice k.A k.n k.c, .slice k.A2 k.n2 k.c2] 32)) : Blk _ w.heap.size 32 [.slice k.A k.n k.c, .slice k.A2 k.n2 k.c2])
  have HK := Lib.hid (hk.below HB0.out)
  have HZ := Lib.hid (hz.below HB0.out)
  have HX := Lib.hid (hx.below HB0.out)
  clear tab hk hz hx hzI hxs
  show Calls _ _ #[.agg #[.slice k.A k.n k.c, .slice k.A2 k.n2 k.c2], _, _] _ _
  go_enter Tryd.func5, Tryd.ntmps5
  go_upto_region 1 with fail
  obtain ⟨b3, hb3⟩ : ∃ b, w.heap.size = b := ⟨_, rfl⟩
  have HB3 := Lib.hid hb3
  rw [hb3]
  clear hb3
  generalize w.alloc (.cells #[.slice k.A k.n k.c, .slice k.A2 k.n2 k.c2] 32) = W1 at *
  rw [HB3.out] at HBX
  have c0 := HBX.out.cell 0
  have c1' := HBX.out.cell 1
  simp only [List.getElem?_cons_zero, List.getElem?_cons_succ] at c0 c1'
  have HEX := Lib.hid (expr_v k W1 (⟨HK.out.has_.more HB0.out.size, HK.out.hasI, HK.out.n_, HK.out.vals_.more HB0.out.size, HK.out.valsI, HK.out.n2_⟩))
  go_wp2_with fail
  (with_reducible refine HEX.out.mono ?_); rintro e w2 ⟨xx, he, hkx, hox, hb2⟩
  have HTX := Lib.hid (text_toks hox hkx)
  obtain ⟨B1, d1, B2, d2, B3, d3, e1, e2, e3⟩ := okX_forms hox
  obtain ⟨xk, xn, xmv, xms, xnv, xns, xkv, xks⟩ := xx
  simp only [XE.mv, XE.nv, XE.kv, XE.ms, XE.ns, XE.kids] at e1 e2 e3
  subst e1; subst e2; subst e3
  have he2 : e = .returned (.agg #[.int .i64 xk, .int .i64 xn, .slice B1 xms.length d1, .slice B2 xns.length d2, .slice B3 xks.length d3]) := he
  subst he2
  have HTX2 := Lib.hid (show Calls Tryd.prog 9 #[.agg #[.int .i64 xk, .int .i64 xn, .slice B1 xms.length d1, .slice B2 xns.length d2, .slice B3 xks.length d3]] w2 (TextToks w2) from HTX.out)
  have HB2 := Lib.hid (HB0.out.trans (hb2.mono HB0.out.size))
  have HZ2 := Lib.hid (HZ.out.below (hb2.mono HB0.out.size))
  have HX2 := Lib.hid (HX.out.below (hb2.mono HB0.out.size))
  clear he hkx hox hb2 HTX HEX c0 c1' HB0 HBX HK HZ HX
  go_wp2_with fail
  (with_reducible refine HTX2.out.mono ?_); rintro e w3 ⟨T, ts, rfl, hT, hcut, hts, hb3⟩
  have HB3' := Lib.hid (HB2.out.trans (hb3.mono HB2.out.size))
  have HZ3 := Lib.hid (HZ2.out.below (hb3.mono HB2.out.size))
  have HX3 := Lib.hid (HX2.out.below (hb3.mono HB2.out.size))
  have HTK := Lib.hid (tokens_any T w3 (by omega))
  have HOKT := Lib.hid hcut.ok
  rw [hcut.tokF (by omega), ba_len] at HTK
  clear hb3 HTX2 HB2 HZ2 HX2 hcut
  go_wp2_with fail
  (with_reducible refine HTK.out.mono ?_); rintro e w4 h4
  unfold TokAns at h4
  rw [if_neg (Nat.lt_irrefl _)] at h4
  obtain ⟨A, c, rfl, hown, hb4, hac, hcm⟩ := h4
  obtain ⟨n, hn⟩ : ∃ n, ts.length = n := ⟨_, rfl⟩
  rw [hn]
  simp only at hown hac hts
  rw [hn] at hown hac hts
  have HJ := Lib.hid (show JAt w A1 n1 zs A2 n2 xs A n c ts w4 from ⟨own_mono hown HB3'.out.size, hn, HB3'.out.trans (hb4.mono HB3'.out.size), HZ3.out.below (hb4.mono HB3'.out.size), HX3.out.below (hb4.mono HB3'.out.size), HOKT.out⟩)
  clear hown hb4 hn HTK HB3' HZ3 HX3 HOKT
  obtain ⟨K1, hK1⟩ : ∃ K, min n1 5 = K := ⟨_, rfl⟩
  obtain ⟨K2, hK2⟩ : ∃ K, min n2 5 = K := ⟨_, rfl⟩
  have HK1 := Lib.hid hK1
  have HK2 := Lib.hid hK2
  have k1a : K1 ≤ n1 := by omega
  have k1b : K1 ≤ 5 := by omega
  have k2a : K2 ≤ n2 := by omega
  have k2b : K2 ≤ 5 := by omega
  clear hK1 hK2
  go_upto_block 0 with fail
  go_cut [7, 10] from 27 to 44 (fun x7 x10 wx => ∃ (A : Option Addr) (n c : Nat) (L : List Tok), x7 = .slice A n c ∧ n ≤ 242 ∧ n ≤ c ∧ c ≤ 9223372036854775807 ∧ JAt w A1 n1 zs A2 n2 xs A n c L wx)
  case first =>
    go_wp2_with fail
    go_loopg [7, 10] K1 (fun g x7 x10 wr => ∃ (i n : Nat) (A : Option Addr) (c : Nat) (L : List Tok), i + g = K1 ∧ x10 = .int .i64 i ∧ x7 = .slice A n c ∧ n ≤ 237 + i ∧ n ≤ c ∧ c ≤ 9223372036854775807 ∧ JAt w A1 n1 zs A2 n2 xs A n c L wr)
    case atStart => exact ⟨0, n, A, c, ts, by omega, rfl, rfl, by omega, hac, hcm, HJ.out⟩
    case round =>
      obtain ⟨i, n, A, c, L, hig, rfl, rfl, hni, hnc, hcc, hat⟩ := hrel
      have HA := Lib.hid hat
      clear hat HJ hac hcm
      cases gk with
      | zero =>
        have hik : i = K1 := by omega
        have hkm := HK1.out
        by_cases h5 : n1 ≤ 5
        · have hi1 : ¬ (i : Int) < n1 := by omega
          clear hkm hik
          go_wp2_with fail
          go_meet
          exact ⟨A, n, c, L, rfl, by omega, hnc, hcc, HA.out⟩
        · have hi1 : (i : Int) < n1 := by omega
          have hi5 : ¬ (i : Int) < 5 := by omega
          clear hkm hik
          go_wp2_with fail
          go_meet
          exact ⟨A, n, c, L, rfl, by omega, hnc, hcc, HA.out⟩
      | succ g =>
        have hi1 : i < n1 := by omega
        have hi1i : (i : Int) < n1 := by omega
        have hi5 : (i : Int) < 5 := by omega
        obtain ⟨ad, hkl, hAd, e0⟩ := HA.out.z.int hi1
        have hI := HZI.out _ (List.getElem_mem hkl)
        generalize zs[i] = z at *
        subst hAd
        have hokt : okTok ⟨1, z, 0, ⟨#[]⟩⟩ := .inl ⟨rfl, hI, rfl⟩
        have HOK := Lib.hid hokt
        have HA2 := Lib.hid (HA.out.alloc (.cells #[.int .i64 1, .int .i64 z, .int .i64 0, .string ⟨#[]⟩] 27))
        have HXX := Lib.hid (show Sees (wr.alloc (.cells #[.int .i64 1, .int .i64 z, .int .i64 0, .string ⟨#[]⟩] 27)) (wr.alloc (.cells #[.int .i64 1, .int .i64 z, .int .i64 0, .string ⟨#[]⟩] 27)).heap.size 4 (some ⟨wr.heap.size, 0, none⟩) 1 [.int .i64 1, .int .i64 z, .int .i64 0, .string ⟨#[]⟩] from (Blk.mk (heap_alloc_new wr _) : Blk _ wr.heap.size 27 [.int .i64 1, .int .i64 z, .int .i64 0, .string ⟨#[]⟩]).sees rfl (List.prefix_refl _))
        have hbl := HA2.out.bel.size
        clear hokt HA
        go_upto_region 7 with fail
        go_wp2_with (at_builtin; refine wpList_append_at rfl (.tmp 37) (.tmp 43) 22 rfl w.heap.size 27 i0 (.agg #[.int .i64 0, .int .i64 0, .int .i64 0, .string ⟨#[]⟩]) 4 40 Tryd.underlying22 hi0 hz0 hz1 hz2 rfl (by decide) (.slice A n c) n (tcells L) rfl HA2.out.row _ _ 1 1 [.int .i64 1, .int .i64 z, .int .i64 0, .string ⟨#[]⟩] rfl HXX.out (by simp [Value.oneCell']) (by unfold maxLen; omega) (by omega) hbl ?_)
        intro v9 w9 hown9 hgr9 hwh9
        obtain ⟨A9, c9, rfl, hq1, hq2⟩ := own_slice hown9
        have HN := Lib.hid (HA2.out.next HOK.out hown9 hgr9)
        clear hown9 hgr9 hwh9 HA2 HXX hbl
        go_wp2_with fail
        go_roundg g
        case measure => omega
        case rel => exact ⟨i + 1, n + 1, A9, c9, L ++ [⟨1, z, 0, ⟨#[]⟩⟩], by omega, by go_num, rfl, by omega, hq1, hq2, HN.out⟩
  case rest =>
    obtain ⟨A, n, c, L, rfl, hn242, hnc, hcc, hat⟩ := hcut
    have HA := Lib.hid hat
    clear hat HJ hac hcm
    go_upto_block 2 with fail
    go_cut [7, 11] from 45 to 69 (fun x7 x11 wx => ∃ (A : Option Addr) (n c : Nat) (L : List Tok), x7 = .slice A n c ∧ n ≤ 247 ∧ n ≤ c ∧ c ≤ 9223372036854775807 ∧ JAt w A1 n1 zs A2 n2 xs A n c L wx)
    case first =>
      go_wp2_with fail
      go_loopg [7, 11] K2 (fun g x7 x11 wr => ∃ (i n : Nat) (A : Option Addr) (c : Nat) (L : List Tok), i + g = K2 ∧ x11 = .int .i64 i ∧ x7 = .slice A n c ∧ n ≤ 242 + i ∧ n ≤ c ∧ c ≤ 9223372036854775807 ∧ JAt w A1 n1 zs A2 n2 xs A n c L wr)
      case atStart => exact ⟨0, n, A, c, L, by omega, rfl, rfl, by omega, hnc, hcc, HA.out⟩
      case round =>
        obtain ⟨i, n, A, c, L, hig, rfl, rfl, hni, hnc, hcc, hat⟩ := hrel
        have HA2 := Lib.hid hat
        clear hat HA
        cases gk with
        | zero =>
          have hik : i = K2 := by omega
          have hkm := HK2.out
          by_cases h5 : n2 ≤ 5
          · have hi1 : ¬ (i : Int) < n2 := by omega
            clear hkm hik
            go_wp2_with fail
            go_meet
            exact ⟨A, n, c, L, rfl, by omega, hnc, hcc, HA2.out⟩
          · have hi1 : (i : Int) < n2 := by omega
            have hi5 : ¬ (i : Int) < 5 := by omega
            clear hkm hik
            go_wp2_with fail
            go_meet
            exact ⟨A, n, c, L, rfl, by omega, hnc, hcc, HA2.out⟩
        | succ g =>
          have hi1 : i < n2 := by omega
          have hi1i : (i : Int) < n2 := by omega
          have hge0 : (0 : Int) ≤ i := by omega
          have hi5 : (i : Int) < 5 := by omega
          obtain ⟨ad, hkl, hAd, e0⟩ := HA2.out.x.str hi1
          have hI := HXS.out _ (List.getElem_mem hkl)
          have HCL := Lib.hid (show ∀ V, JAt w A1 n1 zs A2 n2 xs A n c L V → ∃ ad2, A2 = some ad2 ∧ V.cell? (ad2.add i) = some (.string xs[i]) from fun V h => by
            obtain ⟨ad2, _, e, hc⟩ := h.x.str hi1
            exact ⟨ad2, e, hc⟩)
          generalize xs[i] = T2 at *
          subst hAd
          have HCE := Lib.hid (show ∀ V, JAt w A1 n1 zs (some ad) n2 xs A n c L V → V.cell? (ad.add i) = some (.string T2) from fun V h => by
            obtain ⟨ad2, e, hc⟩ := HCL.out V h
            injection e with e; subst e
            exact hc)
          obtain ⟨q, hq⟩ : ∃ q : Nat, min (T2.size : Int) 24 = (q : Int) := ⟨min T2.size 24, by omega⟩
          have hq2 : (if (24 : Int) < T2.size then 24 else (T2.size : Int)) = (q : Int) := by rw [← hq]; split <;> omega
          have q0 : (0 : Int) ≤ q := by omega
          have q1 : (q : Int) ≤ T2.size := by omega
          have q24 : q ≤ 24 := by omega
          have HOK := Lib.hid (show okTok ⟨3, 0, 0, T2.extract 0 q⟩ from .inr (.inr (.inl ⟨rfl, rfl, by show (T2.extract 0 q).size ≤ 24; rw [ByteArray.size_extract]; omega⟩)))
          clear e0 HCL
          go_upto_region 11 with fail
          refine wp_region_facts_tail 14 (R := fun a b => Below a.heap.size a b) (G := (fun W => JAt w A1 n1 zs (some ad) n2 xs A n c L W)) (V := fun i' u' W => match i' with | 0 => u' = .slice A n c | 1 => u' = .slice (some ad) n2 c2 | 2 => u' = .int .i64 i | 3 => u' = .pointer (some (ad.add i)) | 4 => u' = .string T2 | 5 => u' = .slice (some ad) n2 c2 | 6 => u' = .int .i64 i | 7 => u' = .pointer (some (ad.add i)) | 8 => u' = .string T2 | 9 => u' = .int .i64 T2.size | 10 => u' = .int .i64 q | 11 => u' = .string (T2.extract 0 q) | 12 => u' = .agg #[.int .i64 3, .int .i64 0, .int .i64 0, .string (T2.extract 0 q)] | 13 => ∃ g, u' = .slice (some ⟨g, 0, none⟩) 1 1 ∧ Blk W g 27 [.int .i64 3, .int .i64 0, .int .i64 0, .string (T2.extract 0 q)] | _ => True) (by kernel_rfl) (fun w => Below.refl _ _) (fun a b c h1 h2 => h1.trans (h2.mono h1.size)) (by kernel_rfl) (by kernel_rfl) (by kernel_rfl) (by kernel_rfl) (by decide) (by kernel_rfl) ?hG ⟨?o0, ?o1, ?o2, ?o3, ?o4, ?o5, ?o6, ?o7, ?o8, ?o9, ?o10, ?o11, ?o12, ?o13, trivial⟩ ?hend
          case o0 =>
            intro a w hfr hG hd
            refine ⟨fun hw => ?_, fun hw => absurd hw (by simp [Region.wanted])⟩
            have s7 : a.tmps.getD 7 undef = .slice A n c := hfr.at 7 (by kernel_rfl)
            refine op_yields (.slice A n c) ?_ ?_ ?_
            · simp only [execOp, resolve, List.map_toArray, List.map_cons, List.map_nil, Act.eval, s7]; simp [go_sem, -Array.getD_eq_getD_getElem?, s7]
            · exact Below.refl _ _
            · exact (fun _ _ => rfl)
          case o1 =>
            intro a w hfr hG hd
            refine ⟨fun hw => ?_, fun hw => absurd hw (by simp [Region.wanted])⟩
            have s2 : a.tmps.getD 2 undef = .slice (some ad) n2 c2 := hfr.at 2 (by kernel_rfl)
            refine op_yields (.slice (some ad) n2 c2) ?_ ?_ ?_
            · simp only [execOp, resolve, List.map_toArray, List.map_cons, List.map_nil, Act.eval, s2]; simp [go_sem, -Array.getD_eq_getD_getElem?, s2]
            · exact Below.refl _ _
            · exact (fun _ _ => rfl)
          case o2 =>
            intro a w hfr hG hd
            refine ⟨fun hw => ?_, fun hw => absurd hw (by simp [Region.wanted])⟩
            have s11 : a.tmps.getD 11 undef = .int .i64 i := hfr.at 11 (by kernel_rfl)
            refine op_yields (.int .i64 i) ?_ ?_ ?_
            · simp only [execOp, resolve, List.map_toArray, List.map_cons, List.map_nil, Act.eval, s11]; simp [go_sem, -Array.getD_eq_getD_getElem?, s11]
            · exact Below.refl _ _
            · exact (fun _ _ => rfl)
          case o3 =>
            intro a w hfr hG hd
            obtain ⟨d0, d1, _⟩ := hd
            refine ⟨fun hw => ?_, fun hw => absurd hw (by simp [Region.wanted])⟩
            have s56 : a.tmps.getD 56 undef = .slice (some ad) n2 c2 := (d0 rfl).now
            have s57 : a.tmps.getD 57 undef = .int .i64 i := (d1 rfl).now
            refine op_yields (.pointer (some (ad.add i))) ?_ ?_ ?_
            · simp only [execOp, resolve, List.map_toArray, List.map_cons, List.map_nil, Act.eval, s56, s57]; simp [go_sem, -Array.getD_eq_getD_getElem?, s56, s57, hge0, hi1i]
            · exact Below.refl _ _
            · exact (fun _ _ => rfl)
          case o4 =>
            intro a w hfr hG hd
            obtain ⟨d0, _⟩ := hd
            refine ⟨fun hw => ?_, fun hw => absurd hw (by simp [Region.wanted])⟩
            have s58 : a.tmps.getD 58 undef = .pointer (some (ad.add i)) := (d0 rfl).now
            have z0 := HCE.out w hG.now
            refine op_yields (.string T2) ?_ ?_ ?_
            · simp only [execOp, resolve, List.map_toArray, List.map_cons, List.map_nil, Act.eval, s58]; simp [go_sem, -Array.getD_eq_getD_getElem?, s58, z0]
            · exact Below.refl _ _
            · exact (fun _ _ => rfl)
          case o5 =>
            intro a w hfr hG hd
            refine ⟨fun hw => ?_, fun hw => absurd hw (by simp [Region.wanted])⟩
            have s2 : a.tmps.getD 2 undef = .slice (some ad) n2 c2 := hfr.at 2 (by kernel_rfl)
            refine op_yields (.slice (some ad) n2 c2) ?_ ?_ ?_
            · simp only [execOp, resolve, List.map_toArray, List.map_cons, List.map_nil, Act.eval, s2]; simp [go_sem, -Array.getD_eq_getD_getElem?, s2]
            · exact Below.refl _ _
            · exact (fun _ _ => rfl)
          case o6 =>
            intro a w hfr hG hd
            refine ⟨fun hw => ?_, fun hw => absurd hw (by simp [Region.wanted])⟩
            have s11 : a.tmps.getD 11 undef = .int .i64 i := hfr.at 11 (by kernel_rfl)
            refine op_yields (.int .i64 i) ?_ ?_ ?_
            · simp only [execOp, resolve, List.map_toArray, List.map_cons, List.map_nil, Act.eval, s11]; simp [go_sem, -Array.getD_eq_getD_getElem?, s11]
            · exact Below.refl _ _
            · exact (fun _ _ => rfl)
          case o7 =>
            intro a w hfr hG hd
            obtain ⟨d0, d1, _⟩ := hd
            refine ⟨fun hw => ?_, fun hw => absurd hw (by simp [Region.wanted])⟩
            have s60 : a.tmps.getD 60 undef = .slice (some ad) n2 c2 := (d0 rfl).now
            have s61 : a.tmps.getD 61 undef = .int .i64 i := (d1 rfl).now
            refine op_yields (.pointer (some (ad.add i))) ?_ ?_ ?_
            · simp only [execOp, resolve, List.map_toArray, List.map_cons, List.map_nil, Act.eval, s60, s61]; simp [go_sem, -Array.getD_eq_getD_getElem?, s60, s61, hge0, hi1i]
            · exact Below.refl _ _
            · exact (fun _ _ => rfl)
          case o8 =>
            intro a w hfr hG hd
            obtain ⟨d0, _⟩ := hd
            refine ⟨fun hw => ?_, fun hw => absurd hw (by simp [Region.wanted])⟩
            have s62 : a.tmps.getD 62 undef = .pointer (some (ad.add i)) := (d0 rfl).now
            have z0 := HCE.out w hG.now
            refine op_yields (.string T2) ?_ ?_ ?_
            · simp only [execOp, resolve, List.map_toArray, List.map_cons, List.map_nil, Act.eval, s62]; simp [go_sem, -Array.getD_eq_getD_getElem?, s62, z0]
            · exact Below.refl _ _
            · exact (fun _ _ => rfl)
          case o9 =>
            intro a w hfr hG hd
            obtain ⟨d0, _⟩ := hd
            refine ⟨fun hw => ?_, fun hw => absurd hw (by simp [Region.wanted])⟩
            have s63 : a.tmps.getD 63 undef = .string T2 := (d0 rfl).now
            refine op_yields (.int .i64 T2.size) ?_ ?_ ?_
            · simp only [execOp, resolve, List.map_toArray, List.map_cons, List.map_nil, Act.eval, s63]; simp [go_sem, -Array.getD_eq_getD_getElem?, s63]
            · exact Below.refl _ _
            · exact (fun _ _ => rfl)
          case o10 =>
            intro a w hfr hG hd
            obtain ⟨d0, _⟩ := hd
            refine ⟨fun hw => ?_, fun hw => absurd hw (by simp [Region.wanted])⟩
            have s64 : a.tmps.getD 64 undef = .int .i64 T2.size := (d0 rfl).now
            refine op_yields (.int .i64 q) ?_ ?_ ?_
            · simp only [execOp, resolve, List.map_toArray, List.map_cons, List.map_nil, Act.eval, s64]; simp [go_sem, -Array.getD_eq_getD_getElem?, s64, hq, hq2]
            · exact Below.refl _ _
            · exact (fun _ _ => rfl)
          case o11 =>
            intro a w hfr hG hd
            obtain ⟨d0, d1, _⟩ := hd
            refine ⟨fun hw => ?_, fun hw => absurd hw (by simp [Region.wanted])⟩
            have s59 : a.tmps.getD 59 undef = .string T2 := (d0 rfl).now
            have s65 : a.tmps.getD 65 undef = .int .i64 q := (d1 rfl).now
            refine op_yields (.string (T2.extract 0 q)) ?_ ?_ ?_
            · simp only [execOp, resolve, List.map_toArray, List.map_cons, List.map_nil, Act.eval, s59, s65]; simp [go_sem, -Array.getD_eq_getD_getElem?, s59, s65, q0, q1]
            · exact Below.refl _ _
            · exact (fun _ _ => rfl)
          case o12 =>
            intro a w hfr hG hd
            obtain ⟨d0, _⟩ := hd
            refine ⟨fun hw => ?_, fun hw => absurd hw (by simp [Region.wanted])⟩
            have s66 : a.tmps.getD 66 undef = .string (T2.extract 0 q) := (d0 rfl).now
            refine op_yields (.agg #[.int .i64 3, .int .i64 0, .int .i64 0, .string (T2.extract 0 q)]) ?_ ?_ ?_
            · simp only [execOp, resolve, List.map_toArray, List.map_cons, List.map_nil, Act.eval, s66]; simp [go_sem, -Array.getD_eq_getD_getElem?, s66]
            · exact Below.refl _ _
            · exact (fun _ _ => rfl)
          case o13 =>
            intro a w hfr hG hd
            obtain ⟨d0, _⟩ := hd
            refine ⟨fun hw => ?_, fun hw => absurd hw (by simp [Region.wanted])⟩
            have s67 : a.tmps.getD 67 undef = .agg #[.int .i64 3, .int .i64 0, .int .i64 0, .string (T2.extract 0 q)] := (d0 rfl).now
            refine op_makes (.slice (some ⟨w.heap.size, 0, none⟩) 1 1) (w' := w.alloc (.cells #[.int .i64 3, .int .i64 0, .int .i64 0, .string (T2.extract 0 q)] 27)) ?_ ?_ ?_
            · simp only [execOp, resolve, List.map_toArray, List.map_cons, List.map_nil, Act.eval, s67]; simp [go_sem, -Array.getD_eq_getD_getElem?, s67]
            · exact (Below.refl _ _).alloc (Nat.le_refl _) _
            · exact fun W' hW' => ⟨_, rfl, (Blk.mk (heap_alloc_new _ _) : Blk _ _ _ _).below hW' (by simp)⟩
          case hG => exact fun w' hb => HA2.out.below ((Below.refl _ _).drew.trans (hb.mono (by simp)))
          case hend =>
            intro vs w' hG hv
            have key : vs 0 = .slice A n c ∧ ∃ g, vs 13 = .slice (some ⟨g, 0, none⟩) 1 1 ∧ Blk w' g 27 [.int .i64 3, .int .i64 0, .int .i64 0, .string (T2.extract 0 q)] := by
              obtain ⟨h0, _, _, _, _, _, _, _, _, _, _, _, _, h13, _⟩ := hv
              exact ⟨h0.now, h13.now⟩
            have HAN := Lib.hid hG.now
            clear hv hG HA2 HCE hq hq2
            obtain ⟨ek0, g', e13, hblk⟩ := key
            have HXX := Lib.hid (hblk.sees (size := 4) (n := 1) rfl (List.prefix_refl _))
            generalize T2.extract 0 q = T3 at *
            have hbl := HAN.out.bel.size
            clear hblk
            change wpList _ _ _ [_, _] (putAll vs 0 [_, _, _, _, _, _, _, _, _, _, _, _, _, _] _) _
            simp only [putAll, Act.put, ek0, e13]
            clear ek0 e13
            simp only [List.setIfInBounds_toArray, List.set_cons_succ, List.set_cons_zero, Nat.reduceAdd]
            go_wp2_with (at_builtin; refine wpList_append_at rfl (.tmp 55) (.tmp 68) 22 rfl w.heap.size 27 i0 (.agg #[.int .i64 0, .int .i64 0, .int .i64 0, .string ⟨#[]⟩]) 4 40 Tryd.underlying22 hi0 hz0 hz1 hz2 rfl (by decide) (.slice A n c) n (tcells L) rfl HAN.out.row _ _ 1 1 [.int .i64 3, .int .i64 0, .int .i64 0, .string T3] rfl HXX.out (by simp [Value.oneCell']) (by unfold maxLen; omega) (by omega) hbl ?_)
            intro v9 w9 hown9 hgr9 hwh9
            obtain ⟨A9, c9, rfl, hq1, hq2⟩ := own_slice hown9
            have HN := Lib.hid (HAN.out.next HOK.out hown9 hgr9)
            clear hown9 hgr9 hwh9 HAN HXX hbl
            go_wp2_with fail
            go_roundg g
            case measure => omega
            case rel => exact ⟨i + 1, n + 1, A9, c9, L ++ [⟨3, 0, 0, T3⟩], by omega, by go_num, rfl, by omega, hq1, hq2, HN.out⟩
    case rest =>
      obtain ⟨A, n, c, L, rfl, hn247, hnc, hcc, hat⟩ := hcut
      have HAX := Lib.hid hat
      clear hat HA
      have HA := HAX
      clear HAX
      have h400 : ¬ (400 : Int) < n := by omega
      have HJN := Lib.hid (join_any A n c L wc.heap.size wc (Sees.of_own HA.out.row) (Nat.le_refl _) (by omega) (fun t ht => okTok_TokOk (HA.out.ok t ht)) (tab_of HTAB.out HA.out.bel))
      have h247 : ¬ (400 : Int) < n := h400
      go_wp2_with fail
      (with_reducible refine HJN.out.mono ?_); rintro e w5 ⟨rfl, hb5⟩
      have HLJ := Lib.hid (HA.out.below hb5)
      have HOKL := Lib.hid HA.out.ok
      have HB5 := Lib.hid (HA.out.bel.trans (hb5.mono HA.out.bel.size))
      obtain ⟨us, hcut, hal⟩ := joinT_cut L HA.out.ok
      have hul : us.length = n := hal.len.trans HA.out.len
      have hjl : (joinT L).length ≤ 2003 * n := by rw [← HA.out.len]; exact joinT_length_le L (fun t ht => okTok_TokOk (HA.out.ok t ht))
      have HCUT := Lib.hid hcut
      have HAL := Lib.hid hal
      have HJE := Lib.hid hal.join
      obtain ⟨S, hS⟩ : ∃ S : ByteArray, (⟨(joinT L).toArray⟩ : ByteArray) = S := ⟨_, rfl⟩
      have hSl : S.data.toList = joinT L := by rw [← hS]
      have hSz : S.size = (joinT L).length := by rw [← hS]; show (joinT L).toArray.size = _; simp
      have HTK := Lib.hid (tokens_any S w5 (by omega))
      rw [hSl, hcut.tokF (by omega), ← hSz] at HTK
      rw [hS]
      have hjl2 : S.size ≤ 2000000 := by omega
      have HSB := Lib.hid hjl2
      clear hjl2
      have HS := Lib.hid hS
      have HSL := Lib.hid hSl
      have HUL := Lib.hid hul
      clear hS hSl hSz hcut hal hul hb5 hjl HJN HA
      go_wp2_with fail
      (with_reducible refine HTK.out.mono ?_); rintro e w6 h6
      unfold TokAns at h6
      rw [if_neg (Nat.lt_irrefl _)] at h6
      obtain ⟨A6, c6, rfl, hown, hb6, hac, hcm⟩ := h6
      simp only at hown hac
      rw [HUL.out] at hown hac
      rw [HUL.out]
      have HB6 := Lib.hid (HB5.out.trans (hb6.mono HB5.out.size))
      have HLP := Lib.hid (show LpAt w6.heap.size w5.heap.size A6 us A L n w w6 from ⟨Sees.of_own hown, (Sees.of_own HLJ.out.row).below hb6, HB6.out, Nat.le_refl _, hb6.size, HB6.out.size⟩)
      clear hown hb6 HTK HLJ HB5
      go_wp2_with fail
      go_loopg [16, 93] n (fun g x16 x93 wr => ∃ (i B B' : Nat), i + g = n ∧ x93 = .int .i64 i ∧ LpAt B B' A6 us A L n w wr)
      case atStart => exact ⟨0, _, _, by omega, rfl, HLP.out⟩
      case round =>
        obtain ⟨i, B, B', hig, rfl, hlp⟩ := hrel
        have HLQ := Lib.hid hlp
        clear hlp HLP
        cases gk with
        | zero =>
          have hin : ¬ (i : Int) < n := by omega
          have HJ0 := Lib.hid (join_any none 0 0 [] 0 wr Sees.nil (by omega) (by omega) (fun t ht => absurd ht List.not_mem_nil) (tab_of HTAB.out HLQ.out.2.2.1))
          go_wp2_with fail
          (with_reducible refine HJ0.out.mono ?_); rintro e w7 ⟨rfl, hb7⟩
          have HL7 := Lib.hid (HLQ.out.below hb7)
          have HJM := Lib.hid (join_any A6 n c6 us B w7 HL7.out.1 HL7.out.2.2.2.1 (by omega) (fun t ht => okTok_TokOk (HCUT.out.ok t ht)) (tab_of HTAB.out HL7.out.2.2.1))
          rw [HJE.out, HS.out] at HJM
          clear hb7 HLQ HJ0
          go_wp2_with fail
          (with_reducible refine HJM.out.mono ?_); rintro e w8 ⟨rfl, hb8⟩
          have HB8 := Lib.hid (HL7.out.below hb8).2.2.1
          have HLR := Lib.hid (lex_runs w8 (tab_of HTAB.out HB8.out))
          have hss : (S.toList == S.toList) = true := by simp
          clear hb8 HJM HL7
          go_wp2_with fail
          (with_reducible refine HLR.out.mono ?_); rintro e w9 ⟨rfl, hb9⟩
          have HB9 := Lib.hid (HB8.out.trans (hb9.mono HB8.out.size))
          clear hb9
          go_wp2_with fail
          go_ret
          exact ⟨rfl, HB9.out⟩
        | succ g =>
          have hin : i < n := by omega
          have hini : (i : Int) < n := by omega
          have hge0 : (0 : Int) ≤ i := by omega
          obtain ⟨ad, hkl, hAd, _⟩ := HLQ.out.1.tok hin
          obtain ⟨ad2, hkl2, hAd2, _⟩ := HLQ.out.2.1.tok hin
          subst hAd hAd2
          obtain ⟨hk1, hk2, hk3⟩ := HAL.out.get i hkl hkl2
          have hc1 : ∀ V : World, Sees V B 4 (some ad) n (tcells us) → TokAt V ad i us[i].kd us[i].n us[i].at_ us[i].tx := fun V h => h.tokAt hin hkl
          have hc2 : ∀ V : World, Sees V B' 4 (some ad2) n (tcells L) → TokAt V ad2 i L[i].kd L[i].n L[i].at_ L[i].tx := fun V h => h.tokAt hin hkl2
          rw [← hk1, ← hk2, ← hk3] at hc2
          have hst := HCUT.out.stands
          obtain ⟨pa, ha, hal, hat, hap⟩ := hst.1 us[i] (List.getElem_mem hkl)
          rw [ha] at hc1
          have hjS : (joinT L).length = S.size := by rw [← HSL.out, ba_len]
          have haS : pa < S.size := by omega
          have hns : ¬ S.size ≤ pa := by omega
          have hns2 : ¬ (S.size : Int) ≤ pa := by omega
          have hna : ¬ (pa : Int) < 0 := by omega
          have ha0 : (0 : Int) ≤ pa := by omega
          have HEX := Lib.hid (show us[i].kd = 4 → pa + us[i].tx.size ≤ S.size ∧ S.extract pa (pa + us[i].tx.size) = us[i].tx from fun h4 => by
            have ht : tokL us[i] = us[i].tx.data.toList := by unfold tokL; rw [if_neg (by omega), if_pos (.inr h4)]
            rw [ht, ba_len] at hal hat
            refine ⟨by omega, ?_⟩
            apply ByteArray.ext
            rw [ByteArray.data_extract]
            apply Array.toList_inj.1
            rw [← hat, ← HSL.out]
            simp [List.extract_eq_take_drop])
          have HPW := Lib.hid (show ∀ j, j + 1 = i → ∃ hj : j < us.length, us[j].at_ < (pa : Int) from fun j hj => ⟨by omega, by
            have := List.pairwise_iff_getElem.1 hst.2 j i (by omega) hkl (by omega)
            rw [ha] at this; exact this⟩)
          generalize us[i].kd = kd at *
          generalize us[i].n = nn at *
          generalize us[i].tx = tx at *
          have HC1 := Lib.hid hc1
          have HC2 := Lib.hid hc2
          clear hk1 hk2 hk3 hst hal hat hap ha hc1 hc2 hjS
          generalize L[i].at_ = bt at *
          go_upto_region 21 with fail
          go_cut [168] from 95 to 167 (fun x168 wx => x168 = .bool false ∧ LpAt B B' (some ad) us (some ad2) L n w wx)
          case first =>
            by_cases hi0' : i = 0
            · have hip : ¬ (0 : Int) < i := by omega
              have HIZ := Lib.hid hi0'
              clear hi0'
              dsimp only [List.append]
              refine wp_region_facts (R := fun a b => Below a.heap.size a b) (G := (fun W => LpAt B B' (some ad) us (some ad2) L n w W)) (V := fun i' u' W => match i' with | 0 => u' = .slice (some ad) n c6 | 1 => u' = .int .i64 i | 2 => u' = .pointer (some (ad.add (i * 4))) | 3 => u' = .pointer (some (ad.add (i * 4))) | 4 => u' = .int .i64 kd | 5 => u' = .slice (some ad2) n c | 6 => u' = .int .i64 i | 7 => u' = .pointer (some (ad2.add (i * 4))) | 8 => u' = .pointer (some (ad2.add (i * 4))) | 9 => u' = .int .i64 kd | 10 => u' = .bool false | 11 => u' = .bool false | 12 => u' = .slice (some ad) n c6 | 13 => u' = .int .i64 i | 14 => u' = .pointer (some (ad.add (i * 4))) | 15 => u' = .pointer (some ⟨(ad.add (i * 4)).block, (ad.add (i * 4)).off + 1, none⟩) | 16 => u' = .int .i64 nn | 17 => u' = .slice (some ad2) n c | 18 => u' = .int .i64 i | 19 => u' = .pointer (some (ad2.add (i * 4))) | 20 => u' = .pointer (some ⟨(ad2.add (i * 4)).block, (ad2.add (i * 4)).off + 1, none⟩) | 21 => u' = .int .i64 nn | 22 => u' = .bool false | 23 => u' = .bool false | 24 => u' = .bool false | 25 => u' = .slice (some ad) n c6 | 26 => u' = .int .i64 i | 27 => u' = .pointer (some (ad.add (i * 4))) | 28 => u' = .pointer (some ⟨(ad.add (i * 4)).block, (ad.add (i * 4)).off + 3, none⟩) | 29 => u' = .string tx | 30 => u' = .slice (some ad2) n c | 31 => u' = .int .i64 i | 32 => u' = .pointer (some (ad2.add (i * 4))) | 33 => u' = .pointer (some ⟨(ad2.add (i * 4)).block, (ad2.add (i * 4)).off + 3, none⟩) | 34 => u' = .string tx | 35 => u' = .bool false | 36 => u' = .bool false | 37 => u' = .bool false | 38 => u' = .int .i64 i | 39 => u' = .bool false | 40 => u' = .bool false | 41 => True | 42 => True | 43 => True | 44 => True | 45 => True | 46 => True | 47 => True | 48 => True | 49 => True | 50 => True | 51 => True | 52 => True | 53 => u' = .bool false | 54 => u' = .bool false | 55 => u' = .bool false | 56 => u' = .slice (some ad) n c6 | 57 => u' = .int .i64 i | 58 => u' = .pointer (some (ad.add (i * 4))) | 59 => u' = .pointer (some ⟨(ad.add (i * 4)).block, (ad.add (i * 4)).off + 2, none⟩) | 60 => u' = .int .i64 pa | 61 => u' = .bool false | 62 => u' = .bool false | 63 => u' = .bool false | 64 => u' = .slice (some ad) n c6 | 65 => u' = .int .i64 i | 66 => u' = .pointer (some (ad.add (i * 4))) | 67 => u' = .pointer (some ⟨(ad.add (i * 4)).block, (ad.add (i * 4)).off + 2, none⟩) | 68 => u' = .int .i64 pa | 69 => u' = .string S | 70 => u' = .int .i64 S.size | 71 => u' = .bool false | 72 => u' = .bool false | _ => True) (by kernel_rfl) (fun w => Below.refl _ _) (fun a b c h1 h2 => h1.trans (h2.mono h1.size)) (by kernel_rfl) (by kernel_rfl) ?hG ⟨?o0, ?o1, ?o2, ?o3, ?o4, ?o5, ?o6, ?o7, ?o8, ?o9, ?o10, ?o11, ?o12, ?o13, ?o14, ?o15, ?o16, ?o17, ?o18, ?o19, ?o20, ?o21, ?o22, ?o23, ?o24, ?o25, ?o26, ?o27, ?o28, ?o29, ?o30, ?o31, ?o32, ?o33, ?o34, ?o35, ?o36, ?o37, ?o38, ?o39, ?o40, ?o41, ?o42, ?o43, ?o44, ?o45, ?o46, ?o47, ?o48, ?o49, ?o50, ?o51, ?o52, ?o53, ?o54, ?o55, ?o56, ?o57, ?o58, ?o59, ?o60, ?o61, ?o62, ?o63, ?o64, ?o65, ?o66, ?o67, ?o68, ?o69, ?o70, ?o71, ?o72, trivial⟩ ?hend
              case o0 =>
                intro a w hfr hG hd
                refine ⟨fun hw => ?_, fun hw => absurd hw (by simp [Region.wanted])⟩
                have s13 : a.tmps.getD 13 undef = .slice (some ad) n c6 := hfr.at 13 (by kernel_rfl)
                refine op_yields (.slice (some ad) n c6) ?_ ?_ ?_
                · simp only [execOp, resolve, List.map_toArray, List.map_cons, List.map_nil, Act.eval, s13]; simp [go_sem, -Array.getD_eq_getD_getElem?, s13]
                · exact Below.refl _ _
                · exact (fun _ _ => rfl)
              case o1 =>
                intro a w hfr hG hd
                refine ⟨fun hw => ?_, fun hw => absurd hw (by simp [Region.wanted])⟩
                have s16 : a.tmps.getD 16 undef = .int .i64 i := hfr.at 16 (by kernel_rfl)
                refine op_yields (.int .i64 i) ?_ ?_ ?_
                · simp only [execOp, resolve, List.map_toArray, List.map_cons, List.map_nil, Act.eval, s16]; simp [go_sem, -Array.getD_eq_getD_getElem?, s16]
                · exact Below.refl _ _
                · exact (fun _ _ => rfl)
              case o2 =>
                intro a w hfr hG hd
                obtain ⟨d0, d1, _⟩ := hd
                refine ⟨fun hw => ?_, fun hw => absurd hw (by simp [Region.wanted])⟩
                have s96 : a.tmps.getD 96 undef = .slice (some ad) n c6 := (d0 rfl).now
                have s97 : a.tmps.getD 97 undef = .int .i64 i := (d1 rfl).now
                refine op_yields (.pointer (some (ad.add (i * 4)))) ?_ ?_ ?_
                · simp only [execOp, resolve, List.map_toArray, List.map_cons, List.map_nil, Act.eval, s96, s97]; simp [go_sem, -Array.getD_eq_getD_getElem?, s96, s97, hge0, hini]
                · exact Below.refl _ _
                · exact (fun _ _ => rfl)
              case o3 =>
                intro a w hfr hG hd
                obtain ⟨d0, _⟩ := hd
                refine ⟨fun hw => ?_, fun hw => absurd hw (by simp [Region.wanted])⟩
                have s98 : a.tmps.getD 98 undef = .pointer (some (ad.add (i * 4))) := (d0 rfl).now
                refine op_yields (.pointer (some (ad.add (i * 4)))) ?_ ?_ ?_
                · simp only [execOp, resolve, List.map_toArray, List.map_cons, List.map_nil, Act.eval, s98]; simp [go_sem, -Array.getD_eq_getD_getElem?, s98]
                · exact Below.refl _ _
                · exact (fun _ _ => rfl)
              case o4 =>
                intro a w hfr hG hd
                obtain ⟨d0, _⟩ := hd
                refine ⟨fun hw => ?_, fun hw => absurd hw (by simp [Region.wanted])⟩
                have s99 : a.tmps.getD 99 undef = .pointer (some (ad.add (i * 4))) := (d0 rfl).now
                obtain ⟨z0, z1, z2, z3⟩ := HC1.out w hG.now.1
                refine op_yields (.int .i64 kd) ?_ ?_ ?_
                · simp only [execOp, resolve, List.map_toArray, List.map_cons, List.map_nil, Act.eval, s99]; simp [go_sem, -Array.getD_eq_getD_getElem?, s99, z0]
                · exact Below.refl _ _
                · exact (fun _ _ => rfl)
              case o5 =>
                intro a w hfr hG hd
                refine ⟨fun hw => ?_, fun hw => absurd hw (by simp [Region.wanted])⟩
                have s7 : a.tmps.getD 7 undef = .slice (some ad2) n c := hfr.at 7 (by kernel_rfl)
                refine op_yields (.slice (some ad2) n c) ?_ ?_ ?_
                · simp only [execOp, resolve, List.map_toArray, List.map_cons, List.map_nil, Act.eval, s7]; simp [go_sem, -Array.getD_eq_getD_getElem?, s7]
                · exact Below.refl _ _
                · exact (fun _ _ => rfl)
              case o6 =>
                intro a w hfr hG hd
                refine ⟨fun hw => ?_, fun hw => absurd hw (by simp [Region.wanted])⟩
                have s16 : a.tmps.getD 16 undef = .int .i64 i := hfr.at 16 (by kernel_rfl)
                refine op_yields (.int .i64 i) ?_ ?_ ?_
                · simp only [execOp, resolve, List.map_toArray, List.map_cons, List.map_nil, Act.eval, s16]; simp [go_sem, -Array.getD_eq_getD_getElem?, s16]
                · exact Below.refl _ _
                · exact (fun _ _ => rfl)
              case o7 =>
                intro a w hfr hG hd
                obtain ⟨d0, d1, _⟩ := hd
                refine ⟨fun hw => ?_, fun hw => absurd hw (by simp [Region.wanted])⟩
                have s101 : a.tmps.getD 101 undef = .slice (some ad2) n c := (d0 rfl).now
                have s102 : a.tmps.getD 102 undef = .int .i64 i := (d1 rfl).now
                refine op_yields (.pointer (some (ad2.add (i * 4)))) ?_ ?_ ?_
                · simp only [execOp, resolve, List.map_toArray, List.map_cons, List.map_nil, Act.eval, s101, s102]; simp [go_sem, -Array.getD_eq_getD_getElem?, s101, s102, hge0, hini]
                · exact Below.refl _ _
                · exact (fun _ _ => rfl)
              case o8 =>
                intro a w hfr hG hd
                obtain ⟨d0, _⟩ := hd
                refine ⟨fun hw => ?_, fun hw => absurd hw (by simp [Region.wanted])⟩
                have s103 : a.tmps.getD 103 undef = .pointer (some (ad2.add (i * 4))) := (d0 rfl).now
                refine op_yields (.pointer (some (ad2.add (i * 4)))) ?_ ?_ ?_
                · simp only [execOp, resolve, List.map_toArray, List.map_cons, List.map_nil, Act.eval, s103]; simp [go_sem, -Array.getD_eq_getD_getElem?, s103]
                · exact Below.refl _ _
                · exact (fun _ _ => rfl)
              case o9 =>
                intro a w hfr hG hd
                obtain ⟨d0, _⟩ := hd
                refine ⟨fun hw => ?_, fun hw => absurd hw (by simp [Region.wanted])⟩
                have s104 : a.tmps.getD 104 undef = .pointer (some (ad2.add (i * 4))) := (d0 rfl).now
                obtain ⟨z0, z1, z2, z3⟩ := HC2.out w hG.now.2.1
                refine op_yields (.int .i64 kd) ?_ ?_ ?_
                · simp only [execOp, resolve, List.map_toArray, List.map_cons, List.map_nil, Act.eval, s104]; simp [go_sem, -Array.getD_eq_getD_getElem?, s104, z0]
                · exact Below.refl _ _
                · exact (fun _ _ => rfl)
              case o10 =>
                intro a w hfr hG hd
                obtain ⟨d0, d1, _⟩ := hd
                refine ⟨fun hw => ?_, fun hw => absurd hw (by simp [Region.wanted])⟩
                have s100 : a.tmps.getD 100 undef = .int .i64 kd := (d0 rfl).now
                have s105 : a.tmps.getD 105 undef = .int .i64 kd := (d1 rfl).now
                refine op_yields (.bool false) ?_ ?_ ?_
                · simp only [execOp, resolve, List.map_toArray, List.map_cons, List.map_nil, Act.eval, s100, s105]; simp [go_sem, -Array.getD_eq_getD_getElem?, s100, s105]
                · exact Below.refl _ _
                · exact (fun _ _ => rfl)
              case o11 =>
                intro a w hfr hG hd
                obtain ⟨d0, _⟩ := hd
                refine ⟨fun hw => ?_, fun hw => absurd hw (by simp [Region.wanted])⟩
                have s106 : a.tmps.getD 106 undef = .bool false := (d0 rfl).now
                refine op_yields (.bool false) ?_ ?_ ?_
                · simp only [execOp, resolve, List.map_toArray, List.map_cons, List.map_nil, Act.eval, s106]; simp [go_sem, -Array.getD_eq_getD_getElem?, s106]
                · exact Below.refl _ _
                · exact (fun _ _ => rfl)
              case o12 =>
                intro a w hfr hG hd
                obtain ⟨d0, _⟩ := hd
                have sg : a.tmps.getD 107 undef = .bool false := (d0 rfl).now
                refine ⟨fun hw => ?_, fun hw => by rw [wanted_of rfl (yielded_of rfl sg)] at hw; exact absurd hw (by decide)⟩
                have s13 : a.tmps.getD 13 undef = .slice (some ad) n c6 := hfr.at 13 (by kernel_rfl)
                refine op_yields (.slice (some ad) n c6) ?_ ?_ ?_
                · simp only [execOp, resolve, List.map_toArray, List.map_cons, List.map_nil, Act.eval, s13]; simp [go_sem, -Array.getD_eq_getD_getElem?, s13]
                · exact Below.refl _ _
                · exact (fun _ _ => rfl)
              case o13 =>
                intro a w hfr hG hd
                obtain ⟨d0, _⟩ := hd
                have sg : a.tmps.getD 107 undef = .bool false := (d0 rfl).now
                refine ⟨fun hw => ?_, fun hw => by rw [wanted_of rfl (yielded_of rfl sg)] at hw; exact absurd hw (by decide)⟩
                have s16 : a.tmps.getD 16 undef = .int .i64 i := hfr.at 16 (by kernel_rfl)
                refine op_yields (.int .i64 i) ?_ ?_ ?_
                · simp only [execOp, resolve, List.map_toArray, List.map_cons, List.map_nil, Act.eval, s16]; simp [go_sem, -Array.getD_eq_getD_getElem?, s16]
                · exact Below.refl _ _
                · exact (fun _ _ => rfl)
              case o14 =>
                intro a w hfr hG hd
                obtain ⟨d0, d1, d2, _⟩ := hd
                have sg : a.tmps.getD 107 undef = .bool false := (d2 rfl).now
                refine ⟨fun hw => ?_, fun hw => by rw [wanted_of rfl (yielded_of rfl sg)] at hw; exact absurd hw (by decide)⟩
                have s108 : a.tmps.getD 108 undef = .slice (some ad) n c6 := (d0 rfl).now
                have s109 : a.tmps.getD 109 undef = .int .i64 i := (d1 rfl).now
                refine op_yields (.pointer (some (ad.add (i * 4)))) ?_ ?_ ?_
                · simp only [execOp, resolve, List.map_toArray, List.map_cons, List.map_nil, Act.eval, s108, s109]; simp [go_sem, -Array.getD_eq_getD_getElem?, s108, s109, hge0, hini]
                · exact Below.refl _ _
                · exact (fun _ _ => rfl)
              case o15 =>
                intro a w hfr hG hd
                obtain ⟨d0, d1, _⟩ := hd
                have sg : a.tmps.getD 107 undef = .bool false := (d1 rfl).now
                refine ⟨fun hw => ?_, fun hw => by rw [wanted_of rfl (yielded_of rfl sg)] at hw; exact absurd hw (by decide)⟩
                have s110 : a.tmps.getD 110 undef = .pointer (some (ad.add (i * 4))) := (d0 rfl).now
                refine op_yields (.pointer (some ⟨(ad.add (i * 4)).block, (ad.add (i * 4)).off + 1, none⟩)) ?_ ?_ ?_
                · simp only [execOp, resolve, List.map_toArray, List.map_cons, List.map_nil, Act.eval, s110]; simp [go_sem, -Array.getD_eq_getD_getElem?, s110]
                · exact Below.refl _ _
                · exact (fun _ _ => rfl)
              case o16 =>
                intro a w hfr hG hd
                obtain ⟨d0, d1, _⟩ := hd
                have sg : a.tmps.getD 107 undef = .bool false := (d1 rfl).now
                refine ⟨fun hw => ?_, fun hw => by rw [wanted_of rfl (yielded_of rfl sg)] at hw; exact absurd hw (by decide)⟩
                have s111 : a.tmps.getD 111 undef = .pointer (some ⟨(ad.add (i * 4)).block, (ad.add (i * 4)).off + 1, none⟩) := (d0 rfl).now
                obtain ⟨z0, z1, z2, z3⟩ := HC1.out w hG.now.1
                refine op_yields (.int .i64 nn) ?_ ?_ ?_
                · simp only [execOp, resolve, List.map_toArray, List.map_cons, List.map_nil, Act.eval, s111]; simp [go_sem, -Array.getD_eq_getD_getElem?, s111, z1]
                · exact Below.refl _ _
                · exact (fun _ _ => rfl)
              case o17 =>
                intro a w hfr hG hd
                obtain ⟨d0, _⟩ := hd
                have sg : a.tmps.getD 107 undef = .bool false := (d0 rfl).now
                refine ⟨fun hw => ?_, fun hw => by rw [wanted_of rfl (yielded_of rfl sg)] at hw; exact absurd hw (by decide)⟩
                have s7 : a.tmps.getD 7 undef = .slice (some ad2) n c := hfr.at 7 (by kernel_rfl)
                refine op_yields (.slice (some ad2) n c) ?_ ?_ ?_
                · simp only [execOp, resolve, List.map_toArray, List.map_cons, List.map_nil, Act.eval, s7]; simp [go_sem, -Array.getD_eq_getD_getElem?, s7]
                · exact Below.refl _ _
                · exact (fun _ _ => rfl)
              case o18 =>
                intro a w hfr hG hd
                obtain ⟨d0, _⟩ := hd
                have sg : a.tmps.getD 107 undef = .bool false := (d0 rfl).now
                refine ⟨fun hw => ?_, fun hw => by rw [wanted_of rfl (yielded_of rfl sg)] at hw; exact absurd hw (by decide)⟩
                have s16 : a.tmps.getD 16 undef = .int .i64 i := hfr.at 16 (by kernel_rfl)
                refine op_yields (.int .i64 i) ?_ ?_ ?_
                · simp only [execOp, resolve, List.map_toArray, List.map_cons, List.map_nil, Act.eval, s16]; simp [go_sem, -Array.getD_eq_getD_getElem?, s16]
                · exact Below.refl _ _
                · exact (fun _ _ => rfl)
              case o19 =>
                intro a w hfr hG hd
                obtain ⟨d0, d1, d2, _⟩ := hd
                have sg : a.tmps.getD 107 undef = .bool false := (d2 rfl).now
                refine ⟨fun hw => ?_, fun hw => by rw [wanted_of rfl (yielded_of rfl sg)] at hw; exact absurd hw (by decide)⟩
                have s113 : a.tmps.getD 113 undef = .slice (some ad2) n c := (d0 rfl).now
                have s114 : a.tmps.getD 114 undef = .int .i64 i := (d1 rfl).now
                refine op_yields (.pointer (some (ad2.add (i * 4)))) ?_ ?_ ?_
                · simp only [execOp, resolve, List.map_toArray, List.map_cons, List.map_nil, Act.eval, s113, s114]; simp [go_sem, -Array.getD_eq_getD_getElem?, s113, s114, hge0, hini]
                · exact Below.refl _ _
                · exact (fun _ _ => rfl)
              case o20 =>
                intro a w hfr hG hd
                obtain ⟨d0, d1, _⟩ := hd
                have sg : a.tmps.getD 107 undef = .bool false := (d1 rfl).now
                refine ⟨fun hw => ?_, fun hw => by rw [wanted_of rfl (yielded_of rfl sg)] at hw; exact absurd hw (by decide)⟩
                have s115 : a.tmps.getD 115 undef = .pointer (some (ad2.add (i * 4))) := (d0 rfl).now
                refine op_yields (.pointer (some ⟨(ad2.add (i * 4)).block, (ad2.add (i * 4)).off + 1, none⟩)) ?_ ?_ ?_
                · simp only [execOp, resolve, List.map_toArray, List.map_cons, List.map_nil, Act.eval, s115]; simp [go_sem, -Array.getD_eq_getD_getElem?, s115]
                · exact Below.refl _ _
                · exact (fun _ _ => rfl)
              case o21 =>
                intro a w hfr hG hd
                obtain ⟨d0, d1, _⟩ := hd
                have sg : a.tmps.getD 107 undef = .bool false := (d1 rfl).now
                refine ⟨fun hw => ?_, fun hw => by rw [wanted_of rfl (yielded_of rfl sg)] at hw; exact absurd hw (by decide)⟩
                have s116 : a.tmps.getD 116 undef = .pointer (some ⟨(ad2.add (i * 4)).block, (ad2.add (i * 4)).off + 1, none⟩) := (d0 rfl).now
                obtain ⟨z0, z1, z2, z3⟩ := HC2.out w hG.now.2.1
                refine op_yields (.int .i64 nn) ?_ ?_ ?_
                · simp only [execOp, resolve, List.map_toArray, List.map_cons, List.map_nil, Act.eval, s116]; simp [go_sem, -Array.getD_eq_getD_getElem?, s116, z1]
                · exact Below.refl _ _
                · exact (fun _ _ => rfl)
              case o22 =>
                intro a w hfr hG hd
                obtain ⟨d0, d1, d2, _⟩ := hd
                have sg : a.tmps.getD 107 undef = .bool false := (d2 rfl).now
                refine ⟨fun hw => ?_, fun hw => by rw [wanted_of rfl (yielded_of rfl sg)] at hw; exact absurd hw (by decide)⟩
                have s112 : a.tmps.getD 112 undef = .int .i64 nn := (d0 rfl).now
                have s117 : a.tmps.getD 117 undef = .int .i64 nn := (d1 rfl).now
                refine op_yields (.bool false) ?_ ?_ ?_
                · simp only [execOp, resolve, List.map_toArray, List.map_cons, List.map_nil, Act.eval, s112, s117]; simp [go_sem, -Array.getD_eq_getD_getElem?, s112, s117]
                · exact Below.refl _ _
                · exact (fun _ _ => rfl)
              case o23 =>
                intro a w hfr hG hd
                obtain ⟨d0, d1, _⟩ := hd
                refine ⟨fun hw => ?_, fun hw => absurd hw (by simp [Region.wanted])⟩
                have s107 : a.tmps.getD 107 undef = .bool false := (d0 rfl).now
                have s118 : a.tmps.getD 118 undef = .bool false := (d1 rfl).now
                refine op_yields (.bool false) ?_ ?_ ?_
                · simp only [execOp, resolve, List.map_toArray, List.map_cons, List.map_nil, Act.eval, s107, s118]; simp [go_sem, -Array.getD_eq_getD_getElem?, s107, s118]
                · exact Below.refl _ _
                · exact (fun _ _ => rfl)
              case o24 =>
                intro a w hfr hG hd
                obtain ⟨d0, d1, _⟩ := hd
                refine ⟨fun hw => ?_, fun hw => absurd hw (by simp [Region.wanted])⟩
                have s119 : a.tmps.getD 119 undef = .bool false := (d0 rfl).now
                refine op_yields (.bool false) ?_ ?_ ?_
                · simp only [execOp, resolve, List.map_toArray, List.map_cons, List.map_nil, Act.eval, s119]; simp [go_sem, -Array.getD_eq_getD_getElem?, s119]
                · exact Below.refl _ _
                · exact (fun _ _ => rfl)
              case o25 =>
                intro a w hfr hG hd
                obtain ⟨d0, _⟩ := hd
                have sg : a.tmps.getD 120 undef = .bool false := (d0 rfl).now
                refine ⟨fun hw => ?_, fun hw => by rw [wanted_of rfl (yielded_of rfl sg)] at hw; exact absurd hw (by decide)⟩
                have s13 : a.tmps.getD 13 undef = .slice (some ad) n c6 := hfr.at 13 (by kernel_rfl)
                refine op_yields (.slice (some ad) n c6) ?_ ?_ ?_
                · simp only [execOp, resolve, List.map_toArray, List.map_cons, List.map_nil, Act.eval, s13]; simp [go_sem, -Array.getD_eq_getD_getElem?, s13]
                · exact Below.refl _ _
                · exact (fun _ _ => rfl)
              case o26 =>
                intro a w hfr hG hd
                obtain ⟨d0, _⟩ := hd
                have sg : a.tmps.getD 120 undef = .bool false := (d0 rfl).now
                refine ⟨fun hw => ?_, fun hw => by rw [wanted_of rfl (yielded_of rfl sg)] at hw; exact absurd hw (by decide)⟩
                have s16 : a.tmps.getD 16 undef = .int .i64 i := hfr.at 16 (by kernel_rfl)
                refine op_yields (.int .i64 i) ?_ ?_ ?_
                · simp only [execOp, resolve, List.map_toArray, List.map_cons, List.map_nil, Act.eval, s16]; simp [go_sem, -Array.getD_eq_getD_getElem?, s16]
                · exact Below.refl _ _
                · exact (fun _ _ => rfl)
              case o27 =>
                intro a w hfr hG hd
                obtain ⟨d0, d1, d2, _⟩ := hd
                have sg : a.tmps.getD 120 undef = .bool false := (d2 rfl).now
                refine ⟨fun hw => ?_, fun hw => by rw [wanted_of rfl (yielded_of rfl sg)] at hw; exact absurd hw (by decide)⟩
                have s121 : a.tmps.getD 121 undef = .slice (some ad) n c6 := (d0 rfl).now
                have s122 : a.tmps.getD 122 undef = .int .i64 i := (d1 rfl).now
                refine op_yields (.pointer (some (ad.add (i * 4)))) ?_ ?_ ?_
                · simp only [execOp, resolve, List.map_toArray, List.map_cons, List.map_nil, Act.eval, s121, s122]; simp [go_sem, -Array.getD_eq_getD_getElem?, s121, s122, hge0, hini]
                · exact Below.refl _ _
                · exact (fun _ _ => rfl)
              case o28 =>
                intro a w hfr hG hd
                obtain ⟨d0, d1, _⟩ := hd
                have sg : a.tmps.getD 120 undef = .bool false := (d1 rfl).now
                refine ⟨fun hw => ?_, fun hw => by rw [wanted_of rfl (yielded_of rfl sg)] at hw; exact absurd hw (by decide)⟩
                have s123 : a.tmps.getD 123 undef = .pointer (some (ad.add (i * 4))) := (d0 rfl).now
                refine op_yields (.pointer (some ⟨(ad.add (i * 4)).block, (ad.add (i * 4)).off + 3, none⟩)) ?_ ?_ ?_
                · simp only [execOp, resolve, List.map_toArray, List.map_cons, List.map_nil, Act.eval, s123]; simp [go_sem, -Array.getD_eq_getD_getElem?, s123]
                · exact Below.refl _ _
                · exact (fun _ _ => rfl)
              case o29 =>
                intro a w hfr hG hd
                obtain ⟨d0, d1, _⟩ := hd
                have sg : a.tmps.getD 120 undef = .bool false := (d1 rfl).now
                refine ⟨fun hw => ?_, fun hw => by rw [wanted_of rfl (yielded_of rfl sg)] at hw; exact absurd hw (by decide)⟩
                have s124 : a.tmps.getD 124 undef = .pointer (some ⟨(ad.add (i * 4)).block, (ad.add (i * 4)).off + 3, none⟩) := (d0 rfl).now
                obtain ⟨z0, z1, z2, z3⟩ := HC1.out w hG.now.1
                refine op_yields (.string tx) ?_ ?_ ?_
                · simp only [execOp, resolve, List.map_toArray, List.map_cons, List.map_nil, Act.eval, s124]; simp [go_sem, -Array.getD_eq_getD_getElem?, s124, z3]
                · exact Below.refl _ _
                · exact (fun _ _ => rfl)
              case o30 =>
                intro a w hfr hG hd
                obtain ⟨d0, _⟩ := hd
                have sg : a.tmps.getD 120 undef = .bool false := (d0 rfl).now
                refine ⟨fun hw => ?_, fun hw => by rw [wanted_of rfl (yielded_of rfl sg)] at hw; exact absurd hw (by decide)⟩
                have s7 : a.tmps.getD 7 undef = .slice (some ad2) n c := hfr.at 7 (by kernel_rfl)
                refine op_yields (.slice (some ad2) n c) ?_ ?_ ?_
                · simp only [execOp, resolve, List.map_toArray, List.map_cons, List.map_nil, Act.eval, s7]; simp [go_sem, -Array.getD_eq_getD_getElem?, s7]
                · exact Below.refl _ _
                · exact (fun _ _ => rfl)
              case o31 =>
                intro a w hfr hG hd
                obtain ⟨d0, _⟩ := hd
                have sg : a.tmps.getD 120 undef = .bool false := (d0 rfl).now
                refine ⟨fun hw => ?_, fun hw => by rw [wanted_of rfl (yielded_of rfl sg)] at hw; exact absurd hw (by decide)⟩
                have s16 : a.tmps.getD 16 undef = .int .i64 i := hfr.at 16 (by kernel_rfl)
                refine op_yields (.int .i64 i) ?_ ?_ ?_
                · simp only [execOp, resolve, List.map_toArray, List.map_cons, List.map_nil, Act.eval, s16]; simp [go_sem, -Array.getD_eq_getD_getElem?, s16]
                · exact Below.refl _ _
                · exact (fun _ _ => rfl)
              case o32 =>
                intro a w hfr hG hd
                obtain ⟨d0, d1, d2, _⟩ := hd
                have sg : a.tmps.getD 120 undef = .bool false := (d2 rfl).now
                refine ⟨fun hw => ?_, fun hw => by rw [wanted_of rfl (yielded_of rfl sg)] at hw; exact absurd hw (by decide)⟩
                have s126 : a.tmps.getD 126 undef = .slice (some ad2) n c := (d0 rfl).now
                have s127 : a.tmps.getD 127 undef = .int .i64 i := (d1 rfl).now
                refine op_yields (.pointer (some (ad2.add (i * 4)))) ?_ ?_ ?_
                · simp only [execOp, resolve, List.map_toArray, List.map_cons, List.map_nil, Act.eval, s126, s127]; simp [go_sem, -Array.getD_eq_getD_getElem?, s126, s127, hge0, hini]
                · exact Below.refl _ _
                · exact (fun _ _ => rfl)
              case o33 =>
                intro a w hfr hG hd
                obtain ⟨d0, d1, _⟩ := hd
                have sg : a.tmps.getD 120 undef = .bool false := (d1 rfl).now
                refine ⟨fun hw => ?_, fun hw => by rw [wanted_of rfl (yielded_of rfl sg)] at hw; exact absurd hw (by decide)⟩
                have s128 : a.tmps.getD 128 undef = .pointer (some (ad2.add (i * 4))) := (d0 rfl).now
                refine op_yields (.pointer (some ⟨(ad2.add (i * 4)).block, (ad2.add (i * 4)).off + 3, none⟩)) ?_ ?_ ?_
                · simp only [execOp, resolve, List.map_toArray, List.map_cons, List.map_nil, Act.eval, s128]; simp [go_sem, -Array.getD_eq_getD_getElem?, s128]
                · exact Below.refl _ _
                · exact (fun _ _ => rfl)
              case o34 =>
                intro a w hfr hG hd
                obtain ⟨d0, d1, _⟩ := hd
                have sg : a.tmps.getD 120 undef = .bool false := (d1 rfl).now
                refine ⟨fun hw => ?_, fun hw => by rw [wanted_of rfl (yielded_of rfl sg)] at hw; exact absurd hw (by decide)⟩
                have s129 : a.tmps.getD 129 undef = .pointer (some ⟨(ad2.add (i * 4)).block, (ad2.add (i * 4)).off + 3, none⟩) := (d0 rfl).now
                obtain ⟨z0, z1, z2, z3⟩ := HC2.out w hG.now.2.1
                refine op_yields (.string tx) ?_ ?_ ?_
                · simp only [execOp, resolve, List.map_toArray, List.map_cons, List.map_nil, Act.eval, s129]; simp [go_sem, -Array.getD_eq_getD_getElem?, s129, z3]
                · exact Below.refl _ _
                · exact (fun _ _ => rfl)
              case o35 =>
                intro a w hfr hG hd
                obtain ⟨d0, d1, d2, _⟩ := hd
                have sg : a.tmps.getD 120 undef = .bool false := (d2 rfl).now
                refine ⟨fun hw => ?_, fun hw => by rw [wanted_of rfl (yielded_of rfl sg)] at hw; exact absurd hw (by decide)⟩
                have s125 : a.tmps.getD 125 undef = .string tx := (d0 rfl).now
                have s130 : a.tmps.getD 130 undef = .string tx := (d1 rfl).now
                refine op_yields (.bool false) ?_ ?_ ?_
                · simp only [execOp, resolve, List.map_toArray, List.map_cons, List.map_nil, Act.eval, s125, s130]; simp [go_sem, -Array.getD_eq_getD_getElem?, s125, s130]
                · exact Below.refl _ _
                · exact (fun _ _ => rfl)
              case o36 =>
                intro a w hfr hG hd
                obtain ⟨d0, d1, _⟩ := hd
                refine ⟨fun hw => ?_, fun hw => absurd hw (by simp [Region.wanted])⟩
                have s120 : a.tmps.getD 120 undef = .bool false := (d0 rfl).now
                have s131 : a.tmps.getD 131 undef = .bool false := (d1 rfl).now
                refine op_yields (.bool false) ?_ ?_ ?_
                · simp only [execOp, resolve, List.map_toArray, List.map_cons, List.map_nil, Act.eval, s120, s131]; simp [go_sem, -Array.getD_eq_getD_getElem?, s120, s131]
                · exact Below.refl _ _
                · exact (fun _ _ => rfl)
              case o37 =>
                intro a w hfr hG hd
                obtain ⟨d0, d1, _⟩ := hd
                refine ⟨fun hw => ?_, fun hw => absurd hw (by simp [Region.wanted])⟩
                have s132 : a.tmps.getD 132 undef = .bool false := (d0 rfl).now
                refine op_yields (.bool false) ?_ ?_ ?_
                · simp only [execOp, resolve, List.map_toArray, List.map_cons, List.map_nil, Act.eval, s132]; simp [go_sem, -Array.getD_eq_getD_getElem?, s132]
                · exact Below.refl _ _
                · exact (fun _ _ => rfl)
              case o38 =>
                intro a w hfr hG hd
                obtain ⟨d0, _⟩ := hd
                have sg : a.tmps.getD 133 undef = .bool false := (d0 rfl).now
                refine ⟨fun hw => ?_, fun hw => by rw [wanted_of rfl (yielded_of rfl sg)] at hw; exact absurd hw (by decide)⟩
                have s16 : a.tmps.getD 16 undef = .int .i64 i := hfr.at 16 (by kernel_rfl)
                refine op_yields (.int .i64 i) ?_ ?_ ?_
                · simp only [execOp, resolve, List.map_toArray, List.map_cons, List.map_nil, Act.eval, s16]; simp [go_sem, -Array.getD_eq_getD_getElem?, s16]
                · exact Below.refl _ _
                · exact (fun _ _ => rfl)
              case o39 =>
                intro a w hfr hG hd
                obtain ⟨d0, d1, _⟩ := hd
                have sg : a.tmps.getD 133 undef = .bool false := (d1 rfl).now
                refine ⟨fun hw => ?_, fun hw => by rw [wanted_of rfl (yielded_of rfl sg)] at hw; exact absurd hw (by decide)⟩
                have s134 : a.tmps.getD 134 undef = .int .i64 i := (d0 rfl).now
                refine op_yields (.bool false) ?_ ?_ ?_
                · simp only [execOp, resolve, List.map_toArray, List.map_cons, List.map_nil, Act.eval, s134]; simp [go_sem, -Array.getD_eq_getD_getElem?, s134, hip, HIZ.out]
                · exact Below.refl _ _
                · exact (fun _ _ => rfl)
              case o40 =>
                intro a w hfr hG hd
                obtain ⟨d0, d1, d2, _⟩ := hd
                have sg : a.tmps.getD 133 undef = .bool false := (d1 rfl).now
                refine ⟨fun hw => ?_, fun hw => by rw [wanted_of rfl (yielded_of rfl sg)] at hw; exact absurd hw (by decide)⟩
                have s135 : a.tmps.getD 135 undef = .bool false := (d0 rfl).now
                refine op_yields (.bool false) ?_ ?_ ?_
                · simp only [execOp, resolve, List.map_toArray, List.map_cons, List.map_nil, Act.eval, s135]; simp [go_sem, -Array.getD_eq_getD_getElem?, s135]
                · exact Below.refl _ _
                · exact (fun _ _ => rfl)
              case o41 =>
                intro a w hfr hG hd
                obtain ⟨d0, _⟩ := hd
                have sg : a.tmps.getD 136 undef = .bool false := (d0 rfl).now
                refine ⟨fun hw => ?_, fun hw => fun _ _ => trivial⟩
                rw [wanted_of rfl (yielded_of rfl sg)] at hw; exact absurd hw (by decide)
              case o42 =>
                intro a w hfr hG hd
                obtain ⟨d0, _⟩ := hd
                have sg : a.tmps.getD 136 undef = .bool false := (d0 rfl).now
                refine ⟨fun hw => ?_, fun hw => fun _ _ => trivial⟩
                rw [wanted_of rfl (yielded_of rfl sg)] at hw; exact absurd hw (by decide)
              case o43 =>
                intro a w hfr hG hd
                obtain ⟨d0, d1, _⟩ := hd
                have sg : a.tmps.getD 136 undef = .bool false := (d1 rfl).now
                refine ⟨fun hw => ?_, fun hw => fun _ _ => trivial⟩
                rw [wanted_of rfl (yielded_of rfl sg)] at hw; exact absurd hw (by decide)
              case o44 =>
                intro a w hfr hG hd
                obtain ⟨d0, d1, d2, _⟩ := hd
                have sg : a.tmps.getD 136 undef = .bool false := (d2 rfl).now
                refine ⟨fun hw => ?_, fun hw => fun _ _ => trivial⟩
                rw [wanted_of rfl (yielded_of rfl sg)] at hw; exact absurd hw (by decide)
              case o45 =>
                intro a w hfr hG hd
                obtain ⟨d0, d1, _⟩ := hd
                have sg : a.tmps.getD 136 undef = .bool false := (d1 rfl).now
                refine ⟨fun hw => ?_, fun hw => fun _ _ => trivial⟩
                rw [wanted_of rfl (yielded_of rfl sg)] at hw; exact absurd hw (by decide)
              case o46 =>
                intro a w hfr hG hd
                obtain ⟨d0, d1, _⟩ := hd
                have sg : a.tmps.getD 136 undef = .bool false := (d1 rfl).now
                refine ⟨fun hw => ?_, fun hw => fun _ _ => trivial⟩
                rw [wanted_of rfl (yielded_of rfl sg)] at hw; exact absurd hw (by decide)
              case o47 =>
                intro a w hfr hG hd
                obtain ⟨d0, _⟩ := hd
                have sg : a.tmps.getD 136 undef = .bool false := (d0 rfl).now
                refine ⟨fun hw => ?_, fun hw => fun _ _ => trivial⟩
                rw [wanted_of rfl (yielded_of rfl sg)] at hw; exact absurd hw (by decide)
              case o48 =>
                intro a w hfr hG hd
                obtain ⟨d0, _⟩ := hd
                have sg : a.tmps.getD 136 undef = .bool false := (d0 rfl).now
                refine ⟨fun hw => ?_, fun hw => fun _ _ => trivial⟩
                rw [wanted_of rfl (yielded_of rfl sg)] at hw; exact absurd hw (by decide)
              case o49 =>
                intro a w hfr hG hd
                obtain ⟨d0, d1, d2, _⟩ := hd
                have sg : a.tmps.getD 136 undef = .bool false := (d2 rfl).now
                refine ⟨fun hw => ?_, fun hw => fun _ _ => trivial⟩
                rw [wanted_of rfl (yielded_of rfl sg)] at hw; exact absurd hw (by decide)
              case o50 =>
                intro a w hfr hG hd
                obtain ⟨d0, d1, _⟩ := hd
                have sg : a.tmps.getD 136 undef = .bool false := (d1 rfl).now
                refine ⟨fun hw => ?_, fun hw => fun _ _ => trivial⟩
                rw [wanted_of rfl (yielded_of rfl sg)] at hw; exact absurd hw (by decide)
              case o51 =>
                intro a w hfr hG hd
                obtain ⟨d0, d1, _⟩ := hd
                have sg : a.tmps.getD 136 undef = .bool false := (d1 rfl).now
                refine ⟨fun hw => ?_, fun hw => fun _ _ => trivial⟩
                rw [wanted_of rfl (yielded_of rfl sg)] at hw; exact absurd hw (by decide)
              case o52 =>
                intro a w hfr hG hd
                obtain ⟨d0, d1, d2, _⟩ := hd
                have sg : a.tmps.getD 136 undef = .bool false := (d2 rfl).now
                refine ⟨fun hw => ?_, fun hw => fun _ _ => trivial⟩
                rw [wanted_of rfl (yielded_of rfl sg)] at hw; exact absurd hw (by decide)
              case o53 =>
                intro a w hfr hG hd
                obtain ⟨d0, d1, d2, _⟩ := hd
                have sg : a.tmps.getD 133 undef = .bool false := (d2 rfl).now
                refine ⟨fun hw => ?_, fun hw => by rw [wanted_of rfl (yielded_of rfl sg)] at hw; exact absurd hw (by decide)⟩
                have s136 : a.tmps.getD 136 undef = .bool false := (d0 rfl).now
                refine op_yields (.bool false) ?_ ?_ ?_
                · simp only [execOp, resolve, List.map_toArray, List.map_cons, List.map_nil, Act.eval, s136]; simp [go_sem, -Array.getD_eq_getD_getElem?, s136]
                · exact Below.refl _ _
                · exact (fun _ _ => rfl)
              case o54 =>
                intro a w hfr hG hd
                obtain ⟨d0, d1, _⟩ := hd
                refine ⟨fun hw => ?_, fun hw => absurd hw (by simp [Region.wanted])⟩
                have s133 : a.tmps.getD 133 undef = .bool false := (d0 rfl).now
                have s149 : a.tmps.getD 149 undef = .bool false := (d1 rfl).now
                refine op_yields (.bool false) ?_ ?_ ?_
                · simp only [execOp, resolve, List.map_toArray, List.map_cons, List.map_nil, Act.eval, s133, s149]; simp [go_sem, -Array.getD_eq_getD_getElem?, s133, s149]
                · exact Below.refl _ _
                · exact (fun _ _ => rfl)
              case o55 =>
                intro a w hfr hG hd
                obtain ⟨d0, d1, _⟩ := hd
                refine ⟨fun hw => ?_, fun hw => absurd hw (by simp [Region.wanted])⟩
                have s150 : a.tmps.getD 150 undef = .bool false := (d0 rfl).now
                refine op_yields (.bool false) ?_ ?_ ?_
                · simp only [execOp, resolve, List.map_toArray, List.map_cons, List.map_nil, Act.eval, s150]; simp [go_sem, -Array.getD_eq_getD_getElem?, s150]
                · exact Below.refl _ _
                · exact (fun _ _ => rfl)
              case o56 =>
                intro a w hfr hG hd
                obtain ⟨d0, _⟩ := hd
                have sg : a.tmps.getD 151 undef = .bool false := (d0 rfl).now
                refine ⟨fun hw => ?_, fun hw => by rw [wanted_of rfl (yielded_of rfl sg)] at hw; exact absurd hw (by decide)⟩
                have s13 : a.tmps.getD 13 undef = .slice (some ad) n c6 := hfr.at 13 (by kernel_rfl)
                refine op_yields (.slice (some ad) n c6) ?_ ?_ ?_
                · simp only [execOp, resolve, List.map_toArray, List.map_cons, List.map_nil, Act.eval, s13]; simp [go_sem, -Array.getD_eq_getD_getElem?, s13]
                · exact Below.refl _ _
                · exact (fun _ _ => rfl)
              case o57 =>
                intro a w hfr hG hd
                obtain ⟨d0, _⟩ := hd
                have sg : a.tmps.getD 151 undef = .bool false := (d0 rfl).now
                refine ⟨fun hw => ?_, fun hw => by rw [wanted_of rfl (yielded_of rfl sg)] at hw; exact absurd hw (by decide)⟩
                have s16 : a.tmps.getD 16 undef = .int .i64 i := hfr.at 16 (by kernel_rfl)
                refine op_yields (.int .i64 i) ?_ ?_ ?_
                · simp only [execOp, resolve, List.map_toArray, List.map_cons, List.map_nil, Act.eval, s16]; simp [go_sem, -Array.getD_eq_getD_getElem?, s16]
                · exact Below.refl _ _
                · exact (fun _ _ => rfl)
              case o58 =>
                intro a w hfr hG hd
                obtain ⟨d0, d1, d2, _⟩ := hd
                have sg : a.tmps.getD 151 undef = .bool false := (d2 rfl).now
                refine ⟨fun hw => ?_, fun hw => by rw [wanted_of rfl (yielded_of rfl sg)] at hw; exact absurd hw (by decide)⟩
                have s152 : a.tmps.getD 152 undef = .slice (some ad) n c6 := (d0 rfl).now
                have s153 : a.tmps.getD 153 undef = .int .i64 i := (d1 rfl).now
                refine op_yields (.pointer (some (ad.add (i * 4)))) ?_ ?_ ?_
                · simp only [execOp, resolve, List.map_toArray, List.map_cons, List.map_nil, Act.eval, s152, s153]; simp [go_sem, -Array.getD_eq_getD_getElem?, s152, s153, hge0, hini]
                · exact Below.refl _ _
                · exact (fun _ _ => rfl)
              case o59 =>
                intro a w hfr hG hd
                obtain ⟨d0, d1, _⟩ := hd
                have sg : a.tmps.getD 151 undef = .bool false := (d1 rfl).now
                refine ⟨fun hw => ?_, fun hw => by rw [wanted_of rfl (yielded_of rfl sg)] at hw; exact absurd hw (by decide)⟩
                have s154 : a.tmps.getD 154 undef = .pointer (some (ad.add (i * 4))) := (d0 rfl).now
                refine op_yields (.pointer (some ⟨(ad.add (i * 4)).block, (ad.add (i * 4)).off + 2, none⟩)) ?_ ?_ ?_
                · simp only [execOp, resolve, List.map_toArray, List.map_cons, List.map_nil, Act.eval, s154]; simp [go_sem, -Array.getD_eq_getD_getElem?, s154]
                · exact Below.refl _ _
                · exact (fun _ _ => rfl)
              case o60 =>
                intro a w hfr hG hd
                obtain ⟨d0, d1, _⟩ := hd
                have sg : a.tmps.getD 151 undef = .bool false := (d1 rfl).now
                refine ⟨fun hw => ?_, fun hw => by rw [wanted_of rfl (yielded_of rfl sg)] at hw; exact absurd hw (by decide)⟩
                have s155 : a.tmps.getD 155 undef = .pointer (some ⟨(ad.add (i * 4)).block, (ad.add (i * 4)).off + 2, none⟩) := (d0 rfl).now
                obtain ⟨z0, z1, z2, z3⟩ := HC1.out w hG.now.1
                refine op_yields (.int .i64 pa) ?_ ?_ ?_
                · simp only [execOp, resolve, List.map_toArray, List.map_cons, List.map_nil, Act.eval, s155]; simp [go_sem, -Array.getD_eq_getD_getElem?, s155, z2]
                · exact Below.refl _ _
                · exact (fun _ _ => rfl)
              case o61 =>
                intro a w hfr hG hd
                obtain ⟨d0, d1, _⟩ := hd
                have sg : a.tmps.getD 151 undef = .bool false := (d1 rfl).now
                refine ⟨fun hw => ?_, fun hw => by rw [wanted_of rfl (yielded_of rfl sg)] at hw; exact absurd hw (by decide)⟩
                have s156 : a.tmps.getD 156 undef = .int .i64 pa := (d0 rfl).now
                refine op_yields (.bool false) ?_ ?_ ?_
                · simp only [execOp, resolve, List.map_toArray, List.map_cons, List.map_nil, Act.eval, s156]; simp [go_sem, -Array.getD_eq_getD_getElem?, s156, hna]
                · exact Below.refl _ _
                · exact (fun _ _ => rfl)
              case o62 =>
                intro a w hfr hG hd
                obtain ⟨d0, d1, _⟩ := hd
                refine ⟨fun hw => ?_, fun hw => absurd hw (by simp [Region.wanted])⟩
                have s151 : a.tmps.getD 151 undef = .bool false := (d0 rfl).now
                have s157 : a.tmps.getD 157 undef = .bool false := (d1 rfl).now
                refine op_yields (.bool false) ?_ ?_ ?_
                · simp only [execOp, resolve, List.map_toArray, List.map_cons, List.map_nil, Act.eval, s151, s157]; simp [go_sem, -Array.getD_eq_getD_getElem?, s151, s157]
                · exact Below.refl _ _
                · exact (fun _ _ => rfl)
              case o63 =>
                intro a w hfr hG hd
                obtain ⟨d0, d1, _⟩ := hd
                refine ⟨fun hw => ?_, fun hw => absurd hw (by simp [Region.wanted])⟩
                have s158 : a.tmps.getD 158 undef = .bool false := (d0 rfl).now
                refine op_yields (.bool false) ?_ ?_ ?_
                · simp only [execOp, resolve, List.map_toArray, List.map_cons, List.map_nil, Act.eval, s158]; simp [go_sem, -Array.getD_eq_getD_getElem?, s158]
                · exact Below.refl _ _
                · exact (fun _ _ => rfl)
              case o64 =>
                intro a w hfr hG hd
                obtain ⟨d0, _⟩ := hd
                have sg : a.tmps.getD 159 undef = .bool false := (d0 rfl).now
                refine ⟨fun hw => ?_, fun hw => by rw [wanted_of rfl (yielded_of rfl sg)] at hw; exact absurd hw (by decide)⟩
                have s13 : a.tmps.getD 13 undef = .slice (some ad) n c6 := hfr.at 13 (by kernel_rfl)
                refine op_yields (.slice (some ad) n c6) ?_ ?_ ?_
                · simp only [execOp, resolve, List.map_toArray, List.map_cons, List.map_nil, Act.eval, s13]; simp [go_sem, -Array.getD_eq_getD_getElem?, s13]
                · exact Below.refl _ _
                · exact (fun _ _ => rfl)
              case o65 =>
                intro a w hfr hG hd
                obtain ⟨d0, _⟩ := hd
                have sg : a.tmps.getD 159 undef = .bool false := (d0 rfl).now
                refine ⟨fun hw => ?_, fun hw => by rw [wanted_of rfl (yielded_of rfl sg)] at hw; exact absurd hw (by decide)⟩
                have s16 : a.tmps.getD 16 undef = .int .i64 i := hfr.at 16 (by kernel_rfl)
                refine op_yields (.int .i64 i) ?_ ?_ ?_
                · simp only [execOp, resolve, List.map_toArray, List.map_cons, List.map_nil, Act.eval, s16]; simp [go_sem, -Array.getD_eq_getD_getElem?, s16]
                · exact Below.refl _ _
                · exact (fun _ _ => rfl)
              case o66 =>
                intro a w hfr hG hd
                obtain ⟨d0, d1, d2, _⟩ := hd
                have sg : a.tmps.getD 159 undef = .bool false := (d2 rfl).now
                refine ⟨fun hw => ?_, fun hw => by rw [wanted_of rfl (yielded_of rfl sg)] at hw; exact absurd hw (by decide)⟩
                have s160 : a.tmps.getD 160 undef = .slice (some ad) n c6 := (d0 rfl).now
                have s161 : a.tmps.getD 161 undef = .int .i64 i := (d1 rfl).now
                refine op_yields (.pointer (some (ad.add (i * 4)))) ?_ ?_ ?_
                · simp only [execOp, resolve, List.map_toArray, List.map_cons, List.map_nil, Act.eval, s160, s161]; simp [go_sem, -Array.getD_eq_getD_getElem?, s160, s161, hge0, hini]
                · exact Below.refl _ _
                · exact (fun _ _ => rfl)
              case o67 =>
                intro a w hfr hG hd
                obtain ⟨d0, d1, _⟩ := hd
                have sg : a.tmps.getD 159 undef = .bool false := (d1 rfl).now
                refine ⟨fun hw => ?_, fun hw => by rw [wanted_of rfl (yielded_of rfl sg)] at hw; exact absurd hw (by decide)⟩
                have s162 : a.tmps.getD 162 undef = .pointer (some (ad.add (i * 4))) := (d0 rfl).now
                refine op_yields (.pointer (some ⟨(ad.add (i * 4)).block, (ad.add (i * 4)).off + 2, none⟩)) ?_ ?_ ?_
                · simp only [execOp, resolve, List.map_toArray, List.map_cons, List.map_nil, Act.eval, s162]; simp [go_sem, -Array.getD_eq_getD_getElem?, s162]
                · exact Below.refl _ _
                · exact (fun _ _ => rfl)
              case o68 =>
                intro a w hfr hG hd
                obtain ⟨d0, d1, _⟩ := hd
                have sg : a.tmps.getD 159 undef = .bool false := (d1 rfl).now
                refine ⟨fun hw => ?_, fun hw => by rw [wanted_of rfl (yielded_of rfl sg)] at hw; exact absurd hw (by decide)⟩
                have s163 : a.tmps.getD 163 undef = .pointer (some ⟨(ad.add (i * 4)).block, (ad.add (i * 4)).off + 2, none⟩) := (d0 rfl).now
                obtain ⟨z0, z1, z2, z3⟩ := HC1.out w hG.now.1
                refine op_yields (.int .i64 pa) ?_ ?_ ?_
                · simp only [execOp, resolve, List.map_toArray, List.map_cons, List.map_nil, Act.eval, s163]; simp [go_sem, -Array.getD_eq_getD_getElem?, s163, z2]
                · exact Below.refl _ _
                · exact (fun _ _ => rfl)
              case o69 =>
                intro a w hfr hG hd
                obtain ⟨d0, _⟩ := hd
                have sg : a.tmps.getD 159 undef = .bool false := (d0 rfl).now
                refine ⟨fun hw => ?_, fun hw => by rw [wanted_of rfl (yielded_of rfl sg)] at hw; exact absurd hw (by decide)⟩
                have s12 : a.tmps.getD 12 undef = .string S := hfr.at 12 (by kernel_rfl)
                refine op_yields (.string S) ?_ ?_ ?_
                · simp only [execOp, resolve, List.map_toArray, List.map_cons, List.map_nil, Act.eval, s12]; simp [go_sem, -Array.getD_eq_getD_getElem?, s12]
                · exact Below.refl _ _
                · exact (fun _ _ => rfl)
              case o70 =>
                intro a w hfr hG hd
                obtain ⟨d0, d1, _⟩ := hd
                have sg : a.tmps.getD 159 undef = .bool false := (d1 rfl).now
                refine ⟨fun hw => ?_, fun hw => by rw [wanted_of rfl (yielded_of rfl sg)] at hw; exact absurd hw (by decide)⟩
                have s165 : a.tmps.getD 165 undef = .string S := (d0 rfl).now
                refine op_yields (.int .i64 S.size) ?_ ?_ ?_
                · simp only [execOp, resolve, List.map_toArray, List.map_cons, List.map_nil, Act.eval, s165]; simp [go_sem, -Array.getD_eq_getD_getElem?, s165]
                · exact Below.refl _ _
                · exact (fun _ _ => rfl)
              case o71 =>
                intro a w hfr hG hd
                obtain ⟨d0, d1, d2, _⟩ := hd
                have sg : a.tmps.getD 159 undef = .bool false := (d2 rfl).now
                refine ⟨fun hw => ?_, fun hw => by rw [wanted_of rfl (yielded_of rfl sg)] at hw; exact absurd hw (by decide)⟩
                have s164 : a.tmps.getD 164 undef = .int .i64 pa := (d0 rfl).now
                have s166 : a.tmps.getD 166 undef = .int .i64 S.size := (d1 rfl).now
                refine op_yields (.bool false) ?_ ?_ ?_
                · simp only [execOp, resolve, List.map_toArray, List.map_cons, List.map_nil, Act.eval, s164, s166]; simp [go_sem, -Array.getD_eq_getD_getElem?, s164, s166, hns, hns2]
                · exact Below.refl _ _
                · exact (fun _ _ => rfl)
              case o72 =>
                intro a w hfr hG hd
                obtain ⟨d0, d1, _⟩ := hd
                refine ⟨fun hw => ?_, fun hw => absurd hw (by simp [Region.wanted])⟩
                have s159 : a.tmps.getD 159 undef = .bool false := (d0 rfl).now
                have s167 : a.tmps.getD 167 undef = .bool false := (d1 rfl).now
                refine op_yields (.bool false) ?_ ?_ ?_
                · simp only [execOp, resolve, List.map_toArray, List.map_cons, List.map_nil, Act.eval, s159, s167]; simp [go_sem, -Array.getD_eq_getD_getElem?, s159, s167]
                · exact Below.refl _ _
                · exact (fun _ _ => rfl)
              case hG => exact fun w' hb => HLQ.out.below ((Below.refl _ _).drew.trans (hb.mono (by simp)))
              case hend =>
                intro vs w' hG hv
                have key : vs 72 = .bool false := by
                  obtain ⟨_, _, _, _, _, _, _, _, _, _, _, _, _, _, _, _, _, _, _, _, _, _, _, _, _, _, _, _, _, _, _, _, _, _, _, _, _, _, _, _, _, _, _, _, _, _, _, _, _, _, _, _, _, _, _, _, _, _, _, _, _, _, _, _, _, _, _, _, _, _, _, _, h72, _⟩ := hv
                  exact h72.now
                have HQ2 := Lib.hid hG.now
                clear hv hG HLQ HEX HPW HC1 HC2
                simp only [putAll, Act.put, key]
                clear key
                go_simp
                go_wp2_with fail
                go_meet
                exact ⟨rfl, HQ2.out⟩
            · obtain ⟨j, hj⟩ : ∃ j, j + 1 = i := ⟨i - 1, by omega⟩
              obtain ⟨hjl, hja⟩ := HPW.out j hj
              have hc3 : ∀ V : World, Sees V B 4 (some ad) n (tcells us) → TokAt V ad j us[j].kd us[j].n us[j].at_ us[j].tx := fun V h => h.tokAt (by omega) hjl
              have HC3 := Lib.hid (show ∀ V : World, Sees V B 4 (some ad) n (tcells us) → V.cell? ⟨(ad.add (j * 4)).block, (ad.add (j * 4)).off + 2, none⟩ = some (.int .i64 us[j].at_) from fun V h => (hc3 V h).2.2.1)
              clear hc3
              generalize us[j].at_ = aj at *
              have hij : (i : Int) - 1 = (j : Int) := by omega
              have hij2 : IntKind.i64.wrap ((i : Int) - 1) = (j : Int) := by rw [IntKind.wrap_i64]; omega
              have hj0 : (0 : Int) ≤ j := by omega
              have hjn : (j : Int) < n := by omega
              have hnj : ¬ (pa : Int) ≤ aj := by omega
              have hip : (0 : Int) < i := by omega
              have hip2 : 0 < i := by omega
              have hij3 : IntKind.i64.wrap (j : Int) = (j : Int) := by rw [IntKind.wrap_i64]; omega
              have HJJ := Lib.hid hj
              clear hj hi0'
              dsimp only [List.append]
              refine wp_region_facts (R := fun a b => Below a.heap.size a b) (G := (fun W => LpAt B B' (some ad) us (some ad2) L n w W)) (V := fun i' u' W => match i' with | 0 => u' = .slice (some ad) n c6 | 1 => u' = .int .i64 i | 2 => u' = .pointer (some (ad.add (i * 4))) | 3 => u' = .pointer (some (ad.add (i * 4))) | 4 => u' = .int .i64 kd | 5 => u' = .slice (some ad2) n c | 6 => u' = .int .i64 i | 7 => u' = .pointer (some (ad2.add (i * 4))) | 8 => u' = .pointer (some (ad2.add (i * 4))) | 9 => u' = .int .i64 kd | 10 => u' = .bool false | 11 => u' = .bool false | 12 => u' = .slice (some ad) n c6 | 13 => u' = .int .i64 i | 14 => u' = .pointer (some (ad.add (i * 4))) | 15 => u' = .pointer (some ⟨(ad.add (i * 4)).block, (ad.add (i * 4)).off + 1, none⟩) | 16 => u' = .int .i64 nn | 17 => u' = .slice (some ad2) n c | 18 => u' = .int .i64 i | 19 => u' = .pointer (some (ad2.add (i * 4))) | 20 => u' = .pointer (some ⟨(ad2.add (i * 4)).block, (ad2.add (i * 4)).off + 1, none⟩) | 21 => u' = .int .i64 nn | 22 => u' = .bool false | 23 => u' = .bool false | 24 => u' = .bool false | 25 => u' = .slice (some ad) n c6 | 26 => u' = .int .i64 i | 27 => u' = .pointer (some (ad.add (i * 4))) | 28 => u' = .pointer (some ⟨(ad.add (i * 4)).block, (ad.add (i * 4)).off + 3, none⟩) | 29 => u' = .string tx | 30 => u' = .slice (some ad2) n c | 31 => u' = .int .i64 i | 32 => u' = .pointer (some (ad2.add (i * 4))) | 33 => u' = .pointer (some ⟨(ad2.add (i * 4)).block, (ad2.add (i * 4)).off + 3, none⟩) | 34 => u' = .string tx | 35 => u' = .bool false | 36 => u' = .bool false | 37 => u' = .bool false | 38 => u' = .int .i64 i | 39 => u' = .bool true | 40 => u' = .bool true | 41 => u' = .slice (some ad) n c6 | 42 => u' = .int .i64 i | 43 => u' = .int .i64 j | 44 => u' = .pointer (some (ad.add (j * 4))) | 45 => u' = .pointer (some ⟨(ad.add (j * 4)).block, (ad.add (j * 4)).off + 2, none⟩) | 46 => u' = .int .i64 aj | 47 => u' = .slice (some ad) n c6 | 48 => u' = .int .i64 i | 49 => u' = .pointer (some (ad.add (i * 4))) | 50 => u' = .pointer (some ⟨(ad.add (i * 4)).block, (ad.add (i * 4)).off + 2, none⟩) | 51 => u' = .int .i64 pa | 52 => u' = .bool false | 53 => u' = .bool false | 54 => u' = .bool false | 55 => u' = .bool false | 56 => u' = .slice (some ad) n c6 | 57 => u' = .int .i64 i | 58 => u' = .pointer (some (ad.add (i * 4))) | 59 => u' = .pointer (some ⟨(ad.add (i * 4)).block, (ad.add (i * 4)).off + 2, none⟩) | 60 => u' = .int .i64 pa | 61 => u' = .bool false | 62 => u' = .bool false | 63 => u' = .bool false | 64 => u' = .slice (some ad) n c6 | 65 => u' = .int .i64 i | 66 => u' = .pointer (some (ad.add (i * 4))) | 67 => u' = .pointer (some ⟨(ad.add (i * 4)).block, (ad.add (i * 4)).off + 2, none⟩) | 68 => u' = .int .i64 pa | 69 => u' = .string S | 70 => u' = .int .i64 S.size | 71 => u' = .bool false | 72 => u' = .bool false | _ => True) (by kernel_rfl) (fun w => Below.refl _ _) (fun a b c h1 h2 => h1.trans (h2.mono h1.size)) (by kernel_rfl) (by kernel_rfl) ?hG ⟨?o0, ?o1, ?o2, ?o3, ?o4, ?o5, ?o6, ?o7, ?o8, ?o9, ?o10, ?o11, ?o12, ?o13, ?o14, ?o15, ?o16, ?o17, ?o18, ?o19, ?o20, ?o21, ?o22, ?o23, ?o24, ?o25, ?o26, ?o27, ?o28, ?o29, ?o30, ?o31, ?o32, ?o33, ?o34, ?o35, ?o36, ?o37, ?o38, ?o39, ?o40, ?o41, ?o42, ?o43, ?o44, ?o45, ?o46, ?o47, ?o48, ?o49, ?o50, ?o51, ?o52, ?o53, ?o54, ?o55, ?o56, ?o57, ?o58, ?o59, ?o60, ?o61, ?o62, ?o63, ?o64, ?o65, ?o66, ?o67, ?o68, ?o69, ?o70, ?o71, ?o72, trivial⟩ ?hend
              case o0 =>
                intro a w hfr hG hd
                refine ⟨fun hw => ?_, fun hw => absurd hw (by simp [Region.wanted])⟩
                have s13 : a.tmps.getD 13 undef = .slice (some ad) n c6 := hfr.at 13 (by kernel_rfl)
                refine op_yields (.slice (some ad) n c6) ?_ ?_ ?_
                · simp only [execOp, resolve, List.map_toArray, List.map_cons, List.map_nil, Act.eval, s13]; simp [go_sem, -Array.getD_eq_getD_getElem?, s13]
                · exact Below.refl _ _
                · exact (fun _ _ => rfl)
              case o1 =>
                intro a w hfr hG hd
                refine ⟨fun hw => ?_, fun hw => absurd hw (by simp [Region.wanted])⟩
                have s16 : a.tmps.getD 16 undef = .int .i64 i := hfr.at 16 (by kernel_rfl)
                refine op_yields (.int .i64 i) ?_ ?_ ?_
                · simp only [execOp, resolve, List.map_toArray, List.map_cons, List.map_nil, Act.eval, s16]; simp [go_sem, -Array.getD_eq_getD_getElem?, s16]
                · exact Below.refl _ _
                · exact (fun _ _ => rfl)
              case o2 =>
                intro a w hfr hG hd
                obtain ⟨d0, d1, _⟩ := hd
                refine ⟨fun hw => ?_, fun hw => absurd hw (by simp [Region.wanted])⟩
                have s96 : a.tmps.getD 96 undef = .slice (some ad) n c6 := (d0 rfl).now
                have s97 : a.tmps.getD 97 undef = .int .i64 i := (d1 rfl).now
                refine op_yields (.pointer (some (ad.add (i * 4)))) ?_ ?_ ?_
                · simp only [execOp, resolve, List.map_toArray, List.map_cons, List.map_nil, Act.eval, s96, s97]; simp [go_sem, -Array.getD_eq_getD_getElem?, s96, s97, hge0, hini]
                · exact Below.refl _ _
                · exact (fun _ _ => rfl)
              case o3 =>
                intro a w hfr hG hd
                obtain ⟨d0, _⟩ := hd
                refine ⟨fun hw => ?_, fun hw => absurd hw (by simp [Region.wanted])⟩
                have s98 : a.tmps.getD 98 undef = .pointer (some (ad.add (i * 4))) := (d0 rfl).now
                refine op_yields (.pointer (some (ad.add (i * 4)))) ?_ ?_ ?_
                · simp only [execOp, resolve, List.map_toArray, List.map_cons, List.map_nil, Act.eval, s98]; simp [go_sem, -Array.getD_eq_getD_getElem?, s98]
                · exact Below.refl _ _
                · exact (fun _ _ => rfl)
              case o4 =>
                intro a w hfr hG hd
                obtain ⟨d0, _⟩ := hd
                refine ⟨fun hw => ?_, fun hw => absurd hw (by simp [Region.wanted])⟩
                have s99 : a.tmps.getD 99 undef = .pointer (some (ad.add (i * 4))) := (d0 rfl).now
                obtain ⟨z0, z1, z2, z3⟩ := HC1.out w hG.now.1
                refine op_yields (.int .i64 kd) ?_ ?_ ?_
                · simp only [execOp, resolve, List.map_toArray, List.map_cons, List.map_nil, Act.eval, s99]; simp [go_sem, -Array.getD_eq_getD_getElem?, s99, z0]
                · exact Below.refl _ _
                · exact (fun _ _ => rfl)
              case o5 =>
                intro a w hfr hG hd
                refine ⟨fun hw => ?_, fun hw => absurd hw (by simp [Region.wanted])⟩
                have s7 : a.tmps.getD 7 undef = .slice (some ad2) n c := hfr.at 7 (by kernel_rfl)
                refine op_yields (.slice (some ad2) n c) ?_ ?_ ?_
                · simp only [execOp, resolve, List.map_toArray, List.map_cons, List.map_nil, Act.eval, s7]; simp [go_sem, -Array.getD_eq_getD_getElem?, s7]
                · exact Below.refl _ _
                · exact (fun _ _ => rfl)
              case o6 =>
                intro a w hfr hG hd
                refine ⟨fun hw => ?_, fun hw => absurd hw (by simp [Region.wanted])⟩
                have s16 : a.tmps.getD 16 undef = .int .i64 i := hfr.at 16 (by kernel_rfl)
                refine op_yields (.int .i64 i) ?_ ?_ ?_
                · simp only [execOp, resolve, List.map_toArray, List.map_cons, List.map_nil, Act.eval, s16]; simp [go_sem, -Array.getD_eq_getD_getElem?, s16]
                · exact Below.refl _ _
                · exact (fun _ _ => rfl)
              case o7 =>
                intro a w hfr hG hd
                obtain ⟨d0, d1, _⟩ := hd
                refine ⟨fun hw => ?_, fun hw => absurd hw (by simp [Region.wanted])⟩
                have s101 : a.tmps.getD 101 undef = .slice (some ad2) n c := (d0 rfl).now
                have s102 : a.tmps.getD 102 undef = .int .i64 i := (d1 rfl).now
                refine op_yields (.pointer (some (ad2.add (i * 4)))) ?_ ?_ ?_
                · simp only [execOp, resolve, List.map_toArray, List.map_cons, List.map_nil, Act.eval, s101, s102]; simp [go_sem, -Array.getD_eq_getD_getElem?, s101, s102, hge0, hini]
                · exact Below.refl _ _
                · exact (fun _ _ => rfl)
              case o8 =>
                intro a w hfr hG hd
                obtain ⟨d0, _⟩ := hd
                refine ⟨fun hw => ?_, fun hw => absurd hw (by simp [Region.wanted])⟩
                have s103 : a.tmps.getD 103 undef = .pointer (some (ad2.add (i * 4))) := (d0 rfl).now
                refine op_yields (.pointer (some (ad2.add (i * 4)))) ?_ ?_ ?_
                · simp only [execOp, resolve, List.map_toArray, List.map_cons, List.map_nil, Act.eval, s103]; simp [go_sem, -Array.getD_eq_getD_getElem?, s103]
                · exact Below.refl _ _
                · exact (fun _ _ => rfl)
              case o9 =>
                intro a w hfr hG hd
                obtain ⟨d0, _⟩ := hd
                refine ⟨fun hw => ?_, fun hw => absurd hw (by simp [Region.wanted])⟩
                have s104 : a.tmps.getD 104 undef = .pointer (some (ad2.add (i * 4))) := (d0 rfl).now
                obtain ⟨z0, z1, z2, z3⟩ := HC2.out w hG.now.2.1
                refine op_yields (.int .i64 kd) ?_ ?_ ?_
                · simp only [execOp, resolve, List.map_toArray, List.map_cons, List.map_nil, Act.eval, s104]; simp [go_sem, -Array.getD_eq_getD_getElem?, s104, z0]
                · exact Below.refl _ _
                · exact (fun _ _ => rfl)
              case o10 =>
                intro a w hfr hG hd
                obtain ⟨d0, d1, _⟩ := hd
                refine ⟨fun hw => ?_, fun hw => absurd hw (by simp [Region.wanted])⟩
                have s100 : a.tmps.getD 100 undef = .int .i64 kd := (d0 rfl).now
                have s105 : a.tmps.getD 105 undef = .int .i64 kd := (d1 rfl).now
                refine op_yields (.bool false) ?_ ?_ ?_
                · simp only [execOp, resolve, List.map_toArray, List.map_cons, List.map_nil, Act.eval, s100, s105]; simp [go_sem, -Array.getD_eq_getD_getElem?, s100, s105]
                · exact Below.refl _ _
                · exact (fun _ _ => rfl)
              case o11 =>
                intro a w hfr hG hd
                obtain ⟨d0, _⟩ := hd
                refine ⟨fun hw => ?_, fun hw => absurd hw (by simp [Region.wanted])⟩
                have s106 : a.tmps.getD 106 undef = .bool false := (d0 rfl).now
                refine op_yields (.bool false) ?_ ?_ ?_
                · simp only [execOp, resolve, List.map_toArray, List.map_cons, List.map_nil, Act.eval, s106]; simp [go_sem, -Array.getD_eq_getD_getElem?, s106]
                · exact Below.refl _ _
                · exact (fun _ _ => rfl)
              case o12 =>
                intro a w hfr hG hd
                obtain ⟨d0, _⟩ := hd
                have sg : a.tmps.getD 107 undef = .bool false := (d0 rfl).now
                refine ⟨fun hw => ?_, fun hw => by rw [wanted_of rfl (yielded_of rfl sg)] at hw; exact absurd hw (by decide)⟩
                have s13 : a.tmps.getD 13 undef = .slice (some ad) n c6 := hfr.at 13 (by kernel_rfl)
                refine op_yields (.slice (some ad) n c6) ?_ ?_ ?_
                · simp only [execOp, resolve, List.map_toArray, List.map_cons, List.map_nil, Act.eval, s13]; simp [go_sem, -Array.getD_eq_getD_getElem?, s13]
                · exact Below.refl _ _
                · exact (fun _ _ => rfl)
              case o13 =>
                intro a w hfr hG hd
                obtain ⟨d0, _⟩ := hd
                have sg : a.tmps.getD 107 undef = .bool false := (d0 rfl).now
                refine ⟨fun hw => ?_, fun hw => by rw [wanted_of rfl (yielded_of rfl sg)] at hw; exact absurd hw (by decide)⟩
                have s16 : a.tmps.getD 16 undef = .int .i64 i := hfr.at 16 (by kernel_rfl)
                refine op_yields (.int .i64 i) ?_ ?_ ?_
                · simp only [execOp, resolve, List.map_toArray, List.map_cons, List.map_nil, Act.eval, s16]; simp [go_sem, -Array.getD_eq_getD_getElem?, s16]
                · exact Below.refl _ _
                · exact (fun _ _ => rfl)
              case o14 =>
                intro a w hfr hG hd
                obtain ⟨d0, d1, d2, _⟩ := hd
                have sg : a.tmps.getD 107 undef = .bool false := (d2 rfl).now
                refine ⟨fun hw => ?_, fun hw => by rw [wanted_of rfl (yielded_of rfl sg)] at hw; exact absurd hw (by decide)⟩
                have s108 : a.tmps.getD 108 undef = .slice (some ad) n c6 := (d0 rfl).now
                have s109 : a.tmps.getD 109 undef = .int .i64 i := (d1 rfl).now
                refine op_yields (.pointer (some (ad.add (i * 4)))) ?_ ?_ ?_
                · simp only [execOp, resolve, List.map_toArray, List.map_cons, List.map_nil, Act.eval, s108, s109]; simp [go_sem, -Array.getD_eq_getD_getElem?, s108, s109, hge0, hini]
                · exact Below.refl _ _
                · exact (fun _ _ => rfl)
              case o15 =>
                intro a w hfr hG hd
                obtain ⟨d0, d1, _⟩ := hd
                have sg : a.tmps.getD 107 undef = .bool false := (d1 rfl).now
                refine ⟨fun hw => ?_, fun hw => by rw [wanted_of rfl (yielded_of rfl sg)] at hw; exact absurd hw (by decide)⟩
                have s110 : a.tmps.getD 110 undef = .pointer (some (ad.add (i * 4))) := (d0 rfl).now
                refine op_yields (.pointer (some ⟨(ad.add (i * 4)).block, (ad.add (i * 4)).off + 1, none⟩)) ?_ ?_ ?_
                · simp only [execOp, resolve, List.map_toArray, List.map_cons, List.map_nil, Act.eval, s110]; simp [go_sem, -Array.getD_eq_getD_getElem?, s110]
                · exact Below.refl _ _
                · exact (fun _ _ => rfl)
              case o16 =>
                intro a w hfr hG hd
                obtain ⟨d0, d1, _⟩ := hd
                have sg : a.tmps.getD 107 undef = .bool false := (d1 rfl).now
                refine ⟨fun hw => ?_, fun hw => by rw [wanted_of rfl (yielded_of rfl sg)] at hw; exact absurd hw (by decide)⟩
                have s111 : a.tmps.getD 111 undef = .pointer (some ⟨(ad.add (i * 4)).block, (ad.add (i * 4)).off + 1, none⟩) := (d0 rfl).now
                obtain ⟨z0, z1, z2, z3⟩ := HC1.out w hG.now.1
                refine op_yields (.int .i64 nn) ?_ ?_ ?_
                · simp only [execOp, resolve, List.map_toArray, List.map_cons, List.map_nil, Act.eval, s111]; simp [go_sem, -Array.getD_eq_getD_getElem?, s111, z1]
                · exact Below.refl _ _
                · exact (fun _ _ => rfl)
              case o17 =>
                intro a w hfr hG hd
                obtain ⟨d0, _⟩ := hd
                have sg : a.tmps.getD 107 undef = .bool false := (d0 rfl).now
                refine ⟨fun hw => ?_, fun hw => by rw [wanted_of rfl (yielded_of rfl sg)] at hw; exact absurd hw (by decide)⟩
                have s7 : a.tmps.getD 7 undef = .slice (some ad2) n c := hfr.at 7 (by kernel_rfl)
                refine op_yields (.slice (some ad2) n c) ?_ ?_ ?_
                · simp only [execOp, resolve, List.map_toArray, List.map_cons, List.map_nil, Act.eval, s7]; simp [go_sem, -Array.getD_eq_getD_getElem?, s7]
                · exact Below.refl _ _
                · exact (fun _ _ => rfl)
              case o18 =>
                intro a w hfr hG hd
                obtain ⟨d0, _⟩ := hd
                have sg : a.tmps.getD 107 undef = .bool false := (d0 rfl).now
                refine ⟨fun hw => ?_, fun hw => by rw [wanted_of rfl (yielded_of rfl sg)] at hw; exact absurd hw (by decide)⟩
                have s16 : a.tmps.getD 16 undef = .int .i64 i := hfr.at 16 (by kernel_rfl)
                refine op_yields (.int .i64 i) ?_ ?_ ?_
                · simp only [execOp, resolve, List.map_toArray, List.map_cons, List.map_nil, Act.eval, s16]; simp [go_sem, -Array.getD_eq_getD_getElem?, s16]
                · exact Below.refl _ _
                · exact (fun _ _ => rfl)
              case o19 =>
                intro a w hfr hG hd
                obtain ⟨d0, d1, d2, _⟩ := hd
                have sg : a.tmps.getD 107 undef = .bool false := (d2 rfl).now
                refine ⟨fun hw => ?_, fun hw => by rw [wanted_of rfl (yielded_of rfl sg)] at hw; exact absurd hw (by decide)⟩
                have s113 : a.tmps.getD 113 undef = .slice (some ad2) n c := (d0 rfl).now
                have s114 : a.tmps.getD 114 undef = .int .i64 i := (d1 rfl).now
                refine op_yields (.pointer (some (ad2.add (i * 4)))) ?_ ?_ ?_
                · simp only [execOp, resolve, List.map_toArray, List.map_cons, List.map_nil, Act.eval, s113, s114]; simp [go_sem, -Array.getD_eq_getD_getElem?, s113, s114, hge0, hini]
                · exact Below.refl _ _
                · exact (fun _ _ => rfl)
              case o20 =>
                intro a w hfr hG hd
                obtain ⟨d0, d1, _⟩ := hd
                have sg : a.tmps.getD 107 undef = .bool false := (d1 rfl).now
                refine ⟨fun hw => ?_, fun hw => by rw [wanted_of rfl (yielded_of rfl sg)] at hw; exact absurd hw (by decide)⟩
                have s115 : a.tmps.getD 115 undef = .pointer (some (ad2.add (i * 4))) := (d0 rfl).now
                refine op_yields (.pointer (some ⟨(ad2.add (i * 4)).block, (ad2.add (i * 4)).off + 1, none⟩)) ?_ ?_ ?_
                · simp only [execOp, resolve, List.map_toArray, List.map_cons, List.map_nil, Act.eval, s115]; simp [go_sem, -Array.getD_eq_getD_getElem?, s115]
                · exact Below.refl _ _
                · exact (fun _ _ => rfl)
              case o21 =>
                intro a w hfr hG hd
                obtain ⟨d0, d1, _⟩ := hd
                have sg : a.tmps.getD 107 undef = .bool false := (d1 rfl).now
                refine ⟨fun hw => ?_, fun hw => by rw [wanted_of rfl (yielded_of rfl sg)] at hw; exact absurd hw (by decide)⟩
                have s116 : a.tmps.getD 116 undef = .pointer (some ⟨(ad2.add (i * 4)).block, (ad2.add (i * 4)).off + 1, none⟩) := (d0 rfl).now
                obtain ⟨z0, z1, z2, z3⟩ := HC2.out w hG.now.2.1
                refine op_yields (.int .i64 nn) ?_ ?_ ?_
                · simp only [execOp, resolve, List.map_toArray, List.map_cons, List.map_nil, Act.eval, s116]; simp [go_sem, -Array.getD_eq_getD_getElem?, s116, z1]
                · exact Below.refl _ _
                · exact (fun _ _ => rfl)
              case o22 =>
                intro a w hfr hG hd
                obtain ⟨d0, d1, d2, _⟩ := hd
                have sg : a.tmps.getD 107 undef = .bool false := (d2 rfl).now
                refine ⟨fun hw => ?_, fun hw => by rw [wanted_of rfl (yielded_of rfl sg)] at hw; exact absurd hw (by decide)⟩
                have s112 : a.tmps.getD 112 undef = .int .i64 nn := (d0 rfl).now
                have s117 : a.tmps.getD 117 undef = .int .i64 nn := (d1 rfl).now
                refine op_yields (.bool false) ?_ ?_ ?_
                · simp only [execOp, resolve, List.map_toArray, List.map_cons, List.map_nil, Act.eval, s112, s117]; simp [go_sem, -Array.getD_eq_getD_getElem?, s112, s117]
                · exact Below.refl _ _
                · exact (fun _ _ => rfl)
              case o23 =>
                intro a w hfr hG hd
                obtain ⟨d0, d1, _⟩ := hd
                refine ⟨fun hw => ?_, fun hw => absurd hw (by simp [Region.wanted])⟩
                have s107 : a.tmps.getD 107 undef = .bool false := (d0 rfl).now
                have s118 : a.tmps.getD 118 undef = .bool false := (d1 rfl).now
                refine op_yields (.bool false) ?_ ?_ ?_
                · simp only [execOp, resolve, List.map_toArray, List.map_cons, List.map_nil, Act.eval, s107, s118]; simp [go_sem, -Array.getD_eq_getD_getElem?, s107, s118]
                · exact Below.refl _ _
                · exact (fun _ _ => rfl)
              case o24 =>
                intro a w hfr hG hd
                obtain ⟨d0, d1, _⟩ := hd
                refine ⟨fun hw => ?_, fun hw => absurd hw (by simp [Region.wanted])⟩
                have s119 : a.tmps.getD 119 undef = .bool false := (d0 rfl).now
                refine op_yields (.bool false) ?_ ?_ ?_
                · simp only [execOp, resolve, List.map_toArray, List.map_cons, List.map_nil, Act.eval, s119]; simp [go_sem, -Array.getD_eq_getD_getElem?, s119]
                · exact Below.refl _ _
                · exact (fun _ _ => rfl)
              case o25 =>
                intro a w hfr hG hd
                obtain ⟨d0, _⟩ := hd
                have sg : a.tmps.getD 120 undef = .bool false := (d0 rfl).now
                refine ⟨fun hw => ?_, fun hw => by rw [wanted_of rfl (yielded_of rfl sg)] at hw; exact absurd hw (by decide)⟩
                have s13 : a.tmps.getD 13 undef = .slice (some ad) n c6 := hfr.at 13 (by kernel_rfl)
                refine op_yields (.slice (some ad) n c6) ?_ ?_ ?_
                · simp only [execOp, resolve, List.map_toArray, List.map_cons, List.map_nil, Act.eval, s13]; simp [go_sem, -Array.getD_eq_getD_getElem?, s13]
                · exact Below.refl _ _
                · exact (fun _ _ => rfl)
              case o26 =>
                intro a w hfr hG hd
                obtain ⟨d0, _⟩ := hd
                have sg : a.tmps.getD 120 undef = .bool false := (d0 rfl).now
                refine ⟨fun hw => ?_, fun hw => by rw [wanted_of rfl (yielded_of rfl sg)] at hw; exact absurd hw (by decide)⟩
                have s16 : a.tmps.getD 16 undef = .int .i64 i := hfr.at 16 (by kernel_rfl)
                refine op_yields (.int .i64 i) ?_ ?_ ?_
                · simp only [execOp, resolve, List.map_toArray, List.map_cons, List.map_nil, Act.eval, s16]; simp [go_sem, -Array.getD_eq_getD_getElem?, s16]
                · exact Below.refl _ _
                · exact (fun _ _ => rfl)
              case o27 =>
                intro a w hfr hG hd
                obtain ⟨d0, d1, d2, _⟩ := hd
                have sg : a.tmps.getD 120 undef = .bool false := (d2 rfl).now
                refine ⟨fun hw => ?_, fun hw => by rw [wanted_of rfl (yielded_of rfl sg)] at hw; exact absurd hw (by decide)⟩
                have s121 : a.tmps.getD 121 undef = .slice (some ad) n c6 := (d0 rfl).now
                have s122 : a.tmps.getD 122 undef = .int .i64 i := (d1 rfl).now
                refine op_yields (.pointer (some (ad.add (i * 4)))) ?_ ?_ ?_
                · simp only [execOp, resolve, List.map_toArray, List.map_cons, List.map_nil, Act.eval, s121, s122]; simp [go_sem, -Array.getD_eq_getD_getElem?, s121, s122, hge0, hini]
                · exact Below.refl _ _
                · exact (fun _ _ => rfl)
              case o28 =>
                intro a w hfr hG hd
                obtain ⟨d0, d1, _⟩ := hd
                have sg : a.tmps.getD 120 undef = .bool false := (d1 rfl).now
                refine ⟨fun hw => ?_, fun hw => by rw [wanted_of rfl (yielded_of rfl sg)] at hw; exact absurd hw (by decide)⟩
                have s123 : a.tmps.getD 123 undef = .pointer (some (ad.add (i * 4))) := (d0 rfl).now
                refine op_yields (.pointer (some ⟨(ad.add (i * 4)).block, (ad.add (i * 4)).off + 3, none⟩)) ?_ ?_ ?_
                · simp only [execOp, resolve, List.map_toArray, List.map_cons, List.map_nil, Act.eval, s123]; simp [go_sem, -Array.getD_eq_getD_getElem?, s123]
                · exact Below.refl _ _
                · exact (fun _ _ => rfl)
              case o29 =>
                intro a w hfr hG hd
                obtain ⟨d0, d1, _⟩ := hd
                have sg : a.tmps.getD 120 undef = .bool false := (d1 rfl).now
                refine ⟨fun hw => ?_, fun hw => by rw [wanted_of rfl (yielded_of rfl sg)] at hw; exact absurd hw (by decide)⟩
                have s124 : a.tmps.getD 124 undef = .pointer (some ⟨(ad.add (i * 4)).block, (ad.add (i * 4)).off + 3, none⟩) := (d0 rfl).now
                obtain ⟨z0, z1, z2, z3⟩ := HC1.out w hG.now.1
                refine op_yields (.string tx) ?_ ?_ ?_
                · simp only [execOp, resolve, List.map_toArray, List.map_cons, List.map_nil, Act.eval, s124]; simp [go_sem, -Array.getD_eq_getD_getElem?, s124, z3]
                · exact Below.refl _ _
                · exact (fun _ _ => rfl)
              case o30 =>
                intro a w hfr hG hd
                obtain ⟨d0, _⟩ := hd
                have sg : a.tmps.getD 120 undef = .bool false := (d0 rfl).now
                refine ⟨fun hw => ?_, fun hw => by rw [wanted_of rfl (yielded_of rfl sg)] at hw; exact absurd hw (by decide)⟩
                have s7 : a.tmps.getD 7 undef = .slice (some ad2) n c := hfr.at 7 (by kernel_rfl)
                refine op_yields (.slice (some ad2) n c) ?_ ?_ ?_
                · simp only [execOp, resolve, List.map_toArray, List.map_cons, List.map_nil, Act.eval, s7]; simp [go_sem, -Array.getD_eq_getD_getElem?, s7]
                · exact Below.refl _ _
                · exact (fun _ _ => rfl)
              case o31 =>
                intro a w hfr hG hd
                obtain ⟨d0, _⟩ := hd
                have sg : a.tmps.getD 120 undef = .bool false := (d0 rfl).now
                refine ⟨fun hw => ?_, fun hw => by rw [wanted_of rfl (yielded_of rfl sg)] at hw; exact absurd hw (by decide)⟩
                have s16 : a.tmps.getD 16 undef = .int .i64 i := hfr.at 16 (by kernel_rfl)
                refine op_yields (.int .i64 i) ?_ ?_ ?_
                · simp only [execOp, resolve, List.map_toArray, List.map_cons, List.map_nil, Act.eval, s16]; simp [go_sem, -Array.getD_eq_getD_getElem?, s16]
                · exact Below.refl _ _
                · exact (fun _ _ => rfl)
              case o32 =>
                intro a w hfr hG hd
                obtain ⟨d0, d1, d2, _⟩ := hd
                have sg : a.tmps.getD 120 undef = .bool false := (d2 rfl).now
                refine ⟨fun hw => ?_, fun hw => by rw [wanted_of rfl (yielded_of rfl sg)] at hw; exact absurd hw (by decide)⟩
                have s126 : a.tmps.getD 126 undef = .slice (some ad2) n c := (d0 rfl).now
                have s127 : a.tmps.getD 127 undef = .int .i64 i := (d1 rfl).now
                refine op_yields (.pointer (some (ad2.add (i * 4)))) ?_ ?_ ?_
                · simp only [execOp, resolve, List.map_toArray, List.map_cons, List.map_nil, Act.eval, s126, s127]; simp [go_sem, -Array.getD_eq_getD_getElem?, s126, s127, hge0, hini]
                · exact Below.refl _ _
                · exact (fun _ _ => rfl)
              case o33 =>
                intro a w hfr hG hd
                obtain ⟨d0, d1, _⟩ := hd
                have sg : a.tmps.getD 120 undef = .bool false := (d1 rfl).now
                refine ⟨fun hw => ?_, fun hw => by rw [wanted_of rfl (yielded_of rfl sg)] at hw; exact absurd hw (by decide)⟩
                have s128 : a.tmps.getD 128 undef = .pointer (some (ad2.add (i * 4))) := (d0 rfl).now
                refine op_yields (.pointer (some ⟨(ad2.add (i * 4)).block, (ad2.add (i * 4)).off + 3, none⟩)) ?_ ?_ ?_
                · simp only [execOp, resolve, List.map_toArray, List.map_cons, List.map_nil, Act.eval, s128]; simp [go_sem, -Array.getD_eq_getD_getElem?, s128]
                · exact Below.refl _ _
                · exact (fun _ _ => rfl)
              case o34 =>
                intro a w hfr hG hd
                obtain ⟨d0, d1, _⟩ := hd
                have sg : a.tmps.getD 120 undef = .bool false := (d1 rfl).now
                refine ⟨fun hw => ?_, fun hw => by rw [wanted_of rfl (yielded_of rfl sg)] at hw; exact absurd hw (by decide)⟩
                have s129 : a.tmps.getD 129 undef = .pointer (some ⟨(ad2.add (i * 4)).block, (ad2.add (i * 4)).off + 3, none⟩) := (d0 rfl).now
                obtain ⟨z0, z1, z2, z3⟩ := HC2.out w hG.now.2.1
                refine op_yields (.string tx) ?_ ?_ ?_
                · simp only [execOp, resolve, List.map_toArray, List.map_cons, List.map_nil, Act.eval, s129]; simp [go_sem, -Array.getD_eq_getD_getElem?, s129, z3]
                · exact Below.refl _ _
                · exact (fun _ _ => rfl)
              case o35 =>
                intro a w hfr hG hd
                obtain ⟨d0, d1, d2, _⟩ := hd
                have sg : a.tmps.getD 120 undef = .bool false := (d2 rfl).now
                refine ⟨fun hw => ?_, fun hw => by rw [wanted_of rfl (yielded_of rfl sg)] at hw; exact absurd hw (by decide)⟩
                have s125 : a.tmps.getD 125 undef = .string tx := (d0 rfl).now
                have s130 : a.tmps.getD 130 undef = .string tx := (d1 rfl).now
                refine op_yields (.bool false) ?_ ?_ ?_
                · simp only [execOp, resolve, List.map_toArray, List.map_cons, List.map_nil, Act.eval, s125, s130]; simp [go_sem, -Array.getD_eq_getD_getElem?, s125, s130]
                · exact Below.refl _ _
                · exact (fun _ _ => rfl)
              case o36 =>
                intro a w hfr hG hd
                obtain ⟨d0, d1, _⟩ := hd
                refine ⟨fun hw => ?_, fun hw => absurd hw (by simp [Region.wanted])⟩
                have s120 : a.tmps.getD 120 undef = .bool false := (d0 rfl).now
                have s131 : a.tmps.getD 131 undef = .bool false := (d1 rfl).now
                refine op_yields (.bool false) ?_ ?_ ?_
                · simp only [execOp, resolve, List.map_toArray, List.map_cons, List.map_nil, Act.eval, s120, s131]; simp [go_sem, -Array.getD_eq_getD_getElem?, s120, s131]
                · exact Below.refl _ _
                · exact (fun _ _ => rfl)
              case o37 =>
                intro a w hfr hG hd
                obtain ⟨d0, d1, _⟩ := hd
                refine ⟨fun hw => ?_, fun hw => absurd hw (by simp [Region.wanted])⟩
                have s132 : a.tmps.getD 132 undef = .bool false := (d0 rfl).now
                refine op_yields (.bool false) ?_ ?_ ?_
                · simp only [execOp, resolve, List.map_toArray, List.map_cons, List.map_nil, Act.eval, s132]; simp [go_sem, -Array.getD_eq_getD_getElem?, s132]
                · exact Below.refl _ _
                · exact (fun _ _ => rfl)
              case o38 =>
                intro a w hfr hG hd
                obtain ⟨d0, _⟩ := hd
                have sg : a.tmps.getD 133 undef = .bool false := (d0 rfl).now
                refine ⟨fun hw => ?_, fun hw => by rw [wanted_of rfl (yielded_of rfl sg)] at hw; exact absurd hw (by decide)⟩
                have s16 : a.tmps.getD 16 undef = .int .i64 i := hfr.at 16 (by kernel_rfl)
                refine op_yields (.int .i64 i) ?_ ?_ ?_
                · simp only [execOp, resolve, List.map_toArray, List.map_cons, List.map_nil, Act.eval, s16]; simp [go_sem, -Array.getD_eq_getD_getElem?, s16]
                · exact Below.refl _ _
                · exact (fun _ _ => rfl)
              case o39 =>
                intro a w hfr hG hd
                obtain ⟨d0, d1, _⟩ := hd
                have sg : a.tmps.getD 133 undef = .bool false := (d1 rfl).now
                refine ⟨fun hw => ?_, fun hw => by rw [wanted_of rfl (yielded_of rfl sg)] at hw; exact absurd hw (by decide)⟩
                have s134 : a.tmps.getD 134 undef = .int .i64 i := (d0 rfl).now
                refine op_yields (.bool true) ?_ ?_ ?_
                · simp only [execOp, resolve, List.map_toArray, List.map_cons, List.map_nil, Act.eval, s134]; simp [go_sem, -Array.getD_eq_getD_getElem?, s134, hip, hip2]
                · exact Below.refl _ _
                · exact (fun _ _ => rfl)
              case o40 =>
                intro a w hfr hG hd
                obtain ⟨d0, d1, d2, _⟩ := hd
                have sg : a.tmps.getD 133 undef = .bool false := (d1 rfl).now
                refine ⟨fun hw => ?_, fun hw => by rw [wanted_of rfl (yielded_of rfl sg)] at hw; exact absurd hw (by decide)⟩
                have s135 : a.tmps.getD 135 undef = .bool true := (d0 rfl).now
                refine op_yields (.bool true) ?_ ?_ ?_
                · simp only [execOp, resolve, List.map_toArray, List.map_cons, List.map_nil, Act.eval, s135]; simp [go_sem, -Array.getD_eq_getD_getElem?, s135]
                · exact Below.refl _ _
                · exact (fun _ _ => rfl)
              case o41 =>
                intro a w hfr hG hd
                obtain ⟨d0, _⟩ := hd
                have sg : a.tmps.getD 136 undef = .bool true := (d0 rfl).now
                refine ⟨fun hw => ?_, fun hw => by rw [wanted_of rfl (yielded_of rfl sg)] at hw; exact absurd hw (by decide)⟩
                have s13 : a.tmps.getD 13 undef = .slice (some ad) n c6 := hfr.at 13 (by kernel_rfl)
                refine op_yields (.slice (some ad) n c6) ?_ ?_ ?_
                · simp only [execOp, resolve, List.map_toArray, List.map_cons, List.map_nil, Act.eval, s13]; simp [go_sem, -Array.getD_eq_getD_getElem?, s13]
                · exact Below.refl _ _
                · exact (fun _ _ => rfl)
              case o42 =>
                intro a w hfr hG hd
                obtain ⟨d0, _⟩ := hd
                have sg : a.tmps.getD 136 undef = .bool true := (d0 rfl).now
                refine ⟨fun hw => ?_, fun hw => by rw [wanted_of rfl (yielded_of rfl sg)] at hw; exact absurd hw (by decide)⟩
                have s16 : a.tmps.getD 16 undef = .int .i64 i := hfr.at 16 (by kernel_rfl)
                refine op_yields (.int .i64 i) ?_ ?_ ?_
                · simp only [execOp, resolve, List.map_toArray, List.map_cons, List.map_nil, Act.eval, s16]; simp [go_sem, -Array.getD_eq_getD_getElem?, s16]
                · exact Below.refl _ _
                · exact (fun _ _ => rfl)
              case o43 =>
                intro a w hfr hG hd
                obtain ⟨d0, d1, _⟩ := hd
                have sg : a.tmps.getD 136 undef = .bool true := (d1 rfl).now
                refine ⟨fun hw => ?_, fun hw => by rw [wanted_of rfl (yielded_of rfl sg)] at hw; exact absurd hw (by decide)⟩
                have s138 : a.tmps.getD 138 undef = .int .i64 i := (d0 rfl).now
                refine op_yields (.int .i64 j) ?_ ?_ ?_
                · simp only [execOp, resolve, List.map_toArray, List.map_cons, List.map_nil, Act.eval, s138]; simp [go_sem, -Array.getD_eq_getD_getElem?, s138, hij, hij2, hij3]
                · exact Below.refl _ _
                · exact (fun _ _ => rfl)
              case o44 =>
                intro a w hfr hG hd
                obtain ⟨d0, d1, d2, _⟩ := hd
                have sg : a.tmps.getD 136 undef = .bool true := (d2 rfl).now
                refine ⟨fun hw => ?_, fun hw => by rw [wanted_of rfl (yielded_of rfl sg)] at hw; exact absurd hw (by decide)⟩
                have s137 : a.tmps.getD 137 undef = .slice (some ad) n c6 := (d0 rfl).now
                have s139 : a.tmps.getD 139 undef = .int .i64 j := (d1 rfl).now
                refine op_yields (.pointer (some (ad.add (j * 4)))) ?_ ?_ ?_
                · simp only [execOp, resolve, List.map_toArray, List.map_cons, List.map_nil, Act.eval, s137, s139]; simp [go_sem, -Array.getD_eq_getD_getElem?, s137, s139, hj0, hjn]
                · exact Below.refl _ _
                · exact (fun _ _ => rfl)
              case o45 =>
                intro a w hfr hG hd
                obtain ⟨d0, d1, _⟩ := hd
                have sg : a.tmps.getD 136 undef = .bool true := (d1 rfl).now
                refine ⟨fun hw => ?_, fun hw => by rw [wanted_of rfl (yielded_of rfl sg)] at hw; exact absurd hw (by decide)⟩
                have s140 : a.tmps.getD 140 undef = .pointer (some (ad.add (j * 4))) := (d0 rfl).now
                refine op_yields (.pointer (some ⟨(ad.add (j * 4)).block, (ad.add (j * 4)).off + 2, none⟩)) ?_ ?_ ?_
                · simp only [execOp, resolve, List.map_toArray, List.map_cons, List.map_nil, Act.eval, s140]; simp [go_sem, -Array.getD_eq_getD_getElem?, s140]
                · exact Below.refl _ _
                · exact (fun _ _ => rfl)
              case o46 =>
                intro a w hfr hG hd
                obtain ⟨d0, d1, _⟩ := hd
                have sg : a.tmps.getD 136 undef = .bool true := (d1 rfl).now
                refine ⟨fun hw => ?_, fun hw => by rw [wanted_of rfl (yielded_of rfl sg)] at hw; exact absurd hw (by decide)⟩
                have s141 : a.tmps.getD 141 undef = .pointer (some ⟨(ad.add (j * 4)).block, (ad.add (j * 4)).off + 2, none⟩) := (d0 rfl).now
                have z2 := HC3.out w hG.now.1
                refine op_yields (.int .i64 aj) ?_ ?_ ?_
                · simp only [execOp, resolve, List.map_toArray, List.map_cons, List.map_nil, Act.eval, s141]; simp [go_sem, -Array.getD_eq_getD_getElem?, s141, z2]
                · exact Below.refl _ _
                · exact (fun _ _ => rfl)
              case o47 =>
                intro a w hfr hG hd
                obtain ⟨d0, _⟩ := hd
                have sg : a.tmps.getD 136 undef = .bool true := (d0 rfl).now
                refine ⟨fun hw => ?_, fun hw => by rw [wanted_of rfl (yielded_of rfl sg)] at hw; exact absurd hw (by decide)⟩
                have s13 : a.tmps.getD 13 undef = .slice (some ad) n c6 := hfr.at 13 (by kernel_rfl)
                refine op_yields (.slice (some ad) n c6) ?_ ?_ ?_
                · simp only [execOp, resolve, List.map_toArray, List.map_cons, List.map_nil, Act.eval, s13]; simp [go_sem, -Array.getD_eq_getD_getElem?, s13]
                · exact Below.refl _ _
                · exact (fun _ _ => rfl)
              case o48 =>
                intro a w hfr hG hd
                obtain ⟨d0, _⟩ := hd
                have sg : a.tmps.getD 136 undef = .bool true := (d0 rfl).now
                refine ⟨fun hw => ?_, fun hw => by rw [wanted_of rfl (yielded_of rfl sg)] at hw; exact absurd hw (by decide)⟩
                have s16 : a.tmps.getD 16 undef = .int .i64 i := hfr.at 16 (by kernel_rfl)
                refine op_yields (.int .i64 i) ?_ ?_ ?_
                · simp only [execOp, resolve, List.map_toArray, List.map_cons, List.map_nil, Act.eval, s16]; simp [go_sem, -Array.getD_eq_getD_getElem?, s16]
                · exact Below.refl _ _
                · exact (fun _ _ => rfl)
              case o49 =>
                intro a w hfr hG hd
                obtain ⟨d0, d1, d2, _⟩ := hd
                have sg : a.tmps.getD 136 undef = .bool true := (d2 rfl).now
                refine ⟨fun hw => ?_, fun hw => by rw [wanted_of rfl (yielded_of rfl sg)] at hw; exact absurd hw (by decide)⟩
                have s143 : a.tmps.getD 143 undef = .slice (some ad) n c6 := (d0 rfl).now
                have s144 : a.tmps.getD 144 undef = .int .i64 i := (d1 rfl).now
                refine op_yields (.pointer (some (ad.add (i * 4)))) ?_ ?_ ?_
                · simp only [execOp, resolve, List.map_toArray, List.map_cons, List.map_nil, Act.eval, s143, s144]; simp [go_sem, -Array.getD_eq_getD_getElem?, s143, s144, hge0, hini]
                · exact Below.refl _ _
                · exact (fun _ _ => rfl)
              case o50 =>
                intro a w hfr hG hd
                obtain ⟨d0, d1, _⟩ := hd
                have sg : a.tmps.getD 136 undef = .bool true := (d1 rfl).now
                refine ⟨fun hw => ?_, fun hw => by rw [wanted_of rfl (yielded_of rfl sg)] at hw; exact absurd hw (by decide)⟩
                have s145 : a.tmps.getD 145 undef = .pointer (some (ad.add (i * 4))) := (d0 rfl).now
                refine op_yields (.pointer (some ⟨(ad.add (i * 4)).block, (ad.add (i * 4)).off + 2, none⟩)) ?_ ?_ ?_
                · simp only [execOp, resolve, List.map_toArray, List.map_cons, List.map_nil, Act.eval, s145]; simp [go_sem, -Array.getD_eq_getD_getElem?, s145]
                · exact Below.refl _ _
                · exact (fun _ _ => rfl)
              case o51 =>
                intro a w hfr hG hd
                obtain ⟨d0, d1, _⟩ := hd
                have sg : a.tmps.getD 136 undef = .bool true := (d1 rfl).now
                refine ⟨fun hw => ?_, fun hw => by rw [wanted_of rfl (yielded_of rfl sg)] at hw; exact absurd hw (by decide)⟩
                have s146 : a.tmps.getD 146 undef = .pointer (some ⟨(ad.add (i * 4)).block, (ad.add (i * 4)).off + 2, none⟩) := (d0 rfl).now
                obtain ⟨z0, z1, z2, z3⟩ := HC1.out w hG.now.1
                refine op_yields (.int .i64 pa) ?_ ?_ ?_
                · simp only [execOp, resolve, List.map_toArray, List.map_cons, List.map_nil, Act.eval, s146]; simp [go_sem, -Array.getD_eq_getD_getElem?, s146, z2]
                · exact Below.refl _ _
                · exact (fun _ _ => rfl)
              case o52 =>
                intro a w hfr hG hd
                obtain ⟨d0, d1, d2, _⟩ := hd
                have sg : a.tmps.getD 136 undef = .bool true := (d2 rfl).now
                refine ⟨fun hw => ?_, fun hw => by rw [wanted_of rfl (yielded_of rfl sg)] at hw; exact absurd hw (by decide)⟩
                have s142 : a.tmps.getD 142 undef = .int .i64 aj := (d0 rfl).now
                have s147 : a.tmps.getD 147 undef = .int .i64 pa := (d1 rfl).now
                refine op_yields (.bool false) ?_ ?_ ?_
                · simp only [execOp, resolve, List.map_toArray, List.map_cons, List.map_nil, Act.eval, s142, s147]; simp [go_sem, -Array.getD_eq_getD_getElem?, s142, s147, hnj]
                · exact Below.refl _ _
                · exact (fun _ _ => rfl)
              case o53 =>
                intro a w hfr hG hd
                obtain ⟨d0, d1, d2, _⟩ := hd
                have sg : a.tmps.getD 133 undef = .bool false := (d2 rfl).now
                refine ⟨fun hw => ?_, fun hw => by rw [wanted_of rfl (yielded_of rfl sg)] at hw; exact absurd hw (by decide)⟩
                have s136 : a.tmps.getD 136 undef = .bool true := (d0 rfl).now
                have s148 : a.tmps.getD 148 undef = .bool false := (d1 rfl).now
                refine op_yields (.bool false) ?_ ?_ ?_
                · simp only [execOp, resolve, List.map_toArray, List.map_cons, List.map_nil, Act.eval, s136, s148]; simp [go_sem, -Array.getD_eq_getD_getElem?, s136, s148]
                · exact Below.refl _ _
                · exact (fun _ _ => rfl)
              case o54 =>
                intro a w hfr hG hd
                obtain ⟨d0, d1, _⟩ := hd
                refine ⟨fun hw => ?_, fun hw => absurd hw (by simp [Region.wanted])⟩
                have s133 : a.tmps.getD 133 undef = .bool false := (d0 rfl).now
                have s149 : a.tmps.getD 149 undef = .bool false := (d1 rfl).now
                refine op_yields (.bool false) ?_ ?_ ?_
                · simp only [execOp, resolve, List.map_toArray, List.map_cons, List.map_nil, Act.eval, s133, s149]; simp [go_sem, -Array.getD_eq_getD_getElem?, s133, s149]
                · exact Below.refl _ _
                · exact (fun _ _ => rfl)
              case o55 =>
                intro a w hfr hG hd
                obtain ⟨d0, d1, _⟩ := hd
                refine ⟨fun hw => ?_, fun hw => absurd hw (by simp [Region.wanted])⟩
                have s150 : a.tmps.getD 150 undef = .bool false := (d0 rfl).now
                refine op_yields (.bool false) ?_ ?_ ?_
                · simp only [execOp, resolve, List.map_toArray, List.map_cons, List.map_nil, Act.eval, s150]; simp [go_sem, -Array.getD_eq_getD_getElem?, s150]
                · exact Below.refl _ _
                · exact (fun _ _ => rfl)
              case o56 =>
                intro a w hfr hG hd
                obtain ⟨d0, _⟩ := hd
                have sg : a.tmps.getD 151 undef = .bool false := (d0 rfl).now
                refine ⟨fun hw => ?_, fun hw => by rw [wanted_of rfl (yielded_of rfl sg)] at hw; exact absurd hw (by decide)⟩
                have s13 : a.tmps.getD 13 undef = .slice (some ad) n c6 := hfr.at 13 (by kernel_rfl)
                refine op_yields (.slice (some ad) n c6) ?_ ?_ ?_
                · simp only [execOp, resolve, List.map_toArray, List.map_cons, List.map_nil, Act.eval, s13]; simp [go_sem, -Array.getD_eq_getD_getElem?, s13]
                · exact Below.refl _ _
                · exact (fun _ _ => rfl)
              case o57 =>
                intro a w hfr hG hd
                obtain ⟨d0, _⟩ := hd
                have sg : a.tmps.getD 151 undef = .bool false := (d0 rfl).now
                refine ⟨fun hw => ?_, fun hw => by rw [wanted_of rfl (yielded_of rfl sg)] at hw; exact absurd hw (by decide)⟩
                have s16 : a.tmps.getD 16 undef = .int .i64 i := hfr.at 16 (by kernel_rfl)
                refine op_yields (.int .i64 i) ?_ ?_ ?_
                · simp only [execOp, resolve, List.map_toArray, List.map_cons, List.map_nil, Act.eval, s16]; simp [go_sem, -Array.getD_eq_getD_getElem?, s16]
                · exact Below.refl _ _
                · exact (fun _ _ => rfl)
              case o58 =>
                intro a w hfr hG hd
                obtain ⟨d0, d1, d2, _⟩ := hd
                have sg : a.tmps.getD 151 undef = .bool false := (d2 rfl).now
                refine ⟨fun hw => ?_, fun hw => by rw [wanted_of rfl (yielded_of rfl sg)] at hw; exact absurd hw (by decide)⟩
                have s152 : a.tmps.getD 152 undef = .slice (some ad) n c6 := (d0 rfl).now
                have s153 : a.tmps.getD 153 undef = .int .i64 i := (d1 rfl).now
                refine op_yields (.pointer (some (ad.add (i * 4)))) ?_ ?_ ?_
                · simp only [execOp, resolve, List.map_toArray, List.map_cons, List.map_nil, Act.eval, s152, s153]; simp [go_sem, -Array.getD_eq_getD_getElem?, s152, s153, hge0, hini]
                · exact Below.refl _ _
                · exact (fun _ _ => rfl)
              case o59 =>
                intro a w hfr hG hd
                obtain ⟨d0, d1, _⟩ := hd
                have sg : a.tmps.getD 151 undef = .bool false := (d1 rfl).now
                refine ⟨fun hw => ?_, fun hw => by rw [wanted_of rfl (yielded_of rfl sg)] at hw; exact absurd hw (by decide)⟩
                have s154 : a.tmps.getD 154 undef = .pointer (some (ad.add (i * 4))) := (d0 rfl).now
                refine op_yields (.pointer (some ⟨(ad.add (i * 4)).block, (ad.add (i * 4)).off + 2, none⟩)) ?_ ?_ ?_
                · simp only [execOp, resolve, List.map_toArray, List.map_cons, List.map_nil, Act.eval, s154]; simp [go_sem, -Array.getD_eq_getD_getElem?, s154]
                · exact Below.refl _ _
                · exact (fun _ _ => rfl)
              case o60 =>
                intro a w hfr hG hd
                obtain ⟨d0, d1, _⟩ := hd
                have sg : a.tmps.getD 151 undef = .bool false := (d1 rfl).now
                refine ⟨fun hw => ?_, fun hw => by rw [wanted_of rfl (yielded_of rfl sg)] at hw; exact absurd hw (by decide)⟩
                have s155 : a.tmps.getD 155 undef = .pointer (some ⟨(ad.add (i * 4)).block, (ad.add (i * 4)).off + 2, none⟩) := (d0 rfl).now
                obtain ⟨z0, z1, z2, z3⟩ := HC1.out w hG.now.1
                refine op_yields (.int .i64 pa) ?_ ?_ ?_
                · simp only [execOp, resolve, List.map_toArray, List.map_cons, List.map_nil, Act.eval, s155]; simp [go_sem, -Array.getD_eq_getD_getElem?, s155, z2]
                · exact Below.refl _ _
                · exact (fun _ _ => rfl)
              case o61 =>
                intro a w hfr hG hd
                obtain ⟨d0, d1, _⟩ := hd
                have sg : a.tmps.getD 151 undef = .bool false := (d1 rfl).now
                refine ⟨fun hw => ?_, fun hw => by rw [wanted_of rfl (yielded_of rfl sg)] at hw; exact absurd hw (by decide)⟩
                have s156 : a.tmps.getD 156 undef = .int .i64 pa := (d0 rfl).now
                refine op_yields (.bool false) ?_ ?_ ?_
                · simp only [execOp, resolve, List.map_toArray, List.map_cons, List.map_nil, Act.eval, s156]; simp [go_sem, -Array.getD_eq_getD_getElem?, s156, hna]
                · exact Below.refl _ _
                · exact (fun _ _ => rfl)
              case o62 =>
                intro a w hfr hG hd
                obtain ⟨d0, d1, _⟩ := hd
                refine ⟨fun hw => ?_, fun hw => absurd hw (by simp [Region.wanted])⟩
                have s151 : a.tmps.getD 151 undef = .bool false := (d0 rfl).now
                have s157 : a.tmps.getD 157 undef = .bool false := (d1 rfl).now
                refine op_yields (.bool false) ?_ ?_ ?_
                · simp only [execOp, resolve, List.map_toArray, List.map_cons, List.map_nil, Act.eval, s151, s157]; simp [go_sem, -Array.getD_eq_getD_getElem?, s151, s157]
                · exact Below.refl _ _
                · exact (fun _ _ => rfl)
              case o63 =>
                intro a w hfr hG hd
                obtain ⟨d0, d1, _⟩ := hd
                refine ⟨fun hw => ?_, fun hw => absurd hw (by simp [Region.wanted])⟩
                have s158 : a.tmps.getD 158 undef = .bool false := (d0 rfl).now
                refine op_yields (.bool false) ?_ ?_ ?_
                · simp only [execOp, resolve, List.map_toArray, List.map_cons, List.map_nil, Act.eval, s158]; simp [go_sem, -Array.getD_eq_getD_getElem?, s158]
                · exact Below.refl _ _
                · exact (fun _ _ => rfl)
              case o64 =>
                intro a w hfr hG hd
                obtain ⟨d0, _⟩ := hd
                have sg : a.tmps.getD 159 undef = .bool false := (d0 rfl).now
                refine ⟨fun hw => ?_, fun hw => by rw [wanted_of rfl (yielded_of rfl sg)] at hw; exact absurd hw (by decide)⟩
                have s13 : a.tmps.getD 13 undef = .slice (some ad) n c6 := hfr.at 13 (by kernel_rfl)
                refine op_yields (.slice (some ad) n c6) ?_ ?_ ?_
                · simp only [execOp, resolve, List.map_toArray, List.map_cons, List.map_nil, Act.eval, s13]; simp [go_sem, -Array.getD_eq_getD_getElem?, s13]
                · exact Below.refl _ _
                · exact (fun _ _ => rfl)
              case o65 =>
                intro a w hfr hG hd
                obtain ⟨d0, _⟩ := hd
                have sg : a.tmps.getD 159 undef = .bool false := (d0 rfl).now
                refine ⟨fun hw => ?_, fun hw => by rw [wanted_of rfl (yielded_of rfl sg)] at hw; exact absurd hw (by decide)⟩
                have s16 : a.tmps.getD 16 undef = .int .i64 i := hfr.at 16 (by kernel_rfl)
                refine op_yields (.int .i64 i) ?_ ?_ ?_
                · simp only [execOp, resolve, List.map_toArray, List.map_cons, List.map_nil, Act.eval, s16]; simp [go_sem, -Array.getD_eq_getD_getElem?, s16]
                · exact Below.refl _ _
                · exact (fun _ _ => rfl)
              case o66 =>
                intro a w hfr hG hd
                obtain ⟨d0, d1, d2, _⟩ := hd
                have sg : a.tmps.getD 159 undef = .bool false := (d2 rfl).now
                refine ⟨fun hw => ?_, fun hw => by rw [wanted_of rfl (yielded_of rfl sg)] at hw; exact absurd hw (by decide)⟩
                have s160 : a.tmps.getD 160 undef = .slice (some ad) n c6 := (d0 rfl).now
                have s161 : a.tmps.getD 161 undef = .int .i64 i := (d1 rfl).now
                refine op_yields (.pointer (some (ad.add (i * 4)))) ?_ ?_ ?_
                · simp only [execOp, resolve, List.map_toArray, List.map_cons, List.map_nil, Act.eval, s160, s161]; simp [go_sem, -Array.getD_eq_getD_getElem?, s160, s161, hge0, hini]
                · exact Below.refl _ _
                · exact (fun _ _ => rfl)
              case o67 =>
                intro a w hfr hG hd
                obtain ⟨d0, d1, _⟩ := hd
                have sg : a.tmps.getD 159 undef = .bool false := (d1 rfl).now
                refine ⟨fun hw => ?_, fun hw => by rw [wanted_of rfl (yielded_of rfl sg)] at hw; exact absurd hw (by decide)⟩
                have s162 : a.tmps.getD 162 undef = .pointer (some (ad.add (i * 4))) := (d0 rfl).now
                refine op_yields (.pointer (some ⟨(ad.add (i * 4)).block, (ad.add (i * 4)).off + 2, none⟩)) ?_ ?_ ?_
                · simp only [execOp, resolve, List.map_toArray, List.map_cons, List.map_nil, Act.eval, s162]; simp [go_sem, -Array.getD_eq_getD_getElem?, s162]
                · exact Below.refl _ _
                · exact (fun _ _ => rfl)
              case o68 =>
                intro a w hfr hG hd
                obtain ⟨d0, d1, _⟩ := hd
                have sg : a.tmps.getD 159 undef = .bool false := (d1 rfl).now
                refine ⟨fun hw => ?_, fun hw => by rw [wanted_of rfl (yielded_of rfl sg)] at hw; exact absurd hw (by decide)⟩
                have s163 : a.tmps.getD 163 undef = .pointer (some ⟨(ad.add (i * 4)).block, (ad.add (i * 4)).off + 2, none⟩) := (d0 rfl).now
                obtain ⟨z0, z1, z2, z3⟩ := HC1.out w hG.now.1
                refine op_yields (.int .i64 pa) ?_ ?_ ?_
                · simp only [execOp, resolve, List.map_toArray, List.map_cons, List.map_nil, Act.eval, s163]; simp [go_sem, -Array.getD_eq_getD_getElem?, s163, z2]
                · exact Below.refl _ _
                · exact (fun _ _ => rfl)
              case o69 =>
                intro a w hfr hG hd
                obtain ⟨d0, _⟩ := hd
                have sg : a.tmps.getD 159 undef = .bool false := (d0 rfl).now
                refine ⟨fun hw => ?_, fun hw => by rw [wanted_of rfl (yielded_of rfl sg)] at hw; exact absurd hw (by decide)⟩
                have s12 : a.tmps.getD 12 undef = .string S := hfr.at 12 (by kernel_rfl)
                refine op_yields (.string S) ?_ ?_ ?_
                · simp only [execOp, resolve, List.map_toArray, List.map_cons, List.map_nil, Act.eval, s12]; simp [go_sem, -Array.getD_eq_getD_getElem?, s12]
                · exact Below.refl _ _
                · exact (fun _ _ => rfl)
              case o70 =>
                intro a w hfr hG hd
                obtain ⟨d0, d1, _⟩ := hd
                have sg : a.tmps.getD 159 undef = .bool false := (d1 rfl).now
                refine ⟨fun hw => ?_, fun hw => by rw [wanted_of rfl (yielded_of rfl sg)] at hw; exact absurd hw (by decide)⟩
                have s165 : a.tmps.getD 165 undef = .string S := (d0 rfl).now
                refine op_yields (.int .i64 S.size) ?_ ?_ ?_
                · simp only [execOp, resolve, List.map_toArray, List.map_cons, List.map_nil, Act.eval, s165]; simp [go_sem, -Array.getD_eq_getD_getElem?, s165]
                · exact Below.refl _ _
                · exact (fun _ _ => rfl)
              case o71 =>
                intro a w hfr hG hd
                obtain ⟨d0, d1, d2, _⟩ := hd
                have sg : a.tmps.getD 159 undef = .bool false := (d2 rfl).now
                refine ⟨fun hw => ?_, fun hw => by rw [wanted_of rfl (yielded_of rfl sg)] at hw; exact absurd hw (by decide)⟩
                have s164 : a.tmps.getD 164 undef = .int .i64 pa := (d0 rfl).now
                have s166 : a.tmps.getD 166 undef = .int .i64 S.size := (d1 rfl).now
                refine op_yields (.bool false) ?_ ?_ ?_
                · simp only [execOp, resolve, List.map_toArray, List.map_cons, List.map_nil, Act.eval, s164, s166]; simp [go_sem, -Array.getD_eq_getD_getElem?, s164, s166, hns, hns2]
                · exact Below.refl _ _
                · exact (fun _ _ => rfl)
              case o72 =>
                intro a w hfr hG hd
                obtain ⟨d0, d1, _⟩ := hd
                refine ⟨fun hw => ?_, fun hw => absurd hw (by simp [Region.wanted])⟩
                have s159 : a.tmps.getD 159 undef = .bool false := (d0 rfl).now
                have s167 : a.tmps.getD 167 undef = .bool false := (d1 rfl).now
                refine op_yields (.bool false) ?_ ?_ ?_
                · simp only [execOp, resolve, List.map_toArray, List.map_cons, List.map_nil, Act.eval, s159, s167]; simp [go_sem, -Array.getD_eq_getD_getElem?, s159, s167]
                · exact Below.refl _ _
                · exact (fun _ _ => rfl)
              case hG => exact fun w' hb => HLQ.out.below ((Below.refl _ _).drew.trans (hb.mono (by simp)))
              case hend =>
                intro vs w' hG hv
                have key : vs 72 = .bool false := by
                  obtain ⟨_, _, _, _, _, _, _, _, _, _, _, _, _, _, _, _, _, _, _, _, _, _, _, _, _, _, _, _, _, _, _, _, _, _, _, _, _, _, _, _, _, _, _, _, _, _, _, _, _, _, _, _, _, _, _, _, _, _, _, _, _, _, _, _, _, _, _, _, _, _, _, _, h72, _⟩ := hv
                  exact h72.now
                have HQ2 := Lib.hid hG.now
                clear hv hG HLQ HEX HPW HC1 HC2 HC3
                simp only [putAll, Act.put, key]
                clear key
                go_simp
                go_wp2_with fail
                go_meet
                exact ⟨rfl, HQ2.out⟩
          case rest =>
            obtain ⟨rfl, hcut⟩ := hcut
            have HQ := Lib.hid hcut
            clear hcut HLQ
            go_upto_region 23 with fail
            by_cases hk4 : kd = 4
            · obtain ⟨hx1, hx2⟩ := HEX.out hk4
              obtain ⟨q, hq⟩ : ∃ q, pa + tx.size = q := ⟨_, rfl⟩
              rw [hq] at hx1 hx2
              have hsum : (pa : Int) + tx.size = q := by omega
              have hSm : S.size ≤ 2000000 := HSB.out
              have hsum2 : IntKind.i64.wrap (q : Int) = (q : Int) := by rw [IntKind.wrap_i64]; omega
              have hsl1 : (pa : Int) ≤ q := by omega
              have hsl2 : (q : Int) ≤ S.size := by omega
              have hsl3 : pa ≤ q := by omega
              have hsl4 : q ≤ S.size := by omega
              have hsl0 := ha0
              have hexq := hx2
              have hq1 : ¬ S.size < q := by omega
              have hq2 : ¬ (S.size : Int) < q := by omega
              have HQQ := Lib.hid hq
              clear hq hx1 hx2
              refine wp_region_facts (R := fun a b => Below a.heap.size a b) (G := (fun W => LpAt B B' (some ad) us (some ad2) L n w W)) (V := fun i' u' W => match i' with | 0 => u' = .slice (some ad) n c6 | 1 => u' = .int .i64 i | 2 => u' = .pointer (some (ad.add (i * 4))) | 3 => u' = .pointer (some (ad.add (i * 4))) | 4 => u' = .int .i64 kd | 5 => u' = .bool true | 6 => u' = .bool true | 7 => u' = .slice (some ad) n c6 | 8 => u' = .int .i64 i | 9 => u' = .pointer (some (ad.add (i * 4))) | 10 => u' = .pointer (some ⟨(ad.add (i * 4)).block, (ad.add (i * 4)).off + 2, none⟩) | 11 => u' = .int .i64 pa | 12 => u' = .slice (some ad) n c6 | 13 => u' = .int .i64 i | 14 => u' = .pointer (some (ad.add (i * 4))) | 15 => u' = .pointer (some ⟨(ad.add (i * 4)).block, (ad.add (i * 4)).off + 3, none⟩) | 16 => u' = .string tx | 17 => u' = .int .i64 tx.size | 18 => u' = .int .i64 q | 19 => u' = .string S | 20 => u' = .int .i64 S.size | 21 => u' = .bool false | 22 => u' = .bool false | 23 => u' = .string S | 24 => u' = .slice (some ad) n c6 | 25 => u' = .int .i64 i | 26 => u' = .pointer (some (ad.add (i * 4))) | 27 => u' = .pointer (some ⟨(ad.add (i * 4)).block, (ad.add (i * 4)).off + 2, none⟩) | 28 => u' = .int .i64 pa | 29 => u' = .slice (some ad) n c6 | 30 => u' = .int .i64 i | 31 => u' = .pointer (some (ad.add (i * 4))) | 32 => u' = .pointer (some ⟨(ad.add (i * 4)).block, (ad.add (i * 4)).off + 2, none⟩) | 33 => u' = .int .i64 pa | 34 => u' = .slice (some ad) n c6 | 35 => u' = .int .i64 i | 36 => u' = .pointer (some (ad.add (i * 4))) | 37 => u' = .pointer (some ⟨(ad.add (i * 4)).block, (ad.add (i * 4)).off + 3, none⟩) | 38 => u' = .string tx | 39 => u' = .int .i64 tx.size | 40 => u' = .int .i64 q | 41 => u' = .string tx | 42 => u' = .slice (some ad) n c6 | 43 => u' = .int .i64 i | 44 => u' = .pointer (some (ad.add (i * 4))) | 45 => u' = .pointer (some ⟨(ad.add (i * 4)).block, (ad.add (i * 4)).off + 3, none⟩) | 46 => u' = .string tx | 47 => u' = .bool false | 48 => u' = .bool false | 49 => u' = .bool false | _ => True) (by kernel_rfl) (fun w => Below.refl _ _) (fun a b c h1 h2 => h1.trans (h2.mono h1.size)) (by kernel_rfl) (by kernel_rfl) ?hG ⟨?o0, ?o1, ?o2, ?o3, ?o4, ?o5, ?o6, ?o7, ?o8, ?o9, ?o10, ?o11, ?o12, ?o13, ?o14, ?o15, ?o16, ?o17, ?o18, ?o19, ?o20, ?o21, ?o22, ?o23, ?o24, ?o25, ?o26, ?o27, ?o28, ?o29, ?o30, ?o31, ?o32, ?o33, ?o34, ?o35, ?o36, ?o37, ?o38, ?o39, ?o40, ?o41, ?o42, ?o43, ?o44, ?o45, ?o46, ?o47, ?o48, ?o49, trivial⟩ ?hend
              case o0 =>
                intro a w hfr hG hd
                refine ⟨fun hw => ?_, fun hw => absurd hw (by simp [Region.wanted])⟩
                have s13 : a.tmps.getD 13 undef = .slice (some ad) n c6 := hfr.at 13 (by kernel_rfl)
                refine op_yields (.slice (some ad) n c6) ?_ ?_ ?_
                · simp only [execOp, resolve, List.map_toArray, List.map_cons, List.map_nil, Act.eval, s13]; simp [go_sem, -Array.getD_eq_getD_getElem?, s13]
                · exact Below.refl _ _
                · exact (fun _ _ => rfl)
              case o1 =>
                intro a w hfr hG hd
                refine ⟨fun hw => ?_, fun hw => absurd hw (by simp [Region.wanted])⟩
                have s16 : a.tmps.getD 16 undef = .int .i64 i := hfr.at 16 (by kernel_rfl)
                refine op_yields (.int .i64 i) ?_ ?_ ?_
                · simp only [execOp, resolve, List.map_toArray, List.map_cons, List.map_nil, Act.eval, s16]; simp [go_sem, -Array.getD_eq_getD_getElem?, s16]
                · exact Below.refl _ _
                · exact (fun _ _ => rfl)
              case o2 =>
                intro a w hfr hG hd
                obtain ⟨d0, d1, _⟩ := hd
                refine ⟨fun hw => ?_, fun hw => absurd hw (by simp [Region.wanted])⟩
                have s169 : a.tmps.getD 169 undef = .slice (some ad) n c6 := (d0 rfl).now
                have s170 : a.tmps.getD 170 undef = .int .i64 i := (d1 rfl).now
                refine op_yields (.pointer (some (ad.add (i * 4)))) ?_ ?_ ?_
                · simp only [execOp, resolve, List.map_toArray, List.map_cons, List.map_nil, Act.eval, s169, s170]; simp [go_sem, -Array.getD_eq_getD_getElem?, s169, s170, hge0, hini]
                · exact Below.refl _ _
                · exact (fun _ _ => rfl)
              case o3 =>
                intro a w hfr hG hd
                obtain ⟨d0, _⟩ := hd
                refine ⟨fun hw => ?_, fun hw => absurd hw (by simp [Region.wanted])⟩
                have s171 : a.tmps.getD 171 undef = .pointer (some (ad.add (i * 4))) := (d0 rfl).now
                refine op_yields (.pointer (some (ad.add (i * 4)))) ?_ ?_ ?_
                · simp only [execOp, resolve, List.map_toArray, List.map_cons, List.map_nil, Act.eval, s171]; simp [go_sem, -Array.getD_eq_getD_getElem?, s171]
                · exact Below.refl _ _
                · exact (fun _ _ => rfl)
              case o4 =>
                intro a w hfr hG hd
                obtain ⟨d0, _⟩ := hd
                refine ⟨fun hw => ?_, fun hw => absurd hw (by simp [Region.wanted])⟩
                have s172 : a.tmps.getD 172 undef = .pointer (some (ad.add (i * 4))) := (d0 rfl).now
                obtain ⟨z0, z1, z2, z3⟩ := HC1.out w hG.now.1
                refine op_yields (.int .i64 kd) ?_ ?_ ?_
                · simp only [execOp, resolve, List.map_toArray, List.map_cons, List.map_nil, Act.eval, s172]; simp [go_sem, -Array.getD_eq_getD_getElem?, s172, z0]
                · exact Below.refl _ _
                · exact (fun _ _ => rfl)
              case o5 =>
                intro a w hfr hG hd
                obtain ⟨d0, _⟩ := hd
                refine ⟨fun hw => ?_, fun hw => absurd hw (by simp [Region.wanted])⟩
                have s173 : a.tmps.getD 173 undef = .int .i64 kd := (d0 rfl).now
                refine op_yields (.bool true) ?_ ?_ ?_
                · simp only [execOp, resolve, List.map_toArray, List.map_cons, List.map_nil, Act.eval, s173]; simp [go_sem, -Array.getD_eq_getD_getElem?, s173, hk4]
                · exact Below.refl _ _
                · exact (fun _ _ => rfl)
              case o6 =>
                intro a w hfr hG hd
                obtain ⟨d0, _⟩ := hd
                refine ⟨fun hw => ?_, fun hw => absurd hw (by simp [Region.wanted])⟩
                have s174 : a.tmps.getD 174 undef = .bool true := (d0 rfl).now
                refine op_yields (.bool true) ?_ ?_ ?_
                · simp only [execOp, resolve, List.map_toArray, List.map_cons, List.map_nil, Act.eval, s174]; simp [go_sem, -Array.getD_eq_getD_getElem?, s174]
                · exact Below.refl _ _
                · exact (fun _ _ => rfl)
              case o7 =>
                intro a w hfr hG hd
                obtain ⟨d0, _⟩ := hd
                have sg : a.tmps.getD 175 undef = .bool true := (d0 rfl).now
                refine ⟨fun hw => ?_, fun hw => by rw [wanted_of rfl (yielded_of rfl sg)] at hw; exact absurd hw (by decide)⟩
                have s13 : a.tmps.getD 13 undef = .slice (some ad) n c6 := hfr.at 13 (by kernel_rfl)
                refine op_yields (.slice (some ad) n c6) ?_ ?_ ?_
                · simp only [execOp, resolve, List.map_toArray, List.map_cons, List.map_nil, Act.eval, s13]; simp [go_sem, -Array.getD_eq_getD_getElem?, s13]
                · exact Below.refl _ _
                · exact (fun _ _ => rfl)
              case o8 =>
                intro a w hfr hG hd
                obtain ⟨d0, _⟩ := hd
                have sg : a.tmps.getD 175 undef = .bool true := (d0 rfl).now
                refine ⟨fun hw => ?_, fun hw => by rw [wanted_of rfl (yielded_of rfl sg)] at hw; exact absurd hw (by decide)⟩
                have s16 : a.tmps.getD 16 undef = .int .i64 i := hfr.at 16 (by kernel_rfl)
                refine op_yields (.int .i64 i) ?_ ?_ ?_
                · simp only [execOp, resolve, List.map_toArray, List.map_cons, List.map_nil, Act.eval, s16]; simp [go_sem, -Array.getD_eq_getD_getElem?, s16]
                · exact Below.refl _ _
                · exact (fun _ _ => rfl)
              case o9 =>
                intro a w hfr hG hd
                obtain ⟨d0, d1, d2, _⟩ := hd
                have sg : a.tmps.getD 175 undef = .bool true := (d2 rfl).now
                refine ⟨fun hw => ?_, fun hw => by rw [wanted_of rfl (yielded_of rfl sg)] at hw; exact absurd hw (by decide)⟩
                have s176 : a.tmps.getD 176 undef = .slice (some ad) n c6 := (d0 rfl).now
                have s177 : a.tmps.getD 177 undef = .int .i64 i := (d1 rfl).now
                refine op_yields (.pointer (some (ad.add (i * 4)))) ?_ ?_ ?_
                · simp only [execOp, resolve, List.map_toArray, List.map_cons, List.map_nil, Act.eval, s176, s177]; simp [go_sem, -Array.getD_eq_getD_getElem?, s176, s177, hge0, hini]
                · exact Below.refl _ _
                · exact (fun _ _ => rfl)
              case o10 =>
                intro a w hfr hG hd
                obtain ⟨d0, d1, _⟩ := hd
                have sg : a.tmps.getD 175 undef = .bool true := (d1 rfl).now
                refine ⟨fun hw => ?_, fun hw => by rw [wanted_of rfl (yielded_of rfl sg)] at hw; exact absurd hw (by decide)⟩
                have s178 : a.tmps.getD 178 undef = .pointer (some (ad.add (i * 4))) := (d0 rfl).now
                refine op_yields (.pointer (some ⟨(ad.add (i * 4)).block, (ad.add (i * 4)).off + 2, none⟩)) ?_ ?_ ?_
                · simp only [execOp, resolve, List.map_toArray, List.map_cons, List.map_nil, Act.eval, s178]; simp [go_sem, -Array.getD_eq_getD_getElem?, s178]
                · exact Below.refl _ _
                · exact (fun _ _ => rfl)
              case o11 =>
                intro a w hfr hG hd
                obtain ⟨d0, d1, _⟩ := hd
                have sg : a.tmps.getD 175 undef = .bool true := (d1 rfl).now
                refine ⟨fun hw => ?_, fun hw => by rw [wanted_of rfl (yielded_of rfl sg)] at hw; exact absurd hw (by decide)⟩
                have s179 : a.tmps.getD 179 undef = .pointer (some ⟨(ad.add (i * 4)).block, (ad.add (i * 4)).off + 2, none⟩) := (d0 rfl).now
                obtain ⟨z0, z1, z2, z3⟩ := HC1.out w hG.now.1
                refine op_yields (.int .i64 pa) ?_ ?_ ?_
                · simp only [execOp, resolve, List.map_toArray, List.map_cons, List.map_nil, Act.eval, s179]; simp [go_sem, -Array.getD_eq_getD_getElem?, s179, z2]
                · exact Below.refl _ _
                · exact (fun _ _ => rfl)
              case o12 =>
                intro a w hfr hG hd
                obtain ⟨d0, _⟩ := hd
                have sg : a.tmps.getD 175 undef = .bool true := (d0 rfl).now
                refine ⟨fun hw => ?_, fun hw => by rw [wanted_of rfl (yielded_of rfl sg)] at hw; exact absurd hw (by decide)⟩
                have s13 : a.tmps.getD 13 undef = .slice (some ad) n c6 := hfr.at 13 (by kernel_rfl)
                refine op_yields (.slice (some ad) n c6) ?_ ?_ ?_
                · simp only [execOp, resolve, List.map_toArray, List.map_cons, List.map_nil, Act.eval, s13]; simp [go_sem, -Array.getD_eq_getD_getElem?, s13]
                · exact Below.refl _ _
                · exact (fun _ _ => rfl)
              case o13 =>
                intro a w hfr hG hd
                obtain ⟨d0, _⟩ := hd
                have sg : a.tmps.getD 175 undef = .bool true := (d0 rfl).now
                refine ⟨fun hw => ?_, fun hw => by rw [wanted_of rfl (yielded_of rfl sg)] at hw; exact absurd hw (by decide)⟩
                have s16 : a.tmps.getD 16 undef = .int .i64 i := hfr.at 16 (by kernel_rfl)
                refine op_yields (.int .i64 i) ?_ ?_ ?_
                · simp only [execOp, resolve, List.map_toArray, List.map_cons, List.map_nil, Act.eval, s16]; simp [go_sem, -Array.getD_eq_getD_getElem?, s16]
                · exact Below.refl _ _
                · exact (fun _ _ => rfl)
              case o14 =>
                intro a w hfr hG hd
                obtain ⟨d0, d1, d2, _⟩ := hd
                have sg : a.tmps.getD 175 undef = .bool true := (d2 rfl).now
                refine ⟨fun hw => ?_, fun hw => by rw [wanted_of rfl (yielded_of rfl sg)] at hw; exact absurd hw (by decide)⟩
                have s181 : a.tmps.getD 181 undef = .slice (some ad) n c6 := (d0 rfl).now
                have s182 : a.tmps.getD 182 undef = .int .i64 i := (d1 rfl).now
                refine op_yields (.pointer (some (ad.add (i * 4)))) ?_ ?_ ?_
                · simp only [execOp, resolve, List.map_toArray, List.map_cons, List.map_nil, Act.eval, s181, s182]; simp [go_sem, -Array.getD_eq_getD_getElem?, s181, s182, hge0, hini]
                · exact Below.refl _ _
                · exact (fun _ _ => rfl)
              case o15 =>
                intro a w hfr hG hd
                obtain ⟨d0, d1, _⟩ := hd
                have sg : a.tmps.getD 175 undef = .bool true := (d1 rfl).now
                refine ⟨fun hw => ?_, fun hw => by rw [wanted_of rfl (yielded_of rfl sg)] at hw; exact absurd hw (by decide)⟩
                have s183 : a.tmps.getD 183 undef = .pointer (some (ad.add (i * 4))) := (d0 rfl).now
                refine op_yields (.pointer (some ⟨(ad.add (i * 4)).block, (ad.add (i * 4)).off + 3, none⟩)) ?_ ?_ ?_
                · simp only [execOp, resolve, List.map_toArray, List.map_cons, List.map_nil, Act.eval, s183]; simp [go_sem, -Array.getD_eq_getD_getElem?, s183]
                · exact Below.refl _ _
                · exact (fun _ _ => rfl)
              case o16 =>
                intro a w hfr hG hd
                obtain ⟨d0, d1, _⟩ := hd
                have sg : a.tmps.getD 175 undef = .bool true := (d1 rfl).now
                refine ⟨fun hw => ?_, fun hw => by rw [wanted_of rfl (yielded_of rfl sg)] at hw; exact absurd hw (by decide)⟩
                have s184 : a.tmps.getD 184 undef = .pointer (some ⟨(ad.add (i * 4)).block, (ad.add (i * 4)).off + 3, none⟩) := (d0 rfl).now
                obtain ⟨z0, z1, z2, z3⟩ := HC1.out w hG.now.1
                refine op_yields (.string tx) ?_ ?_ ?_
                · simp only [execOp, resolve, List.map_toArray, List.map_cons, List.map_nil, Act.eval, s184]; simp [go_sem, -Array.getD_eq_getD_getElem?, s184, z3]
                · exact Below.refl _ _
                · exact (fun _ _ => rfl)
              case o17 =>
                intro a w hfr hG hd
                obtain ⟨d0, d1, _⟩ := hd
                have sg : a.tmps.getD 175 undef = .bool true := (d1 rfl).now
                refine ⟨fun hw => ?_, fun hw => by rw [wanted_of rfl (yielded_of rfl sg)] at hw; exact absurd hw (by decide)⟩
                have s185 : a.tmps.getD 185 undef = .string tx := (d0 rfl).now
                refine op_yields (.int .i64 tx.size) ?_ ?_ ?_
                · simp only [execOp, resolve, List.map_toArray, List.map_cons, List.map_nil, Act.eval, s185]; simp [go_sem, -Array.getD_eq_getD_getElem?, s185]
                · exact Below.refl _ _
                · exact (fun _ _ => rfl)
              case o18 =>
                intro a w hfr hG hd
                obtain ⟨d0, d1, d2, _⟩ := hd
                have sg : a.tmps.getD 175 undef = .bool true := (d2 rfl).now
                refine ⟨fun hw => ?_, fun hw => by rw [wanted_of rfl (yielded_of rfl sg)] at hw; exact absurd hw (by decide)⟩
                have s180 : a.tmps.getD 180 undef = .int .i64 pa := (d0 rfl).now
                have s186 : a.tmps.getD 186 undef = .int .i64 tx.size := (d1 rfl).now
                refine op_yields (.int .i64 q) ?_ ?_ ?_
                · simp only [execOp, resolve, List.map_toArray, List.map_cons, List.map_nil, Act.eval, s180, s186]; simp [go_sem, -Array.getD_eq_getD_getElem?, s180, s186, hsum, hsum2]
                · exact Below.refl _ _
                · exact (fun _ _ => rfl)
              case o19 =>
                intro a w hfr hG hd
                obtain ⟨d0, _⟩ := hd
                have sg : a.tmps.getD 175 undef = .bool true := (d0 rfl).now
                refine ⟨fun hw => ?_, fun hw => by rw [wanted_of rfl (yielded_of rfl sg)] at hw; exact absurd hw (by decide)⟩
                have s12 : a.tmps.getD 12 undef = .string S := hfr.at 12 (by kernel_rfl)
                refine op_yields (.string S) ?_ ?_ ?_
                · simp only [execOp, resolve, List.map_toArray, List.map_cons, List.map_nil, Act.eval, s12]; simp [go_sem, -Array.getD_eq_getD_getElem?, s12]
                · exact Below.refl _ _
                · exact (fun _ _ => rfl)
              case o20 =>
                intro a w hfr hG hd
                obtain ⟨d0, d1, _⟩ := hd
                have sg : a.tmps.getD 175 undef = .bool true := (d1 rfl).now
                refine ⟨fun hw => ?_, fun hw => by rw [wanted_of rfl (yielded_of rfl sg)] at hw; exact absurd hw (by decide)⟩
                have s188 : a.tmps.getD 188 undef = .string S := (d0 rfl).now
                refine op_yields (.int .i64 S.size) ?_ ?_ ?_
                · simp only [execOp, resolve, List.map_toArray, List.map_cons, List.map_nil, Act.eval, s188]; simp [go_sem, -Array.getD_eq_getD_getElem?, s188]
                · exact Below.refl _ _
                · exact (fun _ _ => rfl)
              case o21 =>
                intro a w hfr hG hd
                obtain ⟨d0, d1, d2, _⟩ := hd
                have sg : a.tmps.getD 175 undef = .bool true := (d2 rfl).now
                refine ⟨fun hw => ?_, fun hw => by rw [wanted_of rfl (yielded_of rfl sg)] at hw; exact absurd hw (by decide)⟩
                have s187 : a.tmps.getD 187 undef = .int .i64 q := (d0 rfl).now
                have s189 : a.tmps.getD 189 undef = .int .i64 S.size := (d1 rfl).now
                refine op_yields (.bool false) ?_ ?_ ?_
                · simp only [execOp, resolve, List.map_toArray, List.map_cons, List.map_nil, Act.eval, s187, s189]; simp [go_sem, -Array.getD_eq_getD_getElem?, s187, s189, hq1, hq2]
                · exact Below.refl _ _
                · exact (fun _ _ => rfl)
              case o22 =>
                intro a w hfr hG hd
                obtain ⟨d0, d1, d2, _⟩ := hd
                have sg : a.tmps.getD 175 undef = .bool true := (d1 rfl).now
                refine ⟨fun hw => ?_, fun hw => by rw [wanted_of rfl (yielded_of rfl sg)] at hw; exact absurd hw (by decide)⟩
                have s190 : a.tmps.getD 190 undef = .bool false := (d0 rfl).now
                refine op_yields (.bool false) ?_ ?_ ?_
                · simp only [execOp, resolve, List.map_toArray, List.map_cons, List.map_nil, Act.eval, s190]; simp [go_sem, -Array.getD_eq_getD_getElem?, s190]
                · exact Below.refl _ _
                · exact (fun _ _ => rfl)
              case o23 =>
                intro a w hfr hG hd
                obtain ⟨d0, _⟩ := hd
                have sg : a.tmps.getD 191 undef = .bool false := (d0 rfl).now
                refine ⟨fun hw => ?_, fun hw => by rw [wanted_of rfl (yielded_of rfl sg)] at hw; exact absurd hw (by decide)⟩
                have s12 : a.tmps.getD 12 undef = .string S := hfr.at 12 (by kernel_rfl)
                refine op_yields (.string S) ?_ ?_ ?_
                · simp only [execOp, resolve, List.map_toArray, List.map_cons, List.map_nil, Act.eval, s12]; simp [go_sem, -Array.getD_eq_getD_getElem?, s12]
                · exact Below.refl _ _
                · exact (fun _ _ => rfl)
              case o24 =>
                intro a w hfr hG hd
                obtain ⟨d0, _⟩ := hd
                have sg : a.tmps.getD 191 undef = .bool false := (d0 rfl).now
                refine ⟨fun hw => ?_, fun hw => by rw [wanted_of rfl (yielded_of rfl sg)] at hw; exact absurd hw (by decide)⟩
                have s13 : a.tmps.getD 13 undef = .slice (some ad) n c6 := hfr.at 13 (by kernel_rfl)
                refine op_yields (.slice (some ad) n c6) ?_ ?_ ?_
                · simp only [execOp, resolve, List.map_toArray, List.map_cons, List.map_nil, Act.eval, s13]; simp [go_sem, -Array.getD_eq_getD_getElem?, s13]
                · exact Below.refl _ _
                · exact (fun _ _ => rfl)
              case o25 =>
                intro a w hfr hG hd
                obtain ⟨d0, _⟩ := hd
                have sg : a.tmps.getD 191 undef = .bool false := (d0 rfl).now
                refine ⟨fun hw => ?_, fun hw => by rw [wanted_of rfl (yielded_of rfl sg)] at hw; exact absurd hw (by decide)⟩
                have s16 : a.tmps.getD 16 undef = .int .i64 i := hfr.at 16 (by kernel_rfl)
                refine op_yields (.int .i64 i) ?_ ?_ ?_
                · simp only [execOp, resolve, List.map_toArray, List.map_cons, List.map_nil, Act.eval, s16]; simp [go_sem, -Array.getD_eq_getD_getElem?, s16]
                · exact Below.refl _ _
                · exact (fun _ _ => rfl)
              case o26 =>
                intro a w hfr hG hd
                obtain ⟨d0, d1, d2, _⟩ := hd
                have sg : a.tmps.getD 191 undef = .bool false := (d2 rfl).now
                refine ⟨fun hw => ?_, fun hw => by rw [wanted_of rfl (yielded_of rfl sg)] at hw; exact absurd hw (by decide)⟩
                have s193 : a.tmps.getD 193 undef = .slice (some ad) n c6 := (d0 rfl).now
                have s194 : a.tmps.getD 194 undef = .int .i64 i := (d1 rfl).now
                refine op_yields (.pointer (some (ad.add (i * 4)))) ?_ ?_ ?_
                · simp only [execOp, resolve, List.map_toArray, List.map_cons, List.map_nil, Act.eval, s193, s194]; simp [go_sem, -Array.getD_eq_getD_getElem?, s193, s194, hge0, hini]
                · exact Below.refl _ _
                · exact (fun _ _ => rfl)
              case o27 =>
                intro a w hfr hG hd
                obtain ⟨d0, d1, _⟩ := hd
                have sg : a.tmps.getD 191 undef = .bool false := (d1 rfl).now
                refine ⟨fun hw => ?_, fun hw => by rw [wanted_of rfl (yielded_of rfl sg)] at hw; exact absurd hw (by decide)⟩
                have s195 : a.tmps.getD 195 undef = .pointer (some (ad.add (i * 4))) := (d0 rfl).now
                refine op_yields (.pointer (some ⟨(ad.add (i * 4)).block, (ad.add (i * 4)).off + 2, none⟩)) ?_ ?_ ?_
                · simp only [execOp, resolve, List.map_toArray, List.map_cons, List.map_nil, Act.eval, s195]; simp [go_sem, -Array.getD_eq_getD_getElem?, s195]
                · exact Below.refl _ _
                · exact (fun _ _ => rfl)
              case o28 =>
                intro a w hfr hG hd
                obtain ⟨d0, d1, _⟩ := hd
                have sg : a.tmps.getD 191 undef = .bool false := (d1 rfl).now
                refine ⟨fun hw => ?_, fun hw => by rw [wanted_of rfl (yielded_of rfl sg)] at hw; exact absurd hw (by decide)⟩
                have s196 : a.tmps.getD 196 undef = .pointer (some ⟨(ad.add (i * 4)).block, (ad.add (i * 4)).off + 2, none⟩) := (d0 rfl).now
                obtain ⟨z0, z1, z2, z3⟩ := HC1.out w hG.now.1
                refine op_yields (.int .i64 pa) ?_ ?_ ?_
                · simp only [execOp, resolve, List.map_toArray, List.map_cons, List.map_nil, Act.eval, s196]; simp [go_sem, -Array.getD_eq_getD_getElem?, s196, z2]
                · exact Below.refl _ _
                · exact (fun _ _ => rfl)
              case o29 =>
                intro a w hfr hG hd
                obtain ⟨d0, _⟩ := hd
                have sg : a.tmps.getD 191 undef = .bool false := (d0 rfl).now
                refine ⟨fun hw => ?_, fun hw => by rw [wanted_of rfl (yielded_of rfl sg)] at hw; exact absurd hw (by decide)⟩
                have s13 : a.tmps.getD 13 undef = .slice (some ad) n c6 := hfr.at 13 (by kernel_rfl)
                refine op_yields (.slice (some ad) n c6) ?_ ?_ ?_
                · simp only [execOp, resolve, List.map_toArray, List.map_cons, List.map_nil, Act.eval, s13]; simp [go_sem, -Array.getD_eq_getD_getElem?, s13]
                · exact Below.refl _ _
                · exact (fun _ _ => rfl)
              case o30 =>
                intro a w hfr hG hd
                obtain ⟨d0, _⟩ := hd
                have sg : a.tmps.getD 191 undef = .bool false := (d0 rfl).now
                refine ⟨fun hw => ?_, fun hw => by rw [wanted_of rfl (yielded_of rfl sg)] at hw; exact absurd hw (by decide)⟩
                have s16 : a.tmps.getD 16 undef = .int .i64 i := hfr.at 16 (by kernel_rfl)
                refine op_yields (.int .i64 i) ?_ ?_ ?_
                · simp only [execOp, resolve, List.map_toArray, List.map_cons, List.map_nil, Act.eval, s16]; simp [go_sem, -Array.getD_eq_getD_getElem?, s16]
                · exact Below.refl _ _
                · exact (fun _ _ => rfl)
              case o31 =>
                intro a w hfr hG hd
                obtain ⟨d0, d1, d2, _⟩ := hd
                have sg : a.tmps.getD 191 undef = .bool false := (d2 rfl).now
                refine ⟨fun hw => ?_, fun hw => by rw [wanted_of rfl (yielded_of rfl sg)] at hw; exact absurd hw (by decide)⟩
                have s198 : a.tmps.getD 198 undef = .slice (some ad) n c6 := (d0 rfl).now
                have s199 : a.tmps.getD 199 undef = .int .i64 i := (d1 rfl).now
                refine op_yields (.pointer (some (ad.add (i * 4)))) ?_ ?_ ?_
                · simp only [execOp, resolve, List.map_toArray, List.map_cons, List.map_nil, Act.eval, s198, s199]; simp [go_sem, -Array.getD_eq_getD_getElem?, s198, s199, hge0, hini]
                · exact Below.refl _ _
                · exact (fun _ _ => rfl)
              case o32 =>
                intro a w hfr hG hd
                obtain ⟨d0, d1, _⟩ := hd
                have sg : a.tmps.getD 191 undef = .bool false := (d1 rfl).now
                refine ⟨fun hw => ?_, fun hw => by rw [wanted_of rfl (yielded_of rfl sg)] at hw; exact absurd hw (by decide)⟩
                have s200 : a.tmps.getD 200 undef = .pointer (some (ad.add (i * 4))) := (d0 rfl).now
                refine op_yields (.pointer (some ⟨(ad.add (i * 4)).block, (ad.add (i * 4)).off + 2, none⟩)) ?_ ?_ ?_
                · simp only [execOp, resolve, List.map_toArray, List.map_cons, List.map_nil, Act.eval, s200]; simp [go_sem, -Array.getD_eq_getD_getElem?, s200]
                · exact Below.refl _ _
                · exact (fun _ _ => rfl)
              case o33 =>
                intro a w hfr hG hd
                obtain ⟨d0, d1, _⟩ := hd
                have sg : a.tmps.getD 191 undef = .bool false := (d1 rfl).now
                refine ⟨fun hw => ?_, fun hw => by rw [wanted_of rfl (yielded_of rfl sg)] at hw; exact absurd hw (by decide)⟩
                have s201 : a.tmps.getD 201 undef = .pointer (some ⟨(ad.add (i * 4)).block, (ad.add (i * 4)).off + 2, none⟩) := (d0 rfl).now
                obtain ⟨z0, z1, z2, z3⟩ := HC1.out w hG.now.1
                refine op_yields (.int .i64 pa) ?_ ?_ ?_
                · simp only [execOp, resolve, List.map_toArray, List.map_cons, List.map_nil, Act.eval, s201]; simp [go_sem, -Array.getD_eq_getD_getElem?, s201, z2]
                · exact Below.refl _ _
                · exact (fun _ _ => rfl)
              case o34 =>
                intro a w hfr hG hd
                obtain ⟨d0, _⟩ := hd
                have sg : a.tmps.getD 191 undef = .bool false := (d0 rfl).now
                refine ⟨fun hw => ?_, fun hw => by rw [wanted_of rfl (yielded_of rfl sg)] at hw; exact absurd hw (by decide)⟩
                have s13 : a.tmps.getD 13 undef = .slice (some ad) n c6 := hfr.at 13 (by kernel_rfl)
                refine op_yields (.slice (some ad) n c6) ?_ ?_ ?_
                · simp only [execOp, resolve, List.map_toArray, List.map_cons, List.map_nil, Act.eval, s13]; simp [go_sem, -Array.getD_eq_getD_getElem?, s13]
                · exact Below.refl _ _
                · exact (fun _ _ => rfl)
              case o35 =>
                intro a w hfr hG hd
                obtain ⟨d0, _⟩ := hd
                have sg : a.tmps.getD 191 undef = .bool false := (d0 rfl).now
                refine ⟨fun hw => ?_, fun hw => by rw [wanted_of rfl (yielded_of rfl sg)] at hw; exact absurd hw (by decide)⟩
                have s16 : a.tmps.getD 16 undef = .int .i64 i := hfr.at 16 (by kernel_rfl)
                refine op_yields (.int .i64 i) ?_ ?_ ?_
                · simp only [execOp, resolve, List.map_toArray, List.map_cons, List.map_nil, Act.eval, s16]; simp [go_sem, -Array.getD_eq_getD_getElem?, s16]
                · exact Below.refl _ _
                · exact (fun _ _ => rfl)
              case o36 =>
                intro a w hfr hG hd
                obtain ⟨d0, d1, d2, _⟩ := hd
                have sg : a.tmps.getD 191 undef = .bool false := (d2 rfl).now
                refine ⟨fun hw => ?_, fun hw => by rw [wanted_of rfl (yielded_of rfl sg)] at hw; exact absurd hw (by decide)⟩
                have s203 : a.tmps.getD 203 undef = .slice (some ad) n c6 := (d0 rfl).now
                have s204 : a.tmps.getD 204 undef = .int .i64 i := (d1 rfl).now
                refine op_yields (.pointer (some (ad.add (i * 4)))) ?_ ?_ ?_
                · simp only [execOp, resolve, List.map_toArray, List.map_cons, List.map_nil, Act.eval, s203, s204]; simp [go_sem, -Array.getD_eq_getD_getElem?, s203, s204, hge0, hini]
                · exact Below.refl _ _
                · exact (fun _ _ => rfl)
              case o37 =>
                intro a w hfr hG hd
                obtain ⟨d0, d1, _⟩ := hd
                have sg : a.tmps.getD 191 undef = .bool false := (d1 rfl).now
                refine ⟨fun hw => ?_, fun hw => by rw [wanted_of rfl (yielded_of rfl sg)] at hw; exact absurd hw (by decide)⟩
                have s205 : a.tmps.getD 205 undef = .pointer (some (ad.add (i * 4))) := (d0 rfl).now
                refine op_yields (.pointer (some ⟨(ad.add (i * 4)).block, (ad.add (i * 4)).off + 3, none⟩)) ?_ ?_ ?_
                · simp only [execOp, resolve, List.map_toArray, List.map_cons, List.map_nil, Act.eval, s205]; simp [go_sem, -Array.getD_eq_getD_getElem?, s205]
                · exact Below.refl _ _
                · exact (fun _ _ => rfl)
              case o38 =>
                intro a w hfr hG hd
                obtain ⟨d0, d1, _⟩ := hd
                have sg : a.tmps.getD 191 undef = .bool false := (d1 rfl).now
                refine ⟨fun hw => ?_, fun hw => by rw [wanted_of rfl (yielded_of rfl sg)] at hw; exact absurd hw (by decide)⟩
                have s206 : a.tmps.getD 206 undef = .pointer (some ⟨(ad.add (i * 4)).block, (ad.add (i * 4)).off + 3, none⟩) := (d0 rfl).now
                obtain ⟨z0, z1, z2, z3⟩ := HC1.out w hG.now.1
                refine op_yields (.string tx) ?_ ?_ ?_
                · simp only [execOp, resolve, List.map_toArray, List.map_cons, List.map_nil, Act.eval, s206]; simp [go_sem, -Array.getD_eq_getD_getElem?, s206, z3]
                · exact Below.refl _ _
                · exact (fun _ _ => rfl)
              case o39 =>
                intro a w hfr hG hd
                obtain ⟨d0, d1, _⟩ := hd
                have sg : a.tmps.getD 191 undef = .bool false := (d1 rfl).now
                refine ⟨fun hw => ?_, fun hw => by rw [wanted_of rfl (yielded_of rfl sg)] at hw; exact absurd hw (by decide)⟩
                have s207 : a.tmps.getD 207 undef = .string tx := (d0 rfl).now
                refine op_yields (.int .i64 tx.size) ?_ ?_ ?_
                · simp only [execOp, resolve, List.map_toArray, List.map_cons, List.map_nil, Act.eval, s207]; simp [go_sem, -Array.getD_eq_getD_getElem?, s207]
                · exact Below.refl _ _
                · exact (fun _ _ => rfl)
              case o40 =>
                intro a w hfr hG hd
                obtain ⟨d0, d1, d2, _⟩ := hd
                have sg : a.tmps.getD 191 undef = .bool false := (d2 rfl).now
                refine ⟨fun hw => ?_, fun hw => by rw [wanted_of rfl (yielded_of rfl sg)] at hw; exact absurd hw (by decide)⟩
                have s202 : a.tmps.getD 202 undef = .int .i64 pa := (d0 rfl).now
                have s208 : a.tmps.getD 208 undef = .int .i64 tx.size := (d1 rfl).now
                refine op_yields (.int .i64 q) ?_ ?_ ?_
                · simp only [execOp, resolve, List.map_toArray, List.map_cons, List.map_nil, Act.eval, s202, s208]; simp [go_sem, -Array.getD_eq_getD_getElem?, s202, s208, hsum, hsum2]
                · exact Below.refl _ _
                · exact (fun _ _ => rfl)
              case o41 =>
                intro a w hfr hG hd
                obtain ⟨d0, d1, d2, d3, _⟩ := hd
                have sg : a.tmps.getD 191 undef = .bool false := (d3 rfl).now
                refine ⟨fun hw => ?_, fun hw => by rw [wanted_of rfl (yielded_of rfl sg)] at hw; exact absurd hw (by decide)⟩
                have s192 : a.tmps.getD 192 undef = .string S := (d0 rfl).now
                have s197 : a.tmps.getD 197 undef = .int .i64 pa := (d1 rfl).now
                have s209 : a.tmps.getD 209 undef = .int .i64 q := (d2 rfl).now
                refine op_yields (.string tx) ?_ ?_ ?_
                · simp only [execOp, resolve, List.map_toArray, List.map_cons, List.map_nil, Act.eval, s192, s197, s209]; simp [go_sem, -Array.getD_eq_getD_getElem?, s192, s197, s209, hsl0, hsl1, hsl2, hsl3, hsl4, hexq]
                · exact Below.refl _ _
                · exact (fun _ _ => rfl)
              case o42 =>
                intro a w hfr hG hd
                obtain ⟨d0, _⟩ := hd
                have sg : a.tmps.getD 191 undef = .bool false := (d0 rfl).now
                refine ⟨fun hw => ?_, fun hw => by rw [wanted_of rfl (yielded_of rfl sg)] at hw; exact absurd hw (by decide)⟩
                have s13 : a.tmps.getD 13 undef = .slice (some ad) n c6 := hfr.at 13 (by kernel_rfl)
                refine op_yields (.slice (some ad) n c6) ?_ ?_ ?_
                · simp only [execOp, resolve, List.map_toArray, List.map_cons, List.map_nil, Act.eval, s13]; simp [go_sem, -Array.getD_eq_getD_getElem?, s13]
                · exact Below.refl _ _
                · exact (fun _ _ => rfl)
              case o43 =>
                intro a w hfr hG hd
                obtain ⟨d0, _⟩ := hd
                have sg : a.tmps.getD 191 undef = .bool false := (d0 rfl).now
                refine ⟨fun hw => ?_, fun hw => by rw [wanted_of rfl (yielded_of rfl sg)] at hw; exact absurd hw (by decide)⟩
                have s16 : a.tmps.getD 16 undef = .int .i64 i := hfr.at 16 (by kernel_rfl)
                refine op_yields (.int .i64 i) ?_ ?_ ?_
                · simp only [execOp, resolve, List.map_toArray, List.map_cons, List.map_nil, Act.eval, s16]; simp [go_sem, -Array.getD_eq_getD_getElem?, s16]
                · exact Below.refl _ _
                · exact (fun _ _ => rfl)
              case o44 =>
                intro a w hfr hG hd
                obtain ⟨d0, d1, d2, _⟩ := hd
                have sg : a.tmps.getD 191 undef = .bool false := (d2 rfl).now
                refine ⟨fun hw => ?_, fun hw => by rw [wanted_of rfl (yielded_of rfl sg)] at hw; exact absurd hw (by decide)⟩
                have s211 : a.tmps.getD 211 undef = .slice (some ad) n c6 := (d0 rfl).now
                have s212 : a.tmps.getD 212 undef = .int .i64 i := (d1 rfl).now
                refine op_yields (.pointer (some (ad.add (i * 4)))) ?_ ?_ ?_
                · simp only [execOp, resolve, List.map_toArray, List.map_cons, List.map_nil, Act.eval, s211, s212]; simp [go_sem, -Array.getD_eq_getD_getElem?, s211, s212, hge0, hini]
                · exact Below.refl _ _
                · exact (fun _ _ => rfl)
              case o45 =>
                intro a w hfr hG hd
                obtain ⟨d0, d1, _⟩ := hd
                have sg : a.tmps.getD 191 undef = .bool false := (d1 rfl).now
                refine ⟨fun hw => ?_, fun hw => by rw [wanted_of rfl (yielded_of rfl sg)] at hw; exact absurd hw (by decide)⟩
                have s213 : a.tmps.getD 213 undef = .pointer (some (ad.add (i * 4))) := (d0 rfl).now
                refine op_yields (.pointer (some ⟨(ad.add (i * 4)).block, (ad.add (i * 4)).off + 3, none⟩)) ?_ ?_ ?_
                · simp only [execOp, resolve, List.map_toArray, List.map_cons, List.map_nil, Act.eval, s213]; simp [go_sem, -Array.getD_eq_getD_getElem?, s213]
                · exact Below.refl _ _
                · exact (fun _ _ => rfl)
              case o46 =>
                intro a w hfr hG hd
                obtain ⟨d0, d1, _⟩ := hd
                have sg : a.tmps.getD 191 undef = .bool false := (d1 rfl).now
                refine ⟨fun hw => ?_, fun hw => by rw [wanted_of rfl (yielded_of rfl sg)] at hw; exact absurd hw (by decide)⟩
                have s214 : a.tmps.getD 214 undef = .pointer (some ⟨(ad.add (i * 4)).block, (ad.add (i * 4)).off + 3, none⟩) := (d0 rfl).now
                obtain ⟨z0, z1, z2, z3⟩ := HC1.out w hG.now.1
                refine op_yields (.string tx) ?_ ?_ ?_
                · simp only [execOp, resolve, List.map_toArray, List.map_cons, List.map_nil, Act.eval, s214]; simp [go_sem, -Array.getD_eq_getD_getElem?, s214, z3]
                · exact Below.refl _ _
                · exact (fun _ _ => rfl)
              case o47 =>
                intro a w hfr hG hd
                obtain ⟨d0, d1, d2, _⟩ := hd
                have sg : a.tmps.getD 191 undef = .bool false := (d2 rfl).now
                refine ⟨fun hw => ?_, fun hw => by rw [wanted_of rfl (yielded_of rfl sg)] at hw; exact absurd hw (by decide)⟩
                have s210 : a.tmps.getD 210 undef = .string tx := (d0 rfl).now
                have s215 : a.tmps.getD 215 undef = .string tx := (d1 rfl).now
                refine op_yields (.bool false) ?_ ?_ ?_
                · simp only [execOp, resolve, List.map_toArray, List.map_cons, List.map_nil, Act.eval, s210, s215]; simp [go_sem, -Array.getD_eq_getD_getElem?, s210, s215]
                · exact Below.refl _ _
                · exact (fun _ _ => rfl)
              case o48 =>
                intro a w hfr hG hd
                obtain ⟨d0, d1, d2, _⟩ := hd
                have sg : a.tmps.getD 175 undef = .bool true := (d2 rfl).now
                refine ⟨fun hw => ?_, fun hw => by rw [wanted_of rfl (yielded_of rfl sg)] at hw; exact absurd hw (by decide)⟩
                have s191 : a.tmps.getD 191 undef = .bool false := (d0 rfl).now
                have s216 : a.tmps.getD 216 undef = .bool false := (d1 rfl).now
                refine op_yields (.bool false) ?_ ?_ ?_
                · simp only [execOp, resolve, List.map_toArray, List.map_cons, List.map_nil, Act.eval, s191, s216]; simp [go_sem, -Array.getD_eq_getD_getElem?, s191, s216]
                · exact Below.refl _ _
                · exact (fun _ _ => rfl)
              case o49 =>
                intro a w hfr hG hd
                obtain ⟨d0, d1, _⟩ := hd
                refine ⟨fun hw => ?_, fun hw => absurd hw (by simp [Region.wanted])⟩
                have s175 : a.tmps.getD 175 undef = .bool true := (d0 rfl).now
                have s217 : a.tmps.getD 217 undef = .bool false := (d1 rfl).now
                refine op_yields (.bool false) ?_ ?_ ?_
                · simp only [execOp, resolve, List.map_toArray, List.map_cons, List.map_nil, Act.eval, s175, s217]; simp [go_sem, -Array.getD_eq_getD_getElem?, s175, s217]
                · exact Below.refl _ _
                · exact (fun _ _ => rfl)
              case hG => exact fun w' hb => HQ.out.below ((Below.refl _ _).drew.trans (hb.mono (by simp)))
              case hend =>
                intro vs w' hG hv
                have key : vs 49 = .bool false := by
                  obtain ⟨_, _, _, _, _, _, _, _, _, _, _, _, _, _, _, _, _, _, _, _, _, _, _, _, _, _, _, _, _, _, _, _, _, _, _, _, _, _, _, _, _, _, _, _, _, _, _, _, _, h49, _⟩ := hv
                  exact h49.now
                have HQ2 := Lib.hid hG.now
                clear hv hG HQ HEX HPW HC1 HC2 hexq
                simp only [putAll, Act.put, key]
                clear key
                go_simp
                go_wp2_with fail
                go_roundg g
                case measure => omega
                case rel => exact ⟨i + 1, B, B', by omega, by go_num, HQ2.out⟩
            · have hk4' : (kd == 4) = false := by rw [beq_eq_false_iff_ne]; exact hk4
              refine wp_region_facts (R := fun a b => Below a.heap.size a b) (G := (fun W => LpAt B B' (some ad) us (some ad2) L n w W)) (V := fun i' u' W => match i' with | 0 => u' = .slice (some ad) n c6 | 1 => u' = .int .i64 i | 2 => u' = .pointer (some (ad.add (i * 4))) | 3 => u' = .pointer (some (ad.add (i * 4))) | 4 => u' = .int .i64 kd | 5 => u' = .bool false | 6 => u' = .bool false | 7 => True | 8 => True | 9 => True | 10 => True | 11 => True | 12 => True | 13 => True | 14 => True | 15 => True | 16 => True | 17 => True | 18 => True | 19 => True | 20 => True | 21 => True | 22 => u' = undef | 23 => True | 24 => True | 25 => True | 26 => True | 27 => True | 28 => True | 29 => True | 30 => True | 31 => True | 32 => True | 33 => True | 34 => True | 35 => True | 36 => True | 37 => True | 38 => True | 39 => True | 40 => True | 41 => True | 42 => True | 43 => True | 44 => True | 45 => True | 46 => True | 47 => True | 48 => True | 49 => u' = .bool false | _ => True) (by kernel_rfl) (fun w => Below.refl _ _) (fun a b c h1 h2 => h1.trans (h2.mono h1.size)) (by kernel_rfl) (by kernel_rfl) ?hG ⟨?o0, ?o1, ?o2, ?o3, ?o4, ?o5, ?o6, ?o7, ?o8, ?o9, ?o10, ?o11, ?o12, ?o13, ?o14, ?o15, ?o16, ?o17, ?o18, ?o19, ?o20, ?o21, ?o22, ?o23, ?o24, ?o25, ?o26, ?o27, ?o28, ?o29, ?o30, ?o31, ?o32, ?o33, ?o34, ?o35, ?o36, ?o37, ?o38, ?o39, ?o40, ?o41, ?o42, ?o43, ?o44, ?o45, ?o46, ?o47, ?o48, ?o49, trivial⟩ ?hend
              case o0 =>
                intro a w hfr hG hd
                refine ⟨fun hw => ?_, fun hw => absurd hw (by simp [Region.wanted])⟩
                have s13 : a.tmps.getD 13 undef = .slice (some ad) n c6 := hfr.at 13 (by kernel_rfl)
                refine op_yields (.slice (some ad) n c6) ?_ ?_ ?_
                · simp only [execOp, resolve, List.map_toArray, List.map_cons, List.map_nil, Act.eval, s13]; simp [go_sem, -Array.getD_eq_getD_getElem?, s13]
                · exact Below.refl _ _
                · exact (fun _ _ => rfl)
              case o1 =>
                intro a w hfr hG hd
                refine ⟨fun hw => ?_, fun hw => absurd hw (by simp [Region.wanted])⟩
                have s16 : a.tmps.getD 16 undef = .int .i64 i := hfr.at 16 (by kernel_rfl)
                refine op_yields (.int .i64 i) ?_ ?_ ?_
                · simp only [execOp, resolve, List.map_toArray, List.map_cons, List.map_nil, Act.eval, s16]; simp [go_sem, -Array.getD_eq_getD_getElem?, s16]
                · exact Below.refl _ _
                · exact (fun _ _ => rfl)
              case o2 =>
                intro a w hfr hG hd
                obtain ⟨d0, d1, _⟩ := hd
                refine ⟨fun hw => ?_, fun hw => absurd hw (by simp [Region.wanted])⟩
                have s169 : a.tmps.getD 169 undef = .slice (some ad) n c6 := (d0 rfl).now
                have s170 : a.tmps.getD 170 undef = .int .i64 i := (d1 rfl).now
                refine op_yields (.pointer (some (ad.add (i * 4)))) ?_ ?_ ?_
                · simp only [execOp, resolve, List.map_toArray, List.map_cons, List.map_nil, Act.eval, s169, s170]; simp [go_sem, -Array.getD_eq_getD_getElem?, s169, s170, hge0, hini]
                · exact Below.refl _ _
                · exact (fun _ _ => rfl)
              case o3 =>
                intro a w hfr hG hd
                obtain ⟨d0, _⟩ := hd
                refine ⟨fun hw => ?_, fun hw => absurd hw (by simp [Region.wanted])⟩
                have s171 : a.tmps.getD 171 undef = .pointer (some (ad.add (i * 4))) := (d0 rfl).now
                refine op_yields (.pointer (some (ad.add (i * 4)))) ?_ ?_ ?_
                · simp only [execOp, resolve, List.map_toArray, List.map_cons, List.map_nil, Act.eval, s171]; simp [go_sem, -Array.getD_eq_getD_getElem?, s171]
                · exact Below.refl _ _
                · exact (fun _ _ => rfl)
              case o4 =>
                intro a w hfr hG hd
                obtain ⟨d0, _⟩ := hd
                refine ⟨fun hw => ?_, fun hw => absurd hw (by simp [Region.wanted])⟩
                have s172 : a.tmps.getD 172 undef = .pointer (some (ad.add (i * 4))) := (d0 rfl).now
                obtain ⟨z0, z1, z2, z3⟩ := HC1.out w hG.now.1
                refine op_yields (.int .i64 kd) ?_ ?_ ?_
                · simp only [execOp, resolve, List.map_toArray, List.map_cons, List.map_nil, Act.eval, s172]; simp [go_sem, -Array.getD_eq_getD_getElem?, s172, z0]
                · exact Below.refl _ _
                · exact (fun _ _ => rfl)
              case o5 =>
                intro a w hfr hG hd
                obtain ⟨d0, _⟩ := hd
                refine ⟨fun hw => ?_, fun hw => absurd hw (by simp [Region.wanted])⟩
                have s173 : a.tmps.getD 173 undef = .int .i64 kd := (d0 rfl).now
                refine op_yields (.bool false) ?_ ?_ ?_
                · simp only [execOp, resolve, List.map_toArray, List.map_cons, List.map_nil, Act.eval, s173]; simp [go_sem, -Array.getD_eq_getD_getElem?, s173, hk4]
                · exact Below.refl _ _
                · exact (fun _ _ => rfl)
              case o6 =>
                intro a w hfr hG hd
                obtain ⟨d0, _⟩ := hd
                refine ⟨fun hw => ?_, fun hw => absurd hw (by simp [Region.wanted])⟩
                have s174 : a.tmps.getD 174 undef = .bool false := (d0 rfl).now
                refine op_yields (.bool false) ?_ ?_ ?_
                · simp only [execOp, resolve, List.map_toArray, List.map_cons, List.map_nil, Act.eval, s174]; simp [go_sem, -Array.getD_eq_getD_getElem?, s174]
                · exact Below.refl _ _
                · exact (fun _ _ => rfl)
              case o7 =>
                intro a w hfr hG hd
                obtain ⟨d0, _⟩ := hd
                have sg : a.tmps.getD 175 undef = .bool false := (d0 rfl).now
                refine ⟨fun hw => ?_, fun hw => fun _ _ => trivial⟩
                rw [wanted_of rfl (yielded_of rfl sg)] at hw; exact absurd hw (by decide)
              case o8 =>
                intro a w hfr hG hd
                obtain ⟨d0, _⟩ := hd
                have sg : a.tmps.getD 175 undef = .bool false := (d0 rfl).now
                refine ⟨fun hw => ?_, fun hw => fun _ _ => trivial⟩
                rw [wanted_of rfl (yielded_of rfl sg)] at hw; exact absurd hw (by decide)
              case o9 =>
                intro a w hfr hG hd
                obtain ⟨d0, d1, d2, _⟩ := hd
                have sg : a.tmps.getD 175 undef = .bool false := (d2 rfl).now
                refine ⟨fun hw => ?_, fun hw => fun _ _ => trivial⟩
                rw [wanted_of rfl (yielded_of rfl sg)] at hw; exact absurd hw (by decide)
              case o10 =>
                intro a w hfr hG hd
                obtain ⟨d0, d1, _⟩ := hd
                have sg : a.tmps.getD 175 undef = .bool false := (d1 rfl).now
                refine ⟨fun hw => ?_, fun hw => fun _ _ => trivial⟩
                rw [wanted_of rfl (yielded_of rfl sg)] at hw; exact absurd hw (by decide)
              case o11 =>
                intro a w hfr hG hd
                obtain ⟨d0, d1, _⟩ := hd
                have sg : a.tmps.getD 175 undef = .bool false := (d1 rfl).now
                refine ⟨fun hw => ?_, fun hw => fun _ _ => trivial⟩
                rw [wanted_of rfl (yielded_of rfl sg)] at hw; exact absurd hw (by decide)
              case o12 =>
                intro a w hfr hG hd
                obtain ⟨d0, _⟩ := hd
                have sg : a.tmps.getD 175 undef = .bool false := (d0 rfl).now
                refine ⟨fun hw => ?_, fun hw => fun _ _ => trivial⟩
                rw [wanted_of rfl (yielded_of rfl sg)] at hw; exact absurd hw (by decide)
              case o13 =>
                intro a w hfr hG hd
                obtain ⟨d0, _⟩ := hd
                have sg : a.tmps.getD 175 undef = .bool false := (d0 rfl).now
                refine ⟨fun hw => ?_, fun hw => fun _ _ => trivial⟩
                rw [wanted_of rfl (yielded_of rfl sg)] at hw; exact absurd hw (by decide)
              case o14 =>
                intro a w hfr hG hd
                obtain ⟨d0, d1, d2, _⟩ := hd
                have sg : a.tmps.getD 175 undef = .bool false := (d2 rfl).now
                refine ⟨fun hw => ?_, fun hw => fun _ _ => trivial⟩
                rw [wanted_of rfl (yielded_of rfl sg)] at hw; exact absurd hw (by decide)
              case o15 =>
                intro a w hfr hG hd
                obtain ⟨d0, d1, _⟩ := hd
                have sg : a.tmps.getD 175 undef = .bool false := (d1 rfl).now
                refine ⟨fun hw => ?_, fun hw => fun _ _ => trivial⟩
                rw [wanted_of rfl (yielded_of rfl sg)] at hw; exact absurd hw (by decide)
              case o16 =>
                intro a w hfr hG hd
                obtain ⟨d0, d1, _⟩ := hd
                have sg : a.tmps.getD 175 undef = .bool false := (d1 rfl).now
                refine ⟨fun hw => ?_, fun hw => fun _ _ => trivial⟩
                rw [wanted_of rfl (yielded_of rfl sg)] at hw; exact absurd hw (by decide)
              case o17 =>
                intro a w hfr hG hd
                obtain ⟨d0, d1, _⟩ := hd
                have sg : a.tmps.getD 175 undef = .bool false := (d1 rfl).now
                refine ⟨fun hw => ?_, fun hw => fun _ _ => trivial⟩
                rw [wanted_of rfl (yielded_of rfl sg)] at hw; exact absurd hw (by decide)
              case o18 =>
                intro a w hfr hG hd
                obtain ⟨d0, d1, d2, _⟩ := hd
                have sg : a.tmps.getD 175 undef = .bool false := (d2 rfl).now
                refine ⟨fun hw => ?_, fun hw => fun _ _ => trivial⟩
                rw [wanted_of rfl (yielded_of rfl sg)] at hw; exact absurd hw (by decide)
              case o19 =>
                intro a w hfr hG hd
                obtain ⟨d0, _⟩ := hd
                have sg : a.tmps.getD 175 undef = .bool false := (d0 rfl).now
                refine ⟨fun hw => ?_, fun hw => fun _ _ => trivial⟩
                rw [wanted_of rfl (yielded_of rfl sg)] at hw; exact absurd hw (by decide)
              case o20 =>
                intro a w hfr hG hd
                obtain ⟨d0, d1, _⟩ := hd
                have sg : a.tmps.getD 175 undef = .bool false := (d1 rfl).now
                refine ⟨fun hw => ?_, fun hw => fun _ _ => trivial⟩
                rw [wanted_of rfl (yielded_of rfl sg)] at hw; exact absurd hw (by decide)
              case o21 =>
                intro a w hfr hG hd
                obtain ⟨d0, d1, d2, _⟩ := hd
                have sg : a.tmps.getD 175 undef = .bool false := (d2 rfl).now
                refine ⟨fun hw => ?_, fun hw => fun _ _ => trivial⟩
                rw [wanted_of rfl (yielded_of rfl sg)] at hw; exact absurd hw (by decide)
              case o22 =>
                intro a w hfr hG hd
                obtain ⟨d0, d1, d2, _⟩ := hd
                have sg : a.tmps.getD 175 undef = .bool false := (d1 rfl).now
                refine ⟨fun hw => ?_, fun hw => fun _ _ => rfl⟩
                rw [wanted_of rfl (yielded_of rfl sg)] at hw; exact absurd hw (by decide)
              case o23 =>
                intro a w hfr hG hd
                obtain ⟨d0, _⟩ := hd
                have sg : a.tmps.getD 191 undef = undef := (d0 rfl).now
                refine ⟨fun hw => ?_, fun hw => fun _ _ => trivial⟩
                rw [wanted_none rfl (yielded_undef rfl sg)] at hw; exact absurd hw (by decide)
              case o24 =>
                intro a w hfr hG hd
                obtain ⟨d0, _⟩ := hd
                have sg : a.tmps.getD 191 undef = undef := (d0 rfl).now
                refine ⟨fun hw => ?_, fun hw => fun _ _ => trivial⟩
                rw [wanted_none rfl (yielded_undef rfl sg)] at hw; exact absurd hw (by decide)
              case o25 =>
                intro a w hfr hG hd
                obtain ⟨d0, _⟩ := hd
                have sg : a.tmps.getD 191 undef = undef := (d0 rfl).now
                refine ⟨fun hw => ?_, fun hw => fun _ _ => trivial⟩
                rw [wanted_none rfl (yielded_undef rfl sg)] at hw; exact absurd hw (by decide)
              case o26 =>
                intro a w hfr hG hd
                obtain ⟨d0, d1, d2, _⟩ := hd
                have sg : a.tmps.getD 191 undef = undef := (d2 rfl).now
                refine ⟨fun hw => ?_, fun hw => fun _ _ => trivial⟩
                rw [wanted_none rfl (yielded_undef rfl sg)] at hw; exact absurd hw (by decide)
              case o27 =>
                intro a w hfr hG hd
                obtain ⟨d0, d1, _⟩ := hd
                have sg : a.tmps.getD 191 undef = undef := (d1 rfl).now
                refine ⟨fun hw => ?_, fun hw => fun _ _ => trivial⟩
                rw [wanted_none rfl (yielded_undef rfl sg)] at hw; exact absurd hw (by decide)
              case o28 =>
                intro a w hfr hG hd
                obtain ⟨d0, d1, _⟩ := hd
                have sg : a.tmps.getD 191 undef = undef := (d1 rfl).now
                refine ⟨fun hw => ?_, fun hw => fun _ _ => trivial⟩
                rw [wanted_none rfl (yielded_undef rfl sg)] at hw; exact absurd hw (by decide)
              case o29 =>
                intro a w hfr hG hd
                obtain ⟨d0, _⟩ := hd
                have sg : a.tmps.getD 191 undef = undef := (d0 rfl).now
                refine ⟨fun hw => ?_, fun hw => fun _ _ => trivial⟩
                rw [wanted_none rfl (yielded_undef rfl sg)] at hw; exact absurd hw (by decide)
              case o30 =>
                intro a w hfr hG hd
                obtain ⟨d0, _⟩ := hd
                have sg : a.tmps.getD 191 undef = undef := (d0 rfl).now
                refine ⟨fun hw => ?_, fun hw => fun _ _ => trivial⟩
                rw [wanted_none rfl (yielded_undef rfl sg)] at hw; exact absurd hw (by decide)
              case o31 =>
                intro a w hfr hG hd
                obtain ⟨d0, d1, d2, _⟩ := hd
                have sg : a.tmps.getD 191 undef = undef := (d2 rfl).now
                refine ⟨fun hw => ?_, fun hw => fun _ _ => trivial⟩
                rw [wanted_none rfl (yielded_undef rfl sg)] at hw; exact absurd hw (by decide)
              case o32 =>
                intro a w hfr hG hd
                obtain ⟨d0, d1, _⟩ := hd
                have sg : a.tmps.getD 191 undef = undef := (d1 rfl).now
                refine ⟨fun hw => ?_, fun hw => fun _ _ => trivial⟩
                rw [wanted_none rfl (yielded_undef rfl sg)] at hw; exact absurd hw (by decide)
              case o33 =>
                intro a w hfr hG hd
                obtain ⟨d0, d1, _⟩ := hd
                have sg : a.tmps.getD 191 undef = undef := (d1 rfl).now
                refine ⟨fun hw => ?_, fun hw => fun _ _ => trivial⟩
                rw [wanted_none rfl (yielded_undef rfl sg)] at hw; exact absurd hw (by decide)
              case o34 =>
                intro a w hfr hG hd
                obtain ⟨d0, _⟩ := hd
                have sg : a.tmps.getD 191 undef = undef := (d0 rfl).now
                refine ⟨fun hw => ?_, fun hw => fun _ _ => trivial⟩
                rw [wanted_none rfl (yielded_undef rfl sg)] at hw; exact absurd hw (by decide)
              case o35 =>
                intro a w hfr hG hd
                obtain ⟨d0, _⟩ := hd
                have sg : a.tmps.getD 191 undef = undef := (d0 rfl).now
                refine ⟨fun hw => ?_, fun hw => fun _ _ => trivial⟩
                rw [wanted_none rfl (yielded_undef rfl sg)] at hw; exact absurd hw (by decide)
              case o36 =>
                intro a w hfr hG hd
                obtain ⟨d0, d1, d2, _⟩ := hd
                have sg : a.tmps.getD 191 undef = undef := (d2 rfl).now
                refine ⟨fun hw => ?_, fun hw => fun _ _ => trivial⟩
                rw [wanted_none rfl (yielded_undef rfl sg)] at hw; exact absurd hw (by decide)
              case o37 =>
                intro a w hfr hG hd
                obtain ⟨d0, d1, _⟩ := hd
                have sg : a.tmps.getD 191 undef = undef := (d1 rfl).now
                refine ⟨fun hw => ?_, fun hw => fun _ _ => trivial⟩
                rw [wanted_none rfl (yielded_undef rfl sg)] at hw; exact absurd hw (by decide)
              case o38 =>
                intro a w hfr hG hd
                obtain ⟨d0, d1, _⟩ := hd
                have sg : a.tmps.getD 191 undef = undef := (d1 rfl).now
                refine ⟨fun hw => ?_, fun hw => fun _ _ => trivial⟩
                rw [wanted_none rfl (yielded_undef rfl sg)] at hw; exact absurd hw (by decide)
              case o39 =>
                intro a w hfr hG hd
                obtain ⟨d0, d1, _⟩ := hd
                have sg : a.tmps.getD 191 undef = undef := (d1 rfl).now
                refine ⟨fun hw => ?_, fun hw => fun _ _ => trivial⟩
                rw [wanted_none rfl (yielded_undef rfl sg)] at hw; exact absurd hw (by decide)
              case o40 =>
                intro a w hfr hG hd
                obtain ⟨d0, d1, d2, _⟩ := hd
                have sg : a.tmps.getD 191 undef = undef := (d2 rfl).now
                refine ⟨fun hw => ?_, fun hw => fun _ _ => trivial⟩
                rw [wanted_none rfl (yielded_undef rfl sg)] at hw; exact absurd hw (by decide)
              case o41 =>
                intro a w hfr hG hd
                obtain ⟨d0, d1, d2, d3, _⟩ := hd
                have sg : a.tmps.getD 191 undef = undef := (d3 rfl).now
                refine ⟨fun hw => ?_, fun hw => fun _ _ => trivial⟩
                rw [wanted_none rfl (yielded_undef rfl sg)] at hw; exact absurd hw (by decide)
              case o42 =>
                intro a w hfr hG hd
                obtain ⟨d0, _⟩ := hd
                have sg : a.tmps.getD 191 undef = undef := (d0 rfl).now
                refine ⟨fun hw => ?_, fun hw => fun _ _ => trivial⟩
                rw [wanted_none rfl (yielded_undef rfl sg)] at hw; exact absurd hw (by decide)
              case o43 =>
                intro a w hfr hG hd
                obtain ⟨d0, _⟩ := hd
                have sg : a.tmps.getD 191 undef = undef := (d0 rfl).now
                refine ⟨fun hw => ?_, fun hw => fun _ _ => trivial⟩
                rw [wanted_none rfl (yielded_undef rfl sg)] at hw; exact absurd hw (by decide)
              case o44 =>
                intro a w hfr hG hd
                obtain ⟨d0, d1, d2, _⟩ := hd
                have sg : a.tmps.getD 191 undef = undef := (d2 rfl).now
                refine ⟨fun hw => ?_, fun hw => fun _ _ => trivial⟩
                rw [wanted_none rfl (yielded_undef rfl sg)] at hw; exact absurd hw (by decide)
              case o45 =>
                intro a w hfr hG hd
                obtain ⟨d0, d1, _⟩ := hd
                have sg : a.tmps.getD 191 undef = undef := (d1 rfl).now
                refine ⟨fun hw => ?_, fun hw => fun _ _ => trivial⟩
                rw [wanted_none rfl (yielded_undef rfl sg)] at hw; exact absurd hw (by decide)
              case o46 =>
                intro a w hfr hG hd
                obtain ⟨d0, d1, _⟩ := hd
                have sg : a.tmps.getD 191 undef = undef := (d1 rfl).now
                refine ⟨fun hw => ?_, fun hw => fun _ _ => trivial⟩
                rw [wanted_none rfl (yielded_undef rfl sg)] at hw; exact absurd hw (by decide)
              case o47 =>
                intro a w hfr hG hd
                obtain ⟨d0, d1, d2, _⟩ := hd
                have sg : a.tmps.getD 191 undef = undef := (d2 rfl).now
                refine ⟨fun hw => ?_, fun hw => fun _ _ => trivial⟩
                rw [wanted_none rfl (yielded_undef rfl sg)] at hw; exact absurd hw (by decide)
              case o48 =>
                intro a w hfr hG hd
                obtain ⟨d0, d1, d2, _⟩ := hd
                have sg : a.tmps.getD 175 undef = .bool false := (d2 rfl).now
                refine ⟨fun hw => ?_, fun hw => fun _ _ => trivial⟩
                rw [wanted_of rfl (yielded_of rfl sg)] at hw; exact absurd hw (by decide)
              case o49 =>
                intro a w hfr hG hd
                obtain ⟨d0, d1, _⟩ := hd
                refine ⟨fun hw => ?_, fun hw => absurd hw (by simp [Region.wanted])⟩
                have s175 : a.tmps.getD 175 undef = .bool false := (d0 rfl).now
                refine op_yields (.bool false) ?_ ?_ ?_
                · simp only [execOp, resolve, List.map_toArray, List.map_cons, List.map_nil, Act.eval, s175]; simp [go_sem, -Array.getD_eq_getD_getElem?, s175]
                · exact Below.refl _ _
                · exact (fun _ _ => rfl)
              case hG => exact fun w' hb => HQ.out.below ((Below.refl _ _).drew.trans (hb.mono (by simp)))
              case hend =>
                intro vs w' hG hv
                have key : vs 49 = .bool false := by
                  obtain ⟨_, _, _, _, _, _, _, _, _, _, _, _, _, _, _, _, _, _, _, _, _, _, _, _, _, _, _, _, _, _, _, _, _, _, _, _, _, _, _, _, _, _, _, _, _, _, _, _, _, h49, _⟩ := hv
                  exact h49.now
                have HQ2 := Lib.hid hG.now
                clear hv hG HQ HEX HPW HC1 HC2
                simp only [putAll, Act.put, key]
                clear key
                go_simp
                go_wp2_with fail
                go_roundg g
                case measure => omega
                case rel => exact ⟨i + 1, B, B', by omega, by go_num, HQ2.out⟩
end Go.Proofs.YtealflkblkfhbaaDoor
