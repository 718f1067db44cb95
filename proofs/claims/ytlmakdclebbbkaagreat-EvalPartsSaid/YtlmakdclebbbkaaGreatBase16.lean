/- Texts, merged in one. -/
import Derived.Test.YtlmakdclebbbkaaGreatBase15
namespace Go.Proofs.YtlmakdclebbbkaaGreat
open Go.ChangeShapes Go.WideShapes Go.ChangeAt Go.RowKit
set_option linter.unusedVariables false
set_option linter.unusedSimpArgs false
set_option maxRecDepth 100000
theorem seg_set {α : Type} {P M S : List α} {a i : Nat} (hP : P.length = a) (hi : i < M.length) (v : α) : (P ++ (M ++ S)).set (a + i) v = P ++ (M.set i v ++ S) := by
  rw [List.set_append_right _ _ (by omega), show a + i - P.length = i by omega, List.set_append_left _ _ hi]
theorem seg_get {α : Type} {P M S : List α} {a i : Nat} (hP : P.length = a) (hi : i < M.length) : (P ++ (M ++ S))[a + i]? = M[i]? := by
  rw [List.getElem?_append_right (by omega), show a + i - P.length = i by omega, List.getElem?_append_left hi]
theorem cmpC (x y : RowT) (V : World) : Calls Tryz.prog 105 #[.agg #[.string x.text, (.slice x.ad x.ln x.cp), .int .i64 x.val], .agg #[.string y.text, (.slice y.ad y.ln y.cp), .int .i64 y.val]] V fun e w' => e = .returned (.int .i64 (cmpI x.text.toList y.text.toList)) ∧ Below V.heap.size V w' :=
  (sort1_any x.text y.text (.slice x.ad x.ln x.cp) (.slice y.ad y.ln y.cp) x.val y.val V rfl rfl).mono fun e w' h => ⟨h.1, by rw [h.2]; exact ((Below.refl _ _).alloc (Nat.le_refl _) _).alloc (by simp) _⟩
set_option maxHeartbeats 4000000 in
theorem insseg_any (w0 : World) (base g n c sa b : Nat) (P L S : List RowT) (w : World) (h : SrtAt w0 base g n c (P ++ (L ++ S)) w) (hP : P.length = sa) (hb : sa + L.length = b) (hL0 : 0 < L.length) (hn : n ≤ 1000000) :
    Calls Tryz.prog 165 #[.slice (some ⟨g, 0, none⟩) n c, .int .i64 sa, .int .i64 b, .func (.func 105) #[] #[]] w fun e w' => e = .returned (.tuple #[]) ∧ SrtAt w0 base g n c (P ++ (sortK RowT.key L ++ S)) w' := by
  obtain ⟨hgl, hnc, hcm⟩ := h.lt
  have hLn := h.len
  simp only [List.length_append] at hLn
  have hbn : b ≤ n := by omega
  obtain ⟨m, hm⟩ : ∃ m, L.length = m := ⟨_, rfl⟩
  have HLM := Lib.hid hm
  have H0 := Lib.hid (show SrtAt w0 base g n c (P ++ ((sortK RowT.key (L.take 1) ++ L.drop 1) ++ S)) w by
    have h0 := h
    cases hLL : L with
    | nil => rw [hLL] at hL0; simp at hL0
    | cons x l => rw [hLL] at h0; exact h0)
  have HSV : Hid (∀ k, k < m → (sortK RowT.key (L.take k)).length = k) := Lib.hid fun k hk => by rw [sortK_length, List.length_take]; omega
  have HNX := Lib.hid (fun k (hk : k < L.length) => sortK_next RowT.key L hk)
  have HDR := Lib.hid (fun k (hk : k < L.length) => List.drop_eq_getElem_cons hk)
  have HPL0 := Lib.hid hP
  have hab : sa + m = b := by omega
  have hm0 : 0 < m := by omega
  have HFN : Hid (L.take m = L ∧ L.drop m = []) := Lib.hid ⟨List.take_of_length_le (by omega), List.drop_of_length_le (by omega)⟩
  clear h hLn hP hm hb hL0
  have hw0 : IntKind.i64.wrap ((sa : Int) + 1) = ((sa + 1 : Nat) : Int) := by rw [IntKind.wrap_i64]; omega
  have hw00 : (sa : Int) + 1 = ((sa + 1 : Nat) : Int) := by omega
  obtain ⟨a1, ha1⟩ : ∃ x, sa + 1 = x := ⟨_, rfl⟩
  rw [ha1] at hw0 hw00
  go_enter Tryz.func165, Tryz.ntmps165
  go_wp2_with fail
  go_loopg [8] m (fun gk x8 wr => ∃ k kk : Nat, k + gk = m + 1 ∧ 0 < k ∧ k ≤ m ∧ sa + k = kk ∧ x8 = .int .i64 kk ∧ SrtAt w0 base g n c (P ++ ((sortK RowT.key (L.take k) ++ L.drop k) ++ S)) wr)
  case atStart => exact ⟨1, a1, by omega, by omega, hm0, ha1, rfl, H0.out⟩
  case round =>
    obtain ⟨k, kk, hkg, hk0, hkn, hkk, rfl, hsrt⟩ := hrel
    have HS := Lib.hid hsrt
    clear hsrt H0 hw0 hw00
    by_cases hlt : k < m
    case neg =>
      obtain rfl : m = k := by omega
      obtain rfl : b = kk := by omega
      have HE := Lib.hid (show SrtAt w0 base g n c (P ++ (sortK RowT.key L ++ S)) wr by
        have h := HS.out
        rwa [HFN.out.1, HFN.out.2, List.append_nil] at h)
      go_wp2_with fail
      first | go_end0 | skip
      exact ⟨rfl, HE.out⟩
    case pos =>
      cases gk with
      | zero => omega
      | succ gq =>
      have hpl := HSV.out k hlt
      have hkl : k < L.length := by have := HLM.out; omega
      have hnx := HNX.out k hkl
      have hdr := HDR.out k hkl
      have HS2 := Lib.hid (show SrtAt w0 base g n c (P ++ ((sortK RowT.key (L.take k) ++ L[k] :: L.drop (k + 1)) ++ S)) wr by rw [← hdr]; exact HS.out)
      obtain ⟨x, hx⟩ : ∃ x, L[k] = x := ⟨_, rfl⟩
      obtain ⟨pre, hpre⟩ : ∃ p, sortK RowT.key (L.take k) = p := ⟨_, rfl⟩
      obtain ⟨rest, hrest⟩ : ∃ p, L.drop (k + 1) = p := ⟨_, rfl⟩
      rw [hx] at HS2 hnx
      rw [hpre] at hpl HS2 hnx
      rw [hrest] at HS2
      have HPL := Lib.hid hpl
      have HM0 := Lib.hid (show SrtAt w0 base g n c (P ++ (midL pre x rest k ++ S)) wr by rw [← hpl, midL_top]; exact HS2.out)
      have HEND : Hid (∀ j, insAtK RowT.key pre x k = j → midL pre x rest j = sortK RowT.key (L.take (k + 1)) ++ L.drop (k + 1)) := Lib.hid fun j hj => by rw [hnx, hrest]; exact midL_ins pre x rest (by rw [hpl]; exact hj)
      clear hnx hdr hx hpre hrest HS HS2 hpl hkl
      have hkb : (kk : Int) < b := by omega
      go_wp2_with fail
      go_loopg [9] k (fun gj x9 wj => ∃ jj : Nat, sa + gj = jj ∧ x9 = .int .i64 jj ∧ gj ≤ k ∧ insAtK RowT.key pre x k = insAtK RowT.key pre x gj ∧ SrtAt w0 base g n c (P ++ (midL pre x rest gj ++ S)) wj)
      case atStart => exact ⟨kk, hkk, rfl, Nat.le_refl _, rfl, HM0.out⟩
      case round =>
        obtain ⟨jj, hjj, rfl, hjk, hins, hsrt⟩ := hrel
        have HS := Lib.hid hsrt; have HI := Lib.hid hins
        clear hsrt hins HM0
        cases gk with
        | zero =>
          obtain rfl : sa = jj := by omega
          have HZ := Lib.hid (show SrtAt w0 base g n c (P ++ ((sortK RowT.key (L.take (k + 1)) ++ L.drop (k + 1)) ++ S)) wr by rw [← HEND.out 0 HI.out]; exact HS.out)
          have hd : decide ((sa : Int) < (sa : Int)) = false := by simp
          have hd2 : ¬ (sa : Int) < (sa : Int) := by omega
          clear HS HI HEND
          go_upto_region 4 with fail
          go_quiet (fail)
          go_wp2_with fail
          go_roundg gq
          case measure => omega
          case rel => exact ⟨k + 1, kk + 1, by omega, by omega, by omega, by omega, by first | rfl | go_num, HZ.out.drewN _⟩
        | succ j1 =>
          have hj1 : j1 < pre.length := by have := HPL.out; omega
          have hml := midL_length pre x rest (j1 + 1)
          have HMX := Lib.hid ((seg_get (S := S) HPL0.out (show j1 + 1 < (midL pre x rest (j1 + 1)).length by omega)).trans (midL_at pre x rest (show j1 + 1 ≤ pre.length by omega)))
          have HMY := Lib.hid ((seg_get (S := S) HPL0.out (show j1 < (midL pre x rest (j1 + 1)).length by omega)).trans (midL_prev pre x rest hj1))
          have HMS := Lib.hid (show (((P ++ (midL pre x rest (j1 + 1) ++ S)).set (sa + (j1 + 1)) pre[j1]).set (sa + j1) x) = P ++ (midL pre x rest j1 ++ S) by
            rw [seg_set HPL0.out (by omega), seg_set HPL0.out (by rw [List.length_set]; omega), midL_swap pre x rest hj1])
          have HIN := Lib.hid (show insAtK RowT.key pre x (j1 + 1) = if (pre[j1]?.map fun y => Op.bytesLess x.key y.key) = some true then insAtK RowT.key pre x j1 else j1 + 1 from rfl)
          rw [List.getElem?_eq_getElem hj1] at HIN
          obtain ⟨y, hy⟩ : ∃ y, pre[j1] = y := ⟨_, rfl⟩
          rw [hy] at HMY HMS HIN
          obtain ⟨lt, hlt2⟩ : ∃ b, Op.bytesLess x.text.toList y.text.toList = b := ⟨_, rfl⟩
          have HLT : Hid (decide (cmpI x.text.toList y.text.toList < 0) = lt) := Lib.hid (by rw [cmpI_neg, hlt2])
          have HC := Lib.hid (fun V => cmpC x y V)
          have HLT2 := Lib.hid hlt2
          obtain ⟨j, hj⟩ : ∃ j, j1 + 1 = j := ⟨_, rfl⟩
          obtain ⟨jm, hjm⟩ : ∃ j, sa + j1 = j := ⟨_, rfl⟩
          rw [hj] at hjj HMX HMY HMS HS HIN
          have hjm2 : (jj : Int) - 1 = (jm : Int) := by omega
          have hwj : IntKind.i64.wrap ((jj : Int) - 1) = (jm : Int) := by rw [IntKind.wrap_i64]; omega
          have q0 : (sa : Int) < jj := by omega
          have q00 : sa < jj := by omega
          have hj3 : (jj : Int) < (n : Int) := by omega
          have hj4 : (jm : Int) < (n : Int) := by omega
          have q1 : ¬ n ≤ jj := by omega
          have q2 : ¬ n ≤ jm := by omega
          have hlt3 := HLT.out
          rw [hjj] at HMX HMS
          rw [hjm] at HMY HMS
          go_upto_region 4 with fail
          refine wp_region_facts (R := fun a b => Below a.heap.size a b) (G := (fun W => SrtAt w0 base g n c (P ++ (midL pre x rest j ++ S)) W)) (V := fun i' u' W => match i' with | 0 => u' = .int .i64 jj | 1 => u' = .int .i64 sa | 2 => u' = .bool true | 3 => u' = .bool true | 4 => u' = .func (.func 105) #[] #[] | 5 => u' = .slice (some ⟨g, 0, none⟩) n c | 6 => u' = .int .i64 jj | 7 => u' = .pointer (some ⟨g, jj * 3, none⟩) | 8 => u' = .agg #[.string x.text, (.slice x.ad x.ln x.cp), .int .i64 x.val] | 9 => u' = .slice (some ⟨g, 0, none⟩) n c | 10 => u' = .int .i64 jj | 11 => u' = .int .i64 jm | 12 => u' = .pointer (some ⟨g, jm * 3, none⟩) | 13 => u' = .agg #[.string y.text, (.slice y.ad y.ln y.cp), .int .i64 y.val] | 14 => u' = .int .i64 (cmpI x.text.toList y.text.toList) | 15 => u' = .bool lt | 16 => u' = .bool lt | _ => True) (by kernel_rfl) (fun w => Below.refl _ _) (fun a b c h1 h2 => h1.trans (h2.mono h1.size)) (by kernel_rfl) (by kernel_rfl) ?hG ⟨?o0, ?o1, ?o2, ?o3, ?o4, ?o5, ?o6, ?o7, ?o8, ?o9, ?o10, ?o11, ?o12, ?o13, ?o14, ?o15, ?o16, trivial⟩ ?hend
          case o0 =>
            intro a w hfr hG hd
            refine ⟨fun hw => ?_, fun hw => absurd hw (by simp [Region.wanted])⟩
            have s9 : a.tmps.getD 9 undef = .int .i64 jj := hfr.at 9 (by kernel_rfl)
            refine op_yields (.int .i64 jj) ?_ ?_ ?_
            · simp only [execOp, resolve, List.map_toArray, List.map_cons, List.map_nil, Act.eval, s9]; simp [go_sem, -Array.getD_eq_getD_getElem?, s9]
            · exact Below.refl _ _
            · exact (fun _ _ => rfl)
          case o1 =>
            intro a w hfr hG hd
            refine ⟨fun hw => ?_, fun hw => absurd hw (by simp [Region.wanted])⟩
            have s1 : a.tmps.getD 1 undef = .int .i64 sa := hfr.at 1 (by kernel_rfl)
            refine op_yields (.int .i64 sa) ?_ ?_ ?_
            · simp only [execOp, resolve, List.map_toArray, List.map_cons, List.map_nil, Act.eval, s1]; simp [go_sem, -Array.getD_eq_getD_getElem?, s1]
            · exact Below.refl _ _
            · exact (fun _ _ => rfl)
          case o2 =>
            intro a w hfr hG hd
            obtain ⟨d0, d1, _⟩ := hd
            refine ⟨fun hw => ?_, fun hw => absurd hw (by simp [Region.wanted])⟩
            have s18 : a.tmps.getD 18 undef = .int .i64 jj := (d0 rfl).now
            have s19 : a.tmps.getD 19 undef = .int .i64 sa := (d1 rfl).now
            refine op_yields (.bool true) ?_ ?_ ?_
            · simp only [execOp, resolve, List.map_toArray, List.map_cons, List.map_nil, Act.eval, s18, s19]; simp [go_sem, -Array.getD_eq_getD_getElem?, s18, s19, q0, q00]
            · exact Below.refl _ _
            · exact (fun _ _ => rfl)
          case o3 =>
            intro a w hfr hG hd
            obtain ⟨d0, _⟩ := hd
            refine ⟨fun hw => ?_, fun hw => absurd hw (by simp [Region.wanted])⟩
            have s20 : a.tmps.getD 20 undef = .bool true := (d0 rfl).now
            refine op_yields (.bool true) ?_ ?_ ?_
            · simp only [execOp, resolve, List.map_toArray, List.map_cons, List.map_nil, Act.eval, s20]; simp [go_sem, -Array.getD_eq_getD_getElem?, s20]
            · exact Below.refl _ _
            · exact (fun _ _ => rfl)
          case o4 =>
            intro a w hfr hG hd
            obtain ⟨d0, _⟩ := hd
            have sg : a.tmps.getD 21 undef = .bool true := (d0 rfl).now
            refine ⟨fun hw => ?_, fun hw => by rw [wanted_of rfl (yielded_of rfl sg)] at hw; exact absurd hw (by decide)⟩
            have s3 : a.tmps.getD 3 undef = .func (.func 105) #[] #[] := hfr.at 3 (by kernel_rfl)
            refine op_yields (.func (.func 105) #[] #[]) ?_ ?_ ?_
            · simp only [execOp, resolve, List.map_toArray, List.map_cons, List.map_nil, Act.eval, s3]; simp [go_sem, -Array.getD_eq_getD_getElem?, s3]
            · exact Below.refl _ _
            · exact (fun _ _ => rfl)
          case o5 =>
            intro a w hfr hG hd
            obtain ⟨d0, _⟩ := hd
            have sg : a.tmps.getD 21 undef = .bool true := (d0 rfl).now
            refine ⟨fun hw => ?_, fun hw => by rw [wanted_of rfl (yielded_of rfl sg)] at hw; exact absurd hw (by decide)⟩
            have s0 : a.tmps.getD 0 undef = .slice (some ⟨g, 0, none⟩) n c := hfr.at 0 (by kernel_rfl)
            refine op_yields (.slice (some ⟨g, 0, none⟩) n c) ?_ ?_ ?_
            · simp only [execOp, resolve, List.map_toArray, List.map_cons, List.map_nil, Act.eval, s0]; simp [go_sem, -Array.getD_eq_getD_getElem?, s0]
            · exact Below.refl _ _
            · exact (fun _ _ => rfl)
          case o6 =>
            intro a w hfr hG hd
            obtain ⟨d0, _⟩ := hd
            have sg : a.tmps.getD 21 undef = .bool true := (d0 rfl).now
            refine ⟨fun hw => ?_, fun hw => by rw [wanted_of rfl (yielded_of rfl sg)] at hw; exact absurd hw (by decide)⟩
            have s9 : a.tmps.getD 9 undef = .int .i64 jj := hfr.at 9 (by kernel_rfl)
            refine op_yields (.int .i64 jj) ?_ ?_ ?_
            · simp only [execOp, resolve, List.map_toArray, List.map_cons, List.map_nil, Act.eval, s9]; simp [go_sem, -Array.getD_eq_getD_getElem?, s9]
            · exact Below.refl _ _
            · exact (fun _ _ => rfl)
          case o7 =>
            intro a w hfr hG hd
            obtain ⟨d0, d1, d2, _⟩ := hd
            have sg : a.tmps.getD 21 undef = .bool true := (d2 rfl).now
            refine ⟨fun hw => ?_, fun hw => by rw [wanted_of rfl (yielded_of rfl sg)] at hw; exact absurd hw (by decide)⟩
            have s23 : a.tmps.getD 23 undef = .slice (some ⟨g, 0, none⟩) n c := (d0 rfl).now
            have s24 : a.tmps.getD 24 undef = .int .i64 jj := (d1 rfl).now
            refine op_yields (.pointer (some ⟨g, jj * 3, none⟩)) ?_ ?_ ?_
            · simp only [execOp, resolve, List.map_toArray, List.map_cons, List.map_nil, Act.eval, s23, s24]; simp [go_sem, -Array.getD_eq_getD_getElem?, s23, s24, q1]
            · exact Below.refl _ _
            · exact (fun _ _ => rfl)
          case o8 =>
            intro a w hfr hG hd
            obtain ⟨d0, d1, _⟩ := hd
            have sg : a.tmps.getD 21 undef = .bool true := (d1 rfl).now
            refine ⟨fun hw => ?_, fun hw => by rw [wanted_of rfl (yielded_of rfl sg)] at hw; exact absurd hw (by decide)⟩
            have s25 : a.tmps.getD 25 undef = .pointer (some ⟨g, jj * 3, none⟩) := (d0 rfl).now
            obtain ⟨z0, z1, z2⟩ := hG.now.cells (HMX.out)
            refine op_yields (.agg #[.string x.text, (.slice x.ad x.ln x.cp), .int .i64 x.val]) ?_ ?_ ?_
            · simp only [execOp, resolve, List.map_toArray, List.map_cons, List.map_nil, Act.eval, s25]; simp [go_sem, -Array.getD_eq_getD_getElem?, s25, z0, z1, z2]
            · exact Below.refl _ _
            · exact (fun _ _ => rfl)
          case o9 =>
            intro a w hfr hG hd
            obtain ⟨d0, _⟩ := hd
            have sg : a.tmps.getD 21 undef = .bool true := (d0 rfl).now
            refine ⟨fun hw => ?_, fun hw => by rw [wanted_of rfl (yielded_of rfl sg)] at hw; exact absurd hw (by decide)⟩
            have s0 : a.tmps.getD 0 undef = .slice (some ⟨g, 0, none⟩) n c := hfr.at 0 (by kernel_rfl)
            refine op_yields (.slice (some ⟨g, 0, none⟩) n c) ?_ ?_ ?_
            · simp only [execOp, resolve, List.map_toArray, List.map_cons, List.map_nil, Act.eval, s0]; simp [go_sem, -Array.getD_eq_getD_getElem?, s0]
            · exact Below.refl _ _
            · exact (fun _ _ => rfl)
          case o10 =>
            intro a w hfr hG hd
            obtain ⟨d0, _⟩ := hd
            have sg : a.tmps.getD 21 undef = .bool true := (d0 rfl).now
            refine ⟨fun hw => ?_, fun hw => by rw [wanted_of rfl (yielded_of rfl sg)] at hw; exact absurd hw (by decide)⟩
            have s9 : a.tmps.getD 9 undef = .int .i64 jj := hfr.at 9 (by kernel_rfl)
            refine op_yields (.int .i64 jj) ?_ ?_ ?_
            · simp only [execOp, resolve, List.map_toArray, List.map_cons, List.map_nil, Act.eval, s9]; simp [go_sem, -Array.getD_eq_getD_getElem?, s9]
            · exact Below.refl _ _
            · exact (fun _ _ => rfl)
          case o11 =>
            intro a w hfr hG hd
            obtain ⟨d0, d1, _⟩ := hd
            have sg : a.tmps.getD 21 undef = .bool true := (d1 rfl).now
            refine ⟨fun hw => ?_, fun hw => by rw [wanted_of rfl (yielded_of rfl sg)] at hw; exact absurd hw (by decide)⟩
            have s28 : a.tmps.getD 28 undef = .int .i64 jj := (d0 rfl).now
            refine op_yields (.int .i64 jm) ?_ ?_ ?_
            · simp only [execOp, resolve, List.map_toArray, List.map_cons, List.map_nil, Act.eval, s28]; simp [go_sem, -Array.getD_eq_getD_getElem?, s28, hwj]
            · exact Below.refl _ _
            · exact (fun _ _ => rfl)
          case o12 =>
            intro a w hfr hG hd
            obtain ⟨d0, d1, d2, _⟩ := hd
            have sg : a.tmps.getD 21 undef = .bool true := (d2 rfl).now
            refine ⟨fun hw => ?_, fun hw => by rw [wanted_of rfl (yielded_of rfl sg)] at hw; exact absurd hw (by decide)⟩
            have s27 : a.tmps.getD 27 undef = .slice (some ⟨g, 0, none⟩) n c := (d0 rfl).now
            have s29 : a.tmps.getD 29 undef = .int .i64 jm := (d1 rfl).now
            refine op_yields (.pointer (some ⟨g, jm * 3, none⟩)) ?_ ?_ ?_
            · simp only [execOp, resolve, List.map_toArray, List.map_cons, List.map_nil, Act.eval, s27, s29]; simp [go_sem, -Array.getD_eq_getD_getElem?, s27, s29, q2]
            · exact Below.refl _ _
            · exact (fun _ _ => rfl)
          case o13 =>
            intro a w hfr hG hd
            obtain ⟨d0, d1, _⟩ := hd
            have sg : a.tmps.getD 21 undef = .bool true := (d1 rfl).now
            refine ⟨fun hw => ?_, fun hw => by rw [wanted_of rfl (yielded_of rfl sg)] at hw; exact absurd hw (by decide)⟩
            have s30 : a.tmps.getD 30 undef = .pointer (some ⟨g, jm * 3, none⟩) := (d0 rfl).now
            obtain ⟨z0, z1, z2⟩ := hG.now.cells (HMY.out)
            refine op_yields (.agg #[.string y.text, (.slice y.ad y.ln y.cp), .int .i64 y.val]) ?_ ?_ ?_
            · simp only [execOp, resolve, List.map_toArray, List.map_cons, List.map_nil, Act.eval, s30]; simp [go_sem, -Array.getD_eq_getD_getElem?, s30, z0, z1, z2]
            · exact Below.refl _ _
            · exact (fun _ _ => rfl)
          case o14 =>
            intro a w hfr hG hd
            obtain ⟨d0, d1, d2, d3, d4, _⟩ := hd
            have sg : a.tmps.getD 21 undef = .bool true := (d3 rfl).now
            refine ⟨fun hw => ?_, fun hw => by rw [wanted_of rfl (yielded_of rfl sg)] at hw; exact absurd hw (by decide)⟩
            have s22 : a.tmps.getD 22 undef = .func (.func 105) #[] #[] := (d0 rfl).now
            have s26 : a.tmps.getD 26 undef = .agg #[.string x.text, (.slice x.ad x.ln x.cp), .int .i64 x.val] := (d1 rfl).now
            have s31 : a.tmps.getD 31 undef = .agg #[.string y.text, (.slice y.ad y.ln y.cp), .int .i64 y.val] := (d2 rfl).now
            refine op_calls2 ((HC.out w).mono fun e' w' hh => ⟨_, hh.1, hh.2, (fun _ _ => rfl)⟩) ?_
            simp only [execOp, resolve, List.map_toArray, List.map_cons, List.map_nil, Act.eval, s22, s26, s31]; simp [go_sem, -Array.getD_eq_getD_getElem?, s22, s26, s31]
          case o15 =>
            intro a w hfr hG hd
            obtain ⟨d0, d1, _⟩ := hd
            have sg : a.tmps.getD 21 undef = .bool true := (d1 rfl).now
            refine ⟨fun hw => ?_, fun hw => by rw [wanted_of rfl (yielded_of rfl sg)] at hw; exact absurd hw (by decide)⟩
            have s32 : a.tmps.getD 32 undef = .int .i64 (cmpI x.text.toList y.text.toList) := (d0 rfl).now
            refine op_yields (.bool lt) ?_ ?_ ?_
            · simp only [execOp, resolve, List.map_toArray, List.map_cons, List.map_nil, Act.eval, s32]; simp [go_sem, -Array.getD_eq_getD_getElem?, s32, hlt3]
            · exact Below.refl _ _
            · exact (fun _ _ => rfl)
          case o16 =>
            intro a w hfr hG hd
            obtain ⟨d0, d1, _⟩ := hd
            refine ⟨fun hw => ?_, fun hw => absurd hw (by simp [Region.wanted])⟩
            have s21 : a.tmps.getD 21 undef = .bool true := (d0 rfl).now
            have s33 : a.tmps.getD 33 undef = .bool lt := (d1 rfl).now
            refine op_yields (.bool lt) ?_ ?_ ?_
            · simp only [execOp, resolve, List.map_toArray, List.map_cons, List.map_nil, Act.eval, s21, s33]; simp [go_sem, -Array.getD_eq_getD_getElem?, s21, s33]
            · exact Below.refl _ _
            · exact (fun _ _ => rfl)
          case hG => exact fun w' hb => HS.out.below ((Below.refl _ _).drew.trans (hb.mono (by simp)))
          case hend =>
            intro vs w' hG hv
            have key : vs 16 = .bool lt := by
              obtain ⟨_, _, _, _, _, _, _, _, _, _, _, _, _, _, _, _, h16, _⟩ := hv
              exact h16.now
            have HS2 := Lib.hid hG.now
            clear hv hG HC HS
            simp only [putAll, Act.put, key]
            clear key hlt3
            go_simp
            cases lt with
            | false =>
              have HZ := Lib.hid (show SrtAt w0 base g n c (P ++ ((sortK RowT.key (L.take (k + 1)) ++ L.drop (k + 1)) ++ S)) w' by
                rw [← HEND.out j (by rw [HI.out, hj, HIN.out, if_neg (by simpa [RowT.key] using HLT2.out)])]; exact HS2.out)
              clear HS2 HI HEND HIN HMX HMY HMS
              go_wp2_with fail
              go_roundg gq
              case measure => omega
              case rel => exact ⟨k + 1, kk + 1, by omega, by omega, by omega, by omega, by first | rfl | go_num, HZ.out⟩
            | true =>
              go_upto_region 6 with fail
              obtain ⟨x0, x1, x2⟩ := HS2.out.cells HMX.out
              obtain ⟨y0, y1, y2⟩ := HS2.out.cells HMY.out
              have hadd := add_mkV g (jj * 3)
              have hadd1 := add_mkV g (jm * 3)
              have hf := HS2.out.frozen
              have HP1 := HS2.out.swap HMX.out HMY.out
              have HP2 := Lib.hid (show SrtAt w0 base g n c (P ++ (midL pre x rest j1 ++ S)) _ from HMS.out ▸ HP1)
              have HI2 := Lib.hid (show insAtK RowT.key pre x k = insAtK RowT.key pre x j1 by rw [HI.out, hj, HIN.out, if_pos (by simpa [RowT.key] using HLT2.out)])
              clear HP1 HS2 HI HIN HMX HMY HMS HEND HLT HLT2
              go_region
              generalize hWW : World.setCell _ _ _ = W6 at HP2 ⊢
              have HP3 := Lib.hid (show SrtAt w0 base g n c (P ++ (midL pre x rest j1 ++ S)) W6 from HP2.out)
              clear HP2 hWW
              go_wp2_with fail
              go_roundg j1
              case measure => omega
              case rel => exact ⟨jm, hjm, by first | rfl | go_num, by omega, HI2.out, HP3.out.below (Below.refl _ _).drew⟩
theorem insseg_zero (A : Option Addr) (n c a : Nat) (w : World) (ha : a ≤ 1000000) :
    Calls Tryz.prog 165 #[.slice A n c, .int .i64 a, .int .i64 a, .func (.func 105) #[] #[]] w fun e w' => e = .returned (.tuple #[]) ∧ w = w' := by
  obtain ⟨a1, ha1⟩ : ∃ x, a + 1 = x := ⟨_, rfl⟩
  have hw0 : IntKind.i64.wrap ((a : Int) + 1) = (a1 : Int) := by rw [IntKind.wrap_i64]; omega
  have hw1 : (a : Int) + 1 = (a1 : Int) := by omega
  have hlt : ¬ (a1 : Int) < (a : Int) := by omega
  have hlt2 : ¬ a1 < a := by omega
  go_enter Tryz.func165, Tryz.ntmps165
  go_wp2_with fail
  go_loopg [8] 1 (fun gk x8 wr => x8 = .int .i64 a1 ∧ w = wr)
  case atStart => exact ⟨rfl, rfl⟩
  case round =>
    obtain ⟨rfl, rfl⟩ := hrel
    go_wp2_with fail
    go_end0
    exact ⟨rfl, rfl⟩
end Go.Proofs.YtlmakdclebbbkaaGreat
