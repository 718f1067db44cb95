/- Texts, merged in one. -/
import Derived.Test.YtlmakdclebbbkaaGreatBase16
namespace Go.Proofs.YtlmakdclebbbkaaGreat
open Go.ChangeShapes Go.WideShapes Go.ChangeAt Go.RowKit
set_option linter.unusedVariables false
set_option linter.unusedSimpArgs false
set_option maxRecDepth 100000
def ALt (x : RowT) (l : List RowT) (i : Nat) : Prop := ∀ q, q < i → ∀ y, l[q]? = some y → Op.bytesLess y.key x.key = true
def AGe (x : RowT) (l : List RowT) (j : Nat) : Prop := ∀ q, j ≤ q → ∀ y, l[q]? = some y → LeK RowT.key x y
theorem sorted_at {l : List RowT} (h : l.Pairwise (LeK RowT.key)) {p q : Nat} {x y : RowT} (hpq : p ≤ q) (hx : l[p]? = some x) (hy : l[q]? = some y) : LeK RowT.key x y := by
  obtain ⟨h1, rfl⟩ := List.getElem?_eq_some_iff.1 hx
  obtain ⟨h2, rfl⟩ := List.getElem?_eq_some_iff.1 hy
  rcases Nat.lt_or_eq_of_le hpq with h3 | h3
  · exact List.pairwise_iff_getElem.1 h p q h1 h2 h3
  · subst h3; exact less_irrefl _
theorem le_less {x y z : RowT} (h : LeK RowT.key x y) (h2 : Op.bytesLess y.key z.key = true) : Op.bytesLess x.key z.key = true := by
  cases e : Op.bytesLess x.key z.key with
  | true => rfl
  | false => have h3 := leK_trans (show LeK RowT.key z x from e) h; unfold LeK at h3; rw [h2] at h3; cases h3
theorem alt_of {x y : RowT} {l : List RowT} {p : Nat} (h : l.Pairwise (LeK RowT.key)) (hy : l[p]? = some y) (hl : Op.bytesLess y.key x.key = true) : ALt x l (p + 1) := fun q hq z hz => le_less (sorted_at h (by omega) hz hy) hl
theorem age_of {x y : RowT} {l : List RowT} {p : Nat} (h : l.Pairwise (LeK RowT.key)) (hy : l[p]? = some y) (hl : Op.bytesLess y.key x.key = false) : AGe x l p := fun q hq z hz => leK_trans (show LeK RowT.key x y from hl) (sorted_at h hq hy hz)
theorem alt_mem {x : RowT} {l : List RowT} {i : Nat} (h : ALt x l i) : ∀ y ∈ l.take i, Op.bytesLess y.key x.key = true := fun y hy => by
  obtain ⟨q, hq, e⟩ := List.getElem_of_mem hy
  rw [List.length_take] at hq
  refine h q (by omega) y ?_
  rw [← e, List.getElem_take, List.getElem?_eq_getElem]
theorem age_mem {x : RowT} {l : List RowT} {i : Nat} (h : AGe x l i) : ∀ y ∈ l.drop i, LeK RowT.key x y := fun y hy => by
  obtain ⟨q, hq, e⟩ := List.getElem_of_mem hy
  rw [List.length_drop] at hq
  refine h (i + q) (by omega) y ?_
  rw [← e, List.getElem_drop, List.getElem?_eq_getElem]
theorem alt_zero (x : RowT) (l : List RowT) : ALt x l 0 := fun q hq => absurd hq (Nat.not_lt_zero _)
theorem age_len {x : RowT} {l : List RowT} {j : Nat} (h : l.length ≤ j) : AGe x l j := fun q hq y hy => by rw [List.getElem?_eq_none (by omega)] at hy; cases hy
def BLe (y : RowT) (l : List RowT) (i : Nat) : Prop := ∀ q, q < i → ∀ x, l[q]? = some x → LeK RowT.key x y
def BGt (y : RowT) (l : List RowT) (j : Nat) : Prop := ∀ q, j ≤ q → ∀ x, l[q]? = some x → Op.bytesLess y.key x.key = true
theorem ble_zero (x : RowT) (l : List RowT) : BLe x l 0 := fun q hq => absurd hq (Nat.not_lt_zero _)
theorem bgt_len {x : RowT} {l : List RowT} {j : Nat} (h : l.length ≤ j) : BGt x l j := fun q hq y hy => by rw [List.getElem?_eq_none (by omega)] at hy; cases hy
theorem less_le2 {x y z : RowT} (h : Op.bytesLess x.key y.key = true) (h2 : LeK RowT.key y z) : Op.bytesLess x.key z.key = true := by
  cases e : Op.bytesLess x.key z.key with
  | true => rfl
  | false => have h3 := leK_trans h2 (show LeK RowT.key z x from e); unfold LeK at h3; rw [h] at h3; cases h3
theorem ble_of {x y : RowT} {l : List RowT} {p : Nat} (h : l.Pairwise (LeK RowT.key)) (hx : l[p]? = some x) (hl : Op.bytesLess y.key x.key = false) : BLe y l (p + 1) := fun q hq z hz => leK_trans (sorted_at h (by omega) hz hx) (show LeK RowT.key x y from hl)
theorem bgt_of {x y : RowT} {l : List RowT} {p : Nat} (h : l.Pairwise (LeK RowT.key)) (hx : l[p]? = some x) (hl : Op.bytesLess y.key x.key = true) : BGt y l p := fun q hq z hz => less_le2 hl (sorted_at h hq hx hz)
theorem ble_mem {x : RowT} {l : List RowT} {i : Nat} (h : BLe x l i) : ∀ y ∈ l.take i, LeK RowT.key y x := fun y hy => by
  obtain ⟨q, hq, e⟩ := List.getElem_of_mem hy
  rw [List.length_take] at hq
  refine h q (by omega) y ?_
  rw [← e, List.getElem_take, List.getElem?_eq_getElem]
theorem bgt_mem {x : RowT} {l : List RowT} {i : Nat} (h : BGt x l i) : ∀ y ∈ l.drop i, Op.bytesLess x.key y.key = true := fun y hy => by
  obtain ⟨q, hq, e⟩ := List.getElem_of_mem hy
  rw [List.length_drop] at hq
  refine h (i + q) (by omega) y ?_
  rw [← e, List.getElem_drop, List.getElem?_eq_getElem]
set_option maxHeartbeats 4000000 in
theorem symm_one (w0 : World) (base g n c sa m sb : Nat) (P Y S : List RowT) (x : RowT) (w : World) (h : SrtAt w0 base g n c (P ++ (x :: (Y ++ S))) w) (hP : P.length = sa) (hm : sa + 1 = m) (hb : m + Y.length = sb) (hY : Y.Pairwise (LeK RowT.key)) (hn : n ≤ 1000000) :
    Calls Tryz.prog 166 #[.slice (some ⟨g, 0, none⟩) n c, .int .i64 sa, .int .i64 m, .int .i64 sb, .func (.func 105) #[] #[]] w fun e w' => e = .returned (.tuple #[]) ∧ SrtAt w0 base g n c (P ++ (sortK RowT.key ([x] ++ Y) ++ S)) w' := by
  obtain ⟨hgl, hnc, hcm⟩ := h.lt
  have hLn := h.len
  simp only [List.length_append, List.length_cons] at hLn
  have hbn : sb ≤ n := by omega
  obtain ⟨N, hN⟩ : ∃ N, Y.length = N := ⟨_, rfl⟩
  have HN := Lib.hid hN
  obtain ⟨L0, hL0⟩ : ∃ L, P ++ (x :: (Y ++ S)) = L := ⟨_, rfl⟩
  have HL0 := Lib.hid hL0
  rw [hL0] at h
  have HXL := Lib.hid (show L0[sa]? = some x by rw [← hL0, List.getElem?_append_right (by omega), show sa - P.length = 0 by omega]; rfl)
  have HYL0 := Lib.hid (fun q (hq : q < N) y (hy : Y[q]? = some y) => show L0[m + q]? = some y by
    rw [← hL0, List.getElem?_append_right (by omega), show m + q - P.length = q + 1 by omega, List.getElem?_cons_succ, List.getElem?_append_left (by omega)]; exact hy)
  have H0 := Lib.hid h; have HY := Lib.hid hY; have HPL := Lib.hid hP
  have hbm : m + N = sb := by omega
  clear h hLn hP hb hL0 hN hY
  have hw1 : IntKind.i64.wrap ((m : Int) - (sa : Int)) = 1 := by rw [IntKind.wrap_i64]; omega
  have t1 : (m : Int) - (sa : Int) = 1 := by omega
  go_enter Tryz.func166, Tryz.ntmps166
  go_wp2_with fail
  go_loopg [10, 11] N (fun gk x10 x11 wr => ∃ i j ii jj : Nat, m + i = ii ∧ m + j = jj ∧ i ≤ j ∧ j ≤ N ∧ j - i ≤ gk ∧ x10 = .int .i64 ii ∧ x11 = .int .i64 jj ∧ ALt x Y i ∧ AGe x Y j ∧ SrtAt w0 base g n c L0 wr)
  case atStart => exact ⟨0, N, m, sb, by omega, hbm, by omega, Nat.le_refl _, by omega, rfl, rfl, alt_zero _ _, age_len (by have := HN.out; omega), H0.out⟩
  case round =>
    obtain ⟨i, j, ii, jj, hii, hjj, hij, hjN, hgk, rfl, rfl, halt, hage, hs⟩ := hrel
    have HS := Lib.hid hs; have HA := Lib.hid halt; have HG := Lib.hid hage
    clear hs halt hage H0 t1 hw1
    by_cases hlt : i < j
    case pos =>
      have hlt2 : (ii : Int) < jj := by omega
      cases gk with
      | zero => omega
      | succ gq =>
      obtain ⟨hh, hhh⟩ : ∃ q, (ii + jj) / 2 = q := ⟨_, rfl⟩
      obtain ⟨h1, hh1⟩ : ∃ q, hh - m = q := ⟨_, rfl⟩
      have hmid : ((ii : Int) + (jj : Int)) / 2 = (hh : Int) := by omega
      obtain ⟨y, hy⟩ : ∃ y, Y[h1]? = some y := ⟨_, List.getElem?_eq_getElem (by have := HN.out; omega)⟩
      have HYS := Lib.hid hy
      have HYL := Lib.hid (show L0[hh]? = some y by have h := HYL0.out h1 (by omega) y hy; rwa [show m + h1 = hh by omega] at h)
      obtain ⟨lt, hltv⟩ : ∃ b, Op.bytesLess y.text.toList x.text.toList = b := ⟨_, rfl⟩
      have HLV := Lib.hid hltv
      have hlt3 : decide (cmpI y.text.toList x.text.toList < 0) = lt := by rw [cmpI_neg, hltv]
      have HC := Lib.hid (fun V => cmpC y x V)
      have q1 : ¬ n ≤ hh := by omega
      have q2 : ¬ n ≤ sa := by omega
      have q3 : (hh : Int) < n := by omega
      have q4 : (sa : Int) < n := by omega
      have HAR := Lib.hid (show i ≤ h1 ∧ h1 < j ∧ m + h1 = hh by omega)
      clear hy hltv hhh hh1
      go_upto_region 5 with fail
      refine wp_region_facts (R := fun a b => Below a.heap.size a b) (G := (fun W => SrtAt w0 base g n c L0 W)) (V := fun i' u' W => match i' with | 0 => u' = .func (.func 105) #[] #[] | 1 => u' = .slice (some ⟨g, 0, none⟩) n c | 2 => u' = .int .i64 hh | 3 => u' = .pointer (some ⟨g, hh * 3, none⟩) | 4 => u' = .agg #[.string y.text, (.slice y.ad y.ln y.cp), .int .i64 y.val] | 5 => u' = .slice (some ⟨g, 0, none⟩) n c | 6 => u' = .int .i64 sa | 7 => u' = .pointer (some ⟨g, sa * 3, none⟩) | 8 => u' = .agg #[.string x.text, (.slice x.ad x.ln x.cp), .int .i64 x.val] | 9 => u' = .int .i64 (cmpI y.text.toList x.text.toList) | 10 => u' = .bool lt | _ => True) (by kernel_rfl) (fun w => Below.refl _ _) (fun a b c h1 h2 => h1.trans (h2.mono h1.size)) (by kernel_rfl) (by kernel_rfl) ?hG ⟨?o0, ?o1, ?o2, ?o3, ?o4, ?o5, ?o6, ?o7, ?o8, ?o9, ?o10, trivial⟩ ?hend
      case o0 =>
        intro a w hfr hG hd
        refine ⟨fun hw => ?_, fun hw => absurd hw (by simp [Region.wanted])⟩
        have s4 : a.tmps.getD 4 undef = .func (.func 105) #[] #[] := hfr.at 4 (by kernel_rfl)
        refine op_yields (.func (.func 105) #[] #[]) ?_ ?_ ?_
        · simp only [execOp, resolve, List.map_toArray, List.map_cons, List.map_nil, Act.eval, s4]; simp [go_sem, -Array.getD_eq_getD_getElem?, s4]
        · exact Below.refl _ _
        · exact (fun _ _ => rfl)
      case o1 =>
        intro a w hfr hG hd
        refine ⟨fun hw => ?_, fun hw => absurd hw (by simp [Region.wanted])⟩
        have s0 : a.tmps.getD 0 undef = .slice (some ⟨g, 0, none⟩) n c := hfr.at 0 (by kernel_rfl)
        refine op_yields (.slice (some ⟨g, 0, none⟩) n c) ?_ ?_ ?_
        · simp only [execOp, resolve, List.map_toArray, List.map_cons, List.map_nil, Act.eval, s0]; simp [go_sem, -Array.getD_eq_getD_getElem?, s0]
        · exact Below.refl _ _
        · exact (fun _ _ => rfl)
      case o2 =>
        intro a w hfr hG hd
        refine ⟨fun hw => ?_, fun hw => absurd hw (by simp [Region.wanted])⟩
        have s12 : a.tmps.getD 12 undef = .int .i64 hh := hfr.at 12 (by kernel_rfl)
        refine op_yields (.int .i64 hh) ?_ ?_ ?_
        · simp only [execOp, resolve, List.map_toArray, List.map_cons, List.map_nil, Act.eval, s12]; simp [go_sem, -Array.getD_eq_getD_getElem?, s12]
        · exact Below.refl _ _
        · exact (fun _ _ => rfl)
      case o3 =>
        intro a w hfr hG hd
        obtain ⟨d0, d1, _⟩ := hd
        refine ⟨fun hw => ?_, fun hw => absurd hw (by simp [Region.wanted])⟩
        have s41 : a.tmps.getD 41 undef = .slice (some ⟨g, 0, none⟩) n c := (d0 rfl).now
        have s42 : a.tmps.getD 42 undef = .int .i64 hh := (d1 rfl).now
        refine op_yields (.pointer (some ⟨g, hh * 3, none⟩)) ?_ ?_ ?_
        · simp only [execOp, resolve, List.map_toArray, List.map_cons, List.map_nil, Act.eval, s41, s42]; simp [go_sem, -Array.getD_eq_getD_getElem?, s41, s42, q1]
        · exact Below.refl _ _
        · exact (fun _ _ => rfl)
      case o4 =>
        intro a w hfr hG hd
        obtain ⟨d0, _⟩ := hd
        refine ⟨fun hw => ?_, fun hw => absurd hw (by simp [Region.wanted])⟩
        have s43 : a.tmps.getD 43 undef = .pointer (some ⟨g, hh * 3, none⟩) := (d0 rfl).now
        obtain ⟨z0, z1, z2⟩ := hG.now.cells (HYL.out)
        refine op_yields (.agg #[.string y.text, (.slice y.ad y.ln y.cp), .int .i64 y.val]) ?_ ?_ ?_
        · simp only [execOp, resolve, List.map_toArray, List.map_cons, List.map_nil, Act.eval, s43]; simp [go_sem, -Array.getD_eq_getD_getElem?, s43, z0, z1, z2]
        · exact Below.refl _ _
        · exact (fun _ _ => rfl)
      case o5 =>
        intro a w hfr hG hd
        refine ⟨fun hw => ?_, fun hw => absurd hw (by simp [Region.wanted])⟩
        have s0 : a.tmps.getD 0 undef = .slice (some ⟨g, 0, none⟩) n c := hfr.at 0 (by kernel_rfl)
        refine op_yields (.slice (some ⟨g, 0, none⟩) n c) ?_ ?_ ?_
        · simp only [execOp, resolve, List.map_toArray, List.map_cons, List.map_nil, Act.eval, s0]; simp [go_sem, -Array.getD_eq_getD_getElem?, s0]
        · exact Below.refl _ _
        · exact (fun _ _ => rfl)
      case o6 =>
        intro a w hfr hG hd
        refine ⟨fun hw => ?_, fun hw => absurd hw (by simp [Region.wanted])⟩
        have s1 : a.tmps.getD 1 undef = .int .i64 sa := hfr.at 1 (by kernel_rfl)
        refine op_yields (.int .i64 sa) ?_ ?_ ?_
        · simp only [execOp, resolve, List.map_toArray, List.map_cons, List.map_nil, Act.eval, s1]; simp [go_sem, -Array.getD_eq_getD_getElem?, s1]
        · exact Below.refl _ _
        · exact (fun _ _ => rfl)
      case o7 =>
        intro a w hfr hG hd
        obtain ⟨d0, d1, _⟩ := hd
        refine ⟨fun hw => ?_, fun hw => absurd hw (by simp [Region.wanted])⟩
        have s45 : a.tmps.getD 45 undef = .slice (some ⟨g, 0, none⟩) n c := (d0 rfl).now
        have s46 : a.tmps.getD 46 undef = .int .i64 sa := (d1 rfl).now
        refine op_yields (.pointer (some ⟨g, sa * 3, none⟩)) ?_ ?_ ?_
        · simp only [execOp, resolve, List.map_toArray, List.map_cons, List.map_nil, Act.eval, s45, s46]; simp [go_sem, -Array.getD_eq_getD_getElem?, s45, s46, q2]
        · exact Below.refl _ _
        · exact (fun _ _ => rfl)
      case o8 =>
        intro a w hfr hG hd
        obtain ⟨d0, _⟩ := hd
        refine ⟨fun hw => ?_, fun hw => absurd hw (by simp [Region.wanted])⟩
        have s47 : a.tmps.getD 47 undef = .pointer (some ⟨g, sa * 3, none⟩) := (d0 rfl).now
        obtain ⟨z0, z1, z2⟩ := hG.now.cells (HXL.out)
        refine op_yields (.agg #[.string x.text, (.slice x.ad x.ln x.cp), .int .i64 x.val]) ?_ ?_ ?_
        · simp only [execOp, resolve, List.map_toArray, List.map_cons, List.map_nil, Act.eval, s47]; simp [go_sem, -Array.getD_eq_getD_getElem?, s47, z0, z1, z2]
        · exact Below.refl _ _
        · exact (fun _ _ => rfl)
      case o9 =>
        intro a w hfr hG hd
        obtain ⟨d0, d1, d2, _⟩ := hd
        refine ⟨fun hw => ?_, fun hw => absurd hw (by simp [Region.wanted])⟩
        have s40 : a.tmps.getD 40 undef = .func (.func 105) #[] #[] := (d0 rfl).now
        have s44 : a.tmps.getD 44 undef = .agg #[.string y.text, (.slice y.ad y.ln y.cp), .int .i64 y.val] := (d1 rfl).now
        have s48 : a.tmps.getD 48 undef = .agg #[.string x.text, (.slice x.ad x.ln x.cp), .int .i64 x.val] := (d2 rfl).now
        refine op_calls2 ((HC.out w).mono fun e' w' hh => ⟨_, hh.1, hh.2, (fun _ _ => rfl)⟩) ?_
        simp only [execOp, resolve, List.map_toArray, List.map_cons, List.map_nil, Act.eval, s40, s44, s48]; simp [go_sem, -Array.getD_eq_getD_getElem?, s40, s44, s48]
      case o10 =>
        intro a w hfr hG hd
        obtain ⟨d0, _⟩ := hd
        refine ⟨fun hw => ?_, fun hw => absurd hw (by simp [Region.wanted])⟩
        have s49 : a.tmps.getD 49 undef = .int .i64 (cmpI y.text.toList x.text.toList) := (d0 rfl).now
        refine op_yields (.bool lt) ?_ ?_ ?_
        · simp only [execOp, resolve, List.map_toArray, List.map_cons, List.map_nil, Act.eval, s49]; simp [go_sem, -Array.getD_eq_getD_getElem?, s49, hlt3]
        · exact Below.refl _ _
        · exact (fun _ _ => rfl)
      case hG => exact fun w' hb => HS.out.below ((Below.refl _ _).drew.trans (hb.mono (by simp)))
      case hend =>
        intro vs w' hG hv
        have key : vs 10 = .bool lt := by
          obtain ⟨_, _, _, _, _, _, _, _, _, _, h10, _⟩ := hv
          exact h10.now
        have HS2 := Lib.hid hG.now
        clear hv hG HC HS hlt3 hmid
        simp only [putAll, Act.put, key]
        clear key
        go_simp
        have har := HAR.out
        cases lt with
        | true =>
          have HA2 := Lib.hid (alt_of HY.out HYS.out HLV.out)
          go_wp2_with fail
          go_roundg gq
          case measure => omega
          case rel => exact ⟨h1 + 1, j, hh + 1, jj, by omega, hjj, by omega, hjN, by omega, by first | rfl | go_num, rfl, HA2.out, HG.out, HS2.out⟩
        | false =>
          have HG2 := Lib.hid (age_of HY.out HYS.out HLV.out)
          go_wp2_with fail
          go_roundg gq
          case measure => omega
          case rel => exact ⟨i, h1, ii, hh, hii, by omega, by omega, by omega, by omega, rfl, rfl, HA.out, HG2.out, HS2.out⟩
    case neg =>
      obtain rfl : i = j := by omega
      obtain rfl : ii = jj := by omega
      have e1 : Y = Y.take i ++ Y.drop i := (List.take_append_drop _ _).symm
      have HSO := Lib.hid (show sortK RowT.key ([x] ++ Y) = Y.take i ++ x :: Y.drop i by
        have h := sort_one (alt_mem HA.out) (age_mem HG.out) (by rw [← e1]; exact HY.out)
        rwa [← e1] at h)
      have l1 : (Y.take i).length = i := by rw [List.length_take]; have := HN.out; omega
      have HS1 := Lib.hid (show SrtAt w0 base g n c (P ++ ([] ++ (x :: (Y.take i ++ (Y.drop i ++ S))))) wr by
        have h := HS.out
        rw [← HL0.out] at h
        rw [List.nil_append, ← List.append_assoc (Y.take i), ← e1]; exact h)
      generalize Y.take i = Y1 at *
      generalize Y.drop i = Y2 at *
      obtain ⟨zz, hzz⟩ : ∃ z, sa + i = z := ⟨_, rfl⟩
      have hz1 : (ii : Int) - 1 = (zz : Int) := by omega
      have hz2 : IntKind.i64.wrap ((ii : Int) - 1) = (zz : Int) := by rw [IntKind.wrap_i64]; omega
      clear HS e1
      go_wp2_with fail
      go_loopg [13] i (fun gk x13 wr => ∃ q kk : Nat, q + gk = i ∧ sa + q = kk ∧ x13 = .int .i64 kk ∧ SrtAt w0 base g n c (P ++ (Y1.take q ++ (x :: (Y1.drop q ++ (Y2 ++ S))))) wr)
      case atStart => exact ⟨0, sa, by omega, by omega, rfl, HS1.out⟩
      case round =>
      obtain ⟨q, kk, hqg, hkk, rfl, hs⟩ := hrel
      have HS := Lib.hid hs
      clear hs HS1
      cases gk with
      | zero =>
        obtain rfl : q = i := by omega
        obtain rfl : kk = zz := by omega
        have HF := Lib.hid (show SrtAt w0 base g n c (P ++ (sortK RowT.key ([x] ++ Y) ++ S)) wr by
          have h := HS.out
          rw [List.take_of_length_le (by omega), List.drop_of_length_le (by omega), List.nil_append] at h
          rw [HSO.out, List.append_assoc, List.cons_append]; exact h)
        clear HS
        go_wp2_with fail
        exact bodyPost_ret (v := .tuple #[]) (by simp [results, Tryz.results166, go_sem]) rfl ⟨rfl, HF.out⟩
      | succ gq =>
      have hq : q < Y1.length := by omega
      have e2 : P ++ (Y1.take q ++ (x :: (Y1.drop q ++ (Y2 ++ S)))) = (P ++ Y1.take q) ++ x :: ([] ++ Y1[q] :: (Y1.drop (q + 1) ++ (Y2 ++ S))) := by
        rw [List.drop_eq_getElem_cons hq]; simp only [List.append_assoc, List.cons_append, List.nil_append]
      have e3 : P ++ (Y1.take (q + 1) ++ (x :: (Y1.drop (q + 1) ++ (Y2 ++ S)))) = (P ++ Y1.take q) ++ Y1[q] :: ([] ++ x :: (Y1.drop (q + 1) ++ (Y2 ++ S))) := by
        rw [List.take_succ_eq_append_getElem hq]; simp only [List.append_assoc, List.cons_append, List.nil_append]
      obtain ⟨k1, hk1⟩ : ∃ z, kk + 1 = z := ⟨_, rfl⟩
      obtain ⟨hx, hy, hst⟩ := two_set (A := P ++ Y1.take q) (B := []) (C := Y1.drop (q + 1) ++ (Y2 ++ S)) (x := x) (y := Y1[q]) (p := kk) (q := k1) (by rw [List.length_append, List.length_take]; have := HPL.out; omega) (by simp; omega)
      rw [← e3] at hst
      rw [← e2] at hx hy hst
      generalize Y1[q] = y at *
      have hke : (kk : Int) + 1 = (k1 : Int) := by omega
      have hkw : IntKind.i64.wrap ((kk : Int) + 1) = (k1 : Int) := by rw [IntKind.wrap_i64]; omega
      have hkz : (kk : Int) < zz := by omega
      have hpn : (kk : Int) < n := by omega
      have hqn : (k1 : Int) < n := by omega
      have hpn2 : ¬ n ≤ kk := by omega
      have hqn2 : ¬ n ≤ k1 := by omega
      clear e2 e3
      go_upto_region 11 with fail
      obtain ⟨x0, x1, x2⟩ := HS.out.cells hx
      obtain ⟨y0, y1, y2⟩ := HS.out.cells hy
      have hadd := add_mkV g (kk * 3)
      have hadd1 := add_mkV g (k1 * 3)
      have hf := HS.out.frozen
      have HP1 := HS.out.swap hx hy
      rw [hst] at HP1
      have HP2 := Lib.hid HP1
      clear HP1 HS hx hy hst
      go_region
      generalize hWW : World.setCell _ _ _ = W6 at HP2 ⊢
      have HP3 := Lib.hid (show SrtAt w0 base g n c (P ++ (Y1.take (q + 1) ++ (x :: (Y1.drop (q + 1) ++ (Y2 ++ S))))) W6 from HP2.out)
      clear HP2 hWW
      go_wp2_with fail
      go_roundg gq
      case measure => omega
      case rel => exact ⟨q + 1, k1, by omega, by omega, by first | rfl | go_num, HP3.out.below (Below.refl _ _).drew⟩
set_option maxHeartbeats 4000000 in
theorem symm_last (w0 : World) (base g n c sa m sb : Nat) (P X S : List RowT) (y : RowT) (w : World) (h : SrtAt w0 base g n c (P ++ (X ++ (y :: S))) w) (hP : P.length = sa) (hm : sa + X.length = m) (hb : m + 1 = sb) (hX : X.Pairwise (LeK RowT.key)) (hx1 : X.length ≠ 1) (hn : n ≤ 1000000) :
    Calls Tryz.prog 166 #[.slice (some ⟨g, 0, none⟩) n c, .int .i64 sa, .int .i64 m, .int .i64 sb, .func (.func 105) #[] #[]] w fun e w' => e = .returned (.tuple #[]) ∧ SrtAt w0 base g n c (P ++ (sortK RowT.key (X ++ [y]) ++ S)) w' := by
  obtain ⟨hgl, hnc, hcm⟩ := h.lt
  have hLn := h.len
  simp only [List.length_append, List.length_cons] at hLn
  have hbn : sb ≤ n := by omega
  obtain ⟨N, hN⟩ : ∃ N, X.length = N := ⟨_, rfl⟩
  have HN := Lib.hid hN
  obtain ⟨L0, hL0⟩ : ∃ L, P ++ (X ++ (y :: S)) = L := ⟨_, rfl⟩
  have HL0 := Lib.hid hL0
  rw [hL0] at h
  have HYL := Lib.hid (show L0[m]? = some y by rw [← hL0, List.getElem?_append_right (by omega), List.getElem?_append_right (by omega), show m - P.length - X.length = 0 by omega]; rfl)
  have HXL0 := Lib.hid (fun q (hq : q < N) x (hx : X[q]? = some x) => show L0[sa + q]? = some x by
    rw [← hL0, List.getElem?_append_right (by omega), show sa + q - P.length = q by omega, List.getElem?_append_left (by omega)]; exact hx)
  have H0 := Lib.hid h; have HX := Lib.hid hX; have HPL := Lib.hid hP
  have hbm : sa + N = m := by omega
  have hN1 : N ≠ 1 := by omega
  clear h hLn hP hL0 hN hX hx1 hm
  have hw1 : IntKind.i64.wrap ((m : Int) - (sa : Int)) = (N : Int) := by rw [IntKind.wrap_i64]; omega
  have t1 : (m : Int) - (sa : Int) = (N : Int) := by omega
  have t2 : ((N : Int) == 1) = false := by rw [beq_eq_false_iff_ne]; omega
  have hw2 : IntKind.i64.wrap ((sb : Int) - (m : Int)) = 1 := by rw [IntKind.wrap_i64]; omega
  have t3 : (sb : Int) - (m : Int) = 1 := by omega
  go_enter Tryz.func166, Tryz.ntmps166
  go_wp2_with fail
  go_loopg [14, 15] N (fun gk x14 x15 wr => ∃ i j ii jj : Nat, sa + i = ii ∧ sa + j = jj ∧ i ≤ j ∧ j ≤ N ∧ j - i ≤ gk ∧ x14 = .int .i64 ii ∧ x15 = .int .i64 jj ∧ BLe y X i ∧ BGt y X j ∧ SrtAt w0 base g n c L0 wr)
  case atStart => exact ⟨0, N, sa, m, by omega, hbm, by omega, Nat.le_refl _, by omega, rfl, rfl, ble_zero _ _, bgt_len (by have := HN.out; omega), H0.out⟩
  case round =>
    obtain ⟨i, j, ii, jj, hii, hjj, hij, hjN, hgk, rfl, rfl, halt, hage, hs⟩ := hrel
    have HS := Lib.hid hs; have HA := Lib.hid halt; have HG := Lib.hid hage
    clear hs halt hage H0 t1 hw1 t2 hw2 t3
    by_cases hlt : i < j
    case pos =>
      have hlt2 : (ii : Int) < jj := by omega
      cases gk with
      | zero => omega
      | succ gq =>
      obtain ⟨hh, hhh⟩ : ∃ q, (ii + jj) / 2 = q := ⟨_, rfl⟩
      obtain ⟨h1, hh1⟩ : ∃ q, hh - sa = q := ⟨_, rfl⟩
      have hmid : ((ii : Int) + (jj : Int)) / 2 = (hh : Int) := by omega
      obtain ⟨x, hx⟩ : ∃ x, X[h1]? = some x := ⟨_, List.getElem?_eq_getElem (by have := HN.out; omega)⟩
      have HXS := Lib.hid hx
      have HXL := Lib.hid (show L0[hh]? = some x by have h := HXL0.out h1 (by omega) x hx; rwa [show sa + h1 = hh by omega] at h)
      obtain ⟨lt, hltv⟩ : ∃ b, Op.bytesLess y.text.toList x.text.toList = b := ⟨_, rfl⟩
      have HLV := Lib.hid hltv
      have hlt3 : decide (cmpI y.text.toList x.text.toList < 0) = lt := by rw [cmpI_neg, hltv]
      have HC := Lib.hid (fun V => cmpC y x V)
      have q1 : ¬ n ≤ m := by omega
      have q2 : ¬ n ≤ hh := by omega
      have q3 : (hh : Int) < n := by omega
      have q4 : (m : Int) < n := by omega
      have HAR := Lib.hid (show i ≤ h1 ∧ h1 < j ∧ sa + h1 = hh by omega)
      clear hx hltv hhh hh1
      go_upto_region 17 with fail
      refine wp_region_facts (R := fun a b => Below a.heap.size a b) (G := (fun W => SrtAt w0 base g n c L0 W)) (V := fun i' u' W => match i' with | 0 => u' = .func (.func 105) #[] #[] | 1 => u' = .slice (some ⟨g, 0, none⟩) n c | 2 => u' = .int .i64 m | 3 => u' = .pointer (some ⟨g, m * 3, none⟩) | 4 => u' = .agg #[.string y.text, (.slice y.ad y.ln y.cp), .int .i64 y.val] | 5 => u' = .slice (some ⟨g, 0, none⟩) n c | 6 => u' = .int .i64 hh | 7 => u' = .pointer (some ⟨g, hh * 3, none⟩) | 8 => u' = .agg #[.string x.text, (.slice x.ad x.ln x.cp), .int .i64 x.val] | 9 => u' = .int .i64 (cmpI y.text.toList x.text.toList) | 10 => u' = .bool lt | 11 => u' = .bool (!lt) | _ => True) (by kernel_rfl) (fun w => Below.refl _ _) (fun a b c h1 h2 => h1.trans (h2.mono h1.size)) (by kernel_rfl) (by kernel_rfl) ?hG ⟨?o0, ?o1, ?o2, ?o3, ?o4, ?o5, ?o6, ?o7, ?o8, ?o9, ?o10, ?o11, trivial⟩ ?hend
      case o0 =>
        intro a w hfr hG hd
        refine ⟨fun hw => ?_, fun hw => absurd hw (by simp [Region.wanted])⟩
        have s4 : a.tmps.getD 4 undef = .func (.func 105) #[] #[] := hfr.at 4 (by kernel_rfl)
        refine op_yields (.func (.func 105) #[] #[]) ?_ ?_ ?_
        · simp only [execOp, resolve, List.map_toArray, List.map_cons, List.map_nil, Act.eval, s4]; simp [go_sem, -Array.getD_eq_getD_getElem?, s4]
        · exact Below.refl _ _
        · exact (fun _ _ => rfl)
      case o1 =>
        intro a w hfr hG hd
        refine ⟨fun hw => ?_, fun hw => absurd hw (by simp [Region.wanted])⟩
        have s0 : a.tmps.getD 0 undef = .slice (some ⟨g, 0, none⟩) n c := hfr.at 0 (by kernel_rfl)
        refine op_yields (.slice (some ⟨g, 0, none⟩) n c) ?_ ?_ ?_
        · simp only [execOp, resolve, List.map_toArray, List.map_cons, List.map_nil, Act.eval, s0]; simp [go_sem, -Array.getD_eq_getD_getElem?, s0]
        · exact Below.refl _ _
        · exact (fun _ _ => rfl)
      case o2 =>
        intro a w hfr hG hd
        refine ⟨fun hw => ?_, fun hw => absurd hw (by simp [Region.wanted])⟩
        have s2 : a.tmps.getD 2 undef = .int .i64 m := hfr.at 2 (by kernel_rfl)
        refine op_yields (.int .i64 m) ?_ ?_ ?_
        · simp only [execOp, resolve, List.map_toArray, List.map_cons, List.map_nil, Act.eval, s2]; simp [go_sem, -Array.getD_eq_getD_getElem?, s2]
        · exact Below.refl _ _
        · exact (fun _ _ => rfl)
      case o3 =>
        intro a w hfr hG hd
        obtain ⟨d0, d1, _⟩ := hd
        refine ⟨fun hw => ?_, fun hw => absurd hw (by simp [Region.wanted])⟩
        have s93 : a.tmps.getD 93 undef = .slice (some ⟨g, 0, none⟩) n c := (d0 rfl).now
        have s94 : a.tmps.getD 94 undef = .int .i64 m := (d1 rfl).now
        refine op_yields (.pointer (some ⟨g, m * 3, none⟩)) ?_ ?_ ?_
        · simp only [execOp, resolve, List.map_toArray, List.map_cons, List.map_nil, Act.eval, s93, s94]; simp [go_sem, -Array.getD_eq_getD_getElem?, s93, s94, q1]
        · exact Below.refl _ _
        · exact (fun _ _ => rfl)
      case o4 =>
        intro a w hfr hG hd
        obtain ⟨d0, _⟩ := hd
        refine ⟨fun hw => ?_, fun hw => absurd hw (by simp [Region.wanted])⟩
        have s95 : a.tmps.getD 95 undef = .pointer (some ⟨g, m * 3, none⟩) := (d0 rfl).now
        obtain ⟨z0, z1, z2⟩ := hG.now.cells (HYL.out)
        refine op_yields (.agg #[.string y.text, (.slice y.ad y.ln y.cp), .int .i64 y.val]) ?_ ?_ ?_
        · simp only [execOp, resolve, List.map_toArray, List.map_cons, List.map_nil, Act.eval, s95]; simp [go_sem, -Array.getD_eq_getD_getElem?, s95, z0, z1, z2]
        · exact Below.refl _ _
        · exact (fun _ _ => rfl)
      case o5 =>
        intro a w hfr hG hd
        refine ⟨fun hw => ?_, fun hw => absurd hw (by simp [Region.wanted])⟩
        have s0 : a.tmps.getD 0 undef = .slice (some ⟨g, 0, none⟩) n c := hfr.at 0 (by kernel_rfl)
        refine op_yields (.slice (some ⟨g, 0, none⟩) n c) ?_ ?_ ?_
        · simp only [execOp, resolve, List.map_toArray, List.map_cons, List.map_nil, Act.eval, s0]; simp [go_sem, -Array.getD_eq_getD_getElem?, s0]
        · exact Below.refl _ _
        · exact (fun _ _ => rfl)
      case o6 =>
        intro a w hfr hG hd
        refine ⟨fun hw => ?_, fun hw => absurd hw (by simp [Region.wanted])⟩
        have s16 : a.tmps.getD 16 undef = .int .i64 hh := hfr.at 16 (by kernel_rfl)
        refine op_yields (.int .i64 hh) ?_ ?_ ?_
        · simp only [execOp, resolve, List.map_toArray, List.map_cons, List.map_nil, Act.eval, s16]; simp [go_sem, -Array.getD_eq_getD_getElem?, s16]
        · exact Below.refl _ _
        · exact (fun _ _ => rfl)
      case o7 =>
        intro a w hfr hG hd
        obtain ⟨d0, d1, _⟩ := hd
        refine ⟨fun hw => ?_, fun hw => absurd hw (by simp [Region.wanted])⟩
        have s97 : a.tmps.getD 97 undef = .slice (some ⟨g, 0, none⟩) n c := (d0 rfl).now
        have s98 : a.tmps.getD 98 undef = .int .i64 hh := (d1 rfl).now
        refine op_yields (.pointer (some ⟨g, hh * 3, none⟩)) ?_ ?_ ?_
        · simp only [execOp, resolve, List.map_toArray, List.map_cons, List.map_nil, Act.eval, s97, s98]; simp [go_sem, -Array.getD_eq_getD_getElem?, s97, s98, q2]
        · exact Below.refl _ _
        · exact (fun _ _ => rfl)
      case o8 =>
        intro a w hfr hG hd
        obtain ⟨d0, _⟩ := hd
        refine ⟨fun hw => ?_, fun hw => absurd hw (by simp [Region.wanted])⟩
        have s99 : a.tmps.getD 99 undef = .pointer (some ⟨g, hh * 3, none⟩) := (d0 rfl).now
        obtain ⟨z0, z1, z2⟩ := hG.now.cells (HXL.out)
        refine op_yields (.agg #[.string x.text, (.slice x.ad x.ln x.cp), .int .i64 x.val]) ?_ ?_ ?_
        · simp only [execOp, resolve, List.map_toArray, List.map_cons, List.map_nil, Act.eval, s99]; simp [go_sem, -Array.getD_eq_getD_getElem?, s99, z0, z1, z2]
        · exact Below.refl _ _
        · exact (fun _ _ => rfl)
      case o9 =>
        intro a w hfr hG hd
        obtain ⟨d0, d1, d2, _⟩ := hd
        refine ⟨fun hw => ?_, fun hw => absurd hw (by simp [Region.wanted])⟩
        have s92 : a.tmps.getD 92 undef = .func (.func 105) #[] #[] := (d0 rfl).now
        have s96 : a.tmps.getD 96 undef = .agg #[.string y.text, (.slice y.ad y.ln y.cp), .int .i64 y.val] := (d1 rfl).now
        have s100 : a.tmps.getD 100 undef = .agg #[.string x.text, (.slice x.ad x.ln x.cp), .int .i64 x.val] := (d2 rfl).now
        refine op_calls2 ((HC.out w).mono fun e' w' hh => ⟨_, hh.1, hh.2, (fun _ _ => rfl)⟩) ?_
        simp only [execOp, resolve, List.map_toArray, List.map_cons, List.map_nil, Act.eval, s92, s96, s100]; simp [go_sem, -Array.getD_eq_getD_getElem?, s92, s96, s100]
      case o10 =>
        intro a w hfr hG hd
        obtain ⟨d0, _⟩ := hd
        refine ⟨fun hw => ?_, fun hw => absurd hw (by simp [Region.wanted])⟩
        have s101 : a.tmps.getD 101 undef = .int .i64 (cmpI y.text.toList x.text.toList) := (d0 rfl).now
        refine op_yields (.bool lt) ?_ ?_ ?_
        · simp only [execOp, resolve, List.map_toArray, List.map_cons, List.map_nil, Act.eval, s101]; simp [go_sem, -Array.getD_eq_getD_getElem?, s101, hlt3]
        · exact Below.refl _ _
        · exact (fun _ _ => rfl)
      case o11 =>
        intro a w hfr hG hd
        obtain ⟨d0, _⟩ := hd
        refine ⟨fun hw => ?_, fun hw => absurd hw (by simp [Region.wanted])⟩
        have s102 : a.tmps.getD 102 undef = .bool lt := (d0 rfl).now
        refine op_yields (.bool (!lt)) ?_ ?_ ?_
        · simp only [execOp, resolve, List.map_toArray, List.map_cons, List.map_nil, Act.eval, s102]; simp [go_sem, -Array.getD_eq_getD_getElem?, s102]
        · exact Below.refl _ _
        · exact (fun _ _ => rfl)
      case hG => exact fun w' hb => HS.out.below ((Below.refl _ _).drew.trans (hb.mono (by simp)))
      case hend =>
        intro vs w' hG hv
        have key : vs 11 = .bool (!lt) := by
          obtain ⟨_, _, _, _, _, _, _, _, _, _, _, h11, _⟩ := hv
          exact h11.now
        have HS2 := Lib.hid hG.now
        clear hv hG HC HS hlt3 hmid
        simp only [putAll, Act.put, key]
        clear key
        have har := HAR.out
        cases lt with
        | false =>
          go_simp
          have HA2 := Lib.hid (ble_of HX.out HXS.out HLV.out)
          go_wp2_with fail
          go_roundg gq
          case measure => omega
          case rel => exact ⟨h1 + 1, j, hh + 1, jj, by omega, hjj, by omega, hjN, by omega, by first | rfl | go_num, rfl, HA2.out, HG.out, HS2.out⟩
        | true =>
          go_simp
          have HG2 := Lib.hid (bgt_of HX.out HXS.out HLV.out)
          go_wp2_with fail
          go_roundg gq
          case measure => omega
          case rel => exact ⟨i, h1, ii, hh, hii, by omega, by omega, by omega, by omega, rfl, rfl, HA.out, HG2.out, HS2.out⟩
    case neg =>
      obtain rfl : i = j := by omega
      obtain rfl : ii = jj := by omega
      have e1 : X = X.take i ++ X.drop i := (List.take_append_drop _ _).symm
      have HSO := Lib.hid (show sortK RowT.key (X ++ [y]) = X.take i ++ y :: X.drop i by
        have h := sort_last (bgt_mem HG.out) (ble_mem HA.out) (by rw [← e1]; exact HX.out)
        rwa [← e1] at h)
      have l1 : (X.take i).length = i := by rw [List.length_take]; have := HN.out; omega
      have l2 : (X.drop i).length = N - i := by rw [List.length_drop]; have := HN.out; omega
      have HS1 := Lib.hid (show SrtAt w0 base g n c (P ++ (X.take i ++ (X.drop i ++ (y :: S)))) wr by
        have h := HS.out
        rw [← HL0.out] at h
        rw [← List.append_assoc (X.take i), ← e1]; exact h)
      generalize X.take i = X1 at *
      generalize X.drop i = X2 at *
      clear HS e1
      go_wp2_with fail
      go_loopg [17] (N - i) (fun gk x17 wr => ∃ kk : Nat, ii + gk = kk ∧ gk ≤ N - i ∧ x17 = .int .i64 kk ∧ SrtAt w0 base g n c (P ++ (X1 ++ (X2.take gk ++ (y :: (X2.drop gk ++ S))))) wr)
      case atStart => exact ⟨m, by omega, Nat.le_refl _, rfl, by rw [List.take_of_length_le (by omega), List.drop_of_length_le (by omega)]; exact HS1.out⟩
      case round =>
      obtain ⟨kk, hkk, hgk2, rfl, hs⟩ := hrel
      have HS := Lib.hid hs
      clear hs HS1
      cases gk with
      | zero =>
        obtain rfl : ii = kk := by omega
        have HF := Lib.hid (show SrtAt w0 base g n c (P ++ (sortK RowT.key (X ++ [y]) ++ S)) wr by
          have h := HS.out
          rw [List.take_zero, List.drop_zero, List.nil_append] at h
          rw [HSO.out, List.append_assoc, List.cons_append]; exact h)
        clear HS
        go_wp2_with fail
        exact bodyPost_ret (v := .tuple #[]) (by simp [results, Tryz.results166, go_sem]) rfl ⟨rfl, HF.out⟩
      | succ gq =>
      have hq : gq < X2.length := by omega
      obtain ⟨k1, hk1⟩ : ∃ z, kk - 1 = z := ⟨_, rfl⟩
      have e2 : P ++ (X1 ++ (X2.take (gq + 1) ++ (y :: (X2.drop (gq + 1) ++ S)))) = (P ++ (X1 ++ X2.take gq)) ++ X2[gq] :: ([] ++ y :: (X2.drop (gq + 1) ++ S)) := by
        rw [List.take_succ_eq_append_getElem hq]; simp only [List.append_assoc, List.cons_append, List.nil_append]
      have e3 : P ++ (X1 ++ (X2.take gq ++ (y :: (X2.drop gq ++ S)))) = (P ++ (X1 ++ X2.take gq)) ++ y :: ([] ++ X2[gq] :: (X2.drop (gq + 1) ++ S)) := by
        rw [List.drop_eq_getElem_cons hq]; simp only [List.append_assoc, List.cons_append, List.nil_append]
      obtain ⟨hy, hx, hst0⟩ := two_set (A := P ++ (X1 ++ X2.take gq)) (B := []) (C := X2.drop (gq + 1) ++ S) (x := X2[gq]) (y := y) (p := k1) (q := kk) (by simp only [List.length_append, List.length_take]; have := HPL.out; omega) (by simp; omega)
      rw [← e3] at hst0
      rw [← e2] at hx hy hst0
      have hst := hst0
      rw [List.set_comm _ _ (show k1 ≠ kk by omega)] at hst
      clear hst0
      generalize X2[gq] = x at *
      have hke : (kk : Int) - 1 = (k1 : Int) := by omega
      have hkw : IntKind.i64.wrap ((kk : Int) - 1) = (k1 : Int) := by rw [IntKind.wrap_i64]; omega
      have hkz : (ii : Int) < kk := by omega
      have hpn : (kk : Int) < n := by omega
      have hqn : (k1 : Int) < n := by omega
      have hpn2 : ¬ n ≤ kk := by omega
      have hqn2 : ¬ n ≤ k1 := by omega
      clear e2 e3
      go_upto_region 23 with fail
      obtain ⟨x0, x1, x2⟩ := HS.out.cells hx
      obtain ⟨y0, y1, y2⟩ := HS.out.cells hy
      have hadd := add_mkV g (kk * 3)
      have hadd1 := add_mkV g (k1 * 3)
      have hf := HS.out.frozen
      have HP1 := HS.out.swap hx hy
      rw [hst] at HP1
      have HP2 := Lib.hid HP1
      clear HP1 HS hx hy hst
      go_region
      generalize hWW : World.setCell _ _ _ = W6 at HP2 ⊢
      have HP3 := Lib.hid (show SrtAt w0 base g n c (P ++ (X1 ++ (X2.take gq ++ (y :: (X2.drop gq ++ S))))) W6 from HP2.out)
      clear HP2 hWW
      go_wp2_with fail
      go_roundg gq
      case measure => omega
      case rel => exact ⟨k1, by omega, by omega, by first | rfl | go_num, HP3.out.below (Below.refl _ _).drew⟩
end Go.Proofs.YtlmakdclebbbkaaGreat
