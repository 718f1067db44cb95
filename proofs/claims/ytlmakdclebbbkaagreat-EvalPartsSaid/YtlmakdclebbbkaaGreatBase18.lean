/- Texts, merged in one. -/
import Derived.Test.YtlmakdclebbbkaaGreatBase17
import Derived.Deep.CutBlock
import Derived.Deep.DeepCutAuto
namespace Go.Proofs.YtlmakdclebbbkaaGreat
open Go.ChangeShapes Go.WideShapes Go.ChangeAt Go.RowKit
set_option linter.unusedVariables false
set_option linter.unusedSimpArgs false
set_option maxRecDepth 100000
def SymSaid (d : Nat) : Prop := ∀ (w0 : World) (base g n c sa m sb : Nat) (P X Y S : List RowT) (w : World), SrtAt w0 base g n c (P ++ (X ++ (Y ++ S))) w → P.length = sa → sa + X.length = m → m + Y.length = sb → 0 < X.length → 0 < Y.length → X.length + Y.length ≤ d → X.Pairwise (LeK RowT.key) → Y.Pairwise (LeK RowT.key) → n ≤ 1000000 →
    Calls Tryz.prog 166 #[.slice (some ⟨g, 0, none⟩) n c, .int .i64 sa, .int .i64 m, .int .i64 sb, .func (.func 105) #[] #[]] w fun e w' => e = .returned (.tuple #[]) ∧ SrtAt w0 base g n c (P ++ (sortK RowT.key (X ++ Y) ++ S)) w'
def SLo (L : List RowT) (pp s0 s : Nat) : Prop := s = s0 ∨ (s0 < s ∧ ∃ x y, L[s - 1]? = some x ∧ L[pp - (s - 1)]? = some y ∧ LeK RowT.key x y)
def SHi (L : List RowT) (pp r0 r : Nat) : Prop := r = r0 ∨ (r < r0 ∧ ∃ x y, L[r]? = some x ∧ L[pp - r]? = some y ∧ Op.bytesLess y.key x.key = true)
theorem search_done {P X Y S : List RowT} {sa m sb nn s0 r0 s : Nat} (hP : P.length = sa) (hm : sa + X.length = m) (hb : m + Y.length = sb) (hX : X.Pairwise (LeK RowT.key)) (hY : Y.Pairwise (LeK RowT.key))
    (h1 : sa ≤ s0) (h2 : s0 ≤ s) (h3 : s ≤ r0) (h4 : r0 ≤ m) (hlo : s0 = sa ∨ nn - s0 = sb) (hhi : r0 = m ∨ nn - r0 = m) (hn1 : m ≤ nn - s) (hn2 : nn - s ≤ sb) (hn0 : s ≤ nn) (hr0 : r0 ≤ nn)
    (hl : SLo (P ++ (X ++ (Y ++ S))) (nn - 1) s0 s) (hr : SHi (P ++ (X ++ (Y ++ S))) (nn - 1) r0 s) :
    (∀ y ∈ Y.take (nn - s - m), ∀ x ∈ X.drop (s - sa), Op.bytesLess y.key x.key = true) ∧ (∀ x ∈ X.take (s - sa), ∀ y ∈ Y.drop (nn - s - m), LeK RowT.key x y) := by
  have hx : ∀ q, q < X.length → (P ++ (X ++ (Y ++ S)))[sa + q]? = X[q]? := fun q hq => seg_get hP hq
  have hy : ∀ q, q < Y.length → (P ++ (X ++ (Y ++ S)))[m + q]? = Y[q]? := fun q hq => by
    rw [← List.append_assoc]
    exact seg_get (by rw [List.length_append]; omega) hq
  constructor
  · intro y hy2 x hx2
    obtain ⟨q, hq, rfl⟩ := List.getElem_of_mem hy2
    obtain ⟨p, hp, rfl⟩ := List.getElem_of_mem hx2
    rw [List.length_take] at hq
    rw [List.length_drop] at hp
    rcases hr with e | ⟨hr1, x1, y1, e1, e2, hlt⟩
    · rcases hhi with e3 | e3
      · omega
      · omega
    · have e1' : X[s - sa]? = some x1 := by rw [← hx (s - sa) (by omega), show sa + (s - sa) = s by omega]; exact e1
      have e2' : Y[nn - 1 - s - m]? = some y1 := by rw [← hy _ (by omega), show m + (nn - 1 - s - m) = nn - 1 - s by omega]; exact e2
      have a1 := sorted_at hY (p := q) (q := nn - 1 - s - m) (x := (Y.take (nn - s - m))[q]) (by omega) (by rw [List.getElem_take, List.getElem?_eq_getElem]) e2'
      have a2 := sorted_at hX (p := s - sa) (q := s - sa + p) (y := (X.drop (s - sa))[p]) (by omega) e1' (by rw [List.getElem_drop, List.getElem?_eq_getElem])
      exact less_le2 (le_less a1 hlt) a2
  · intro x hx2 y hy2
    obtain ⟨p, hp, rfl⟩ := List.getElem_of_mem hx2
    obtain ⟨q, hq, rfl⟩ := List.getElem_of_mem hy2
    rw [List.length_take] at hp
    rw [List.length_drop] at hq
    rcases hl with e | ⟨hl1, x1, y1, e1, e2, hle⟩
    · rcases hlo with e3 | e3
      · omega
      · omega
    · have e1' : X[s - 1 - sa]? = some x1 := by rw [← hx (s - 1 - sa) (by omega), show sa + (s - 1 - sa) = s - 1 by omega]; exact e1
      have e2' : Y[nn - s - m]? = some y1 := by rw [← hy _ (by omega), show m + (nn - s - m) = nn - 1 - (s - 1) by omega]; exact e2
      have a1 := sorted_at hX (p := p) (q := s - 1 - sa) (x := (X.take (s - sa))[p]) (by omega) (by rw [List.getElem_take, List.getElem?_eq_getElem]) e1'
      have a2 := sorted_at hY (p := nn - s - m) (q := nn - s - m + q) (y := (Y.drop (nn - s - m))[q]) (by omega) e2' (by rw [List.getElem_drop, List.getElem?_eq_getElem])
      exact leK_trans (leK_trans a1 hle) a2
set_option maxHeartbeats 8000000 in
theorem symm_step (d : Nat) (ih : SymSaid d) : SymSaid (d + 1) := by
  intro w0 base g n c sa m sb P X Y S w h hP hm hb hx0 hy0 hd hX hY hn
  by_cases hx1 : X.length = 1
  · obtain ⟨x, rfl⟩ := List.length_eq_one_iff.1 hx1
    exact symm_one w0 base g n c sa m sb P Y S x w h hP (by simpa using hm) hb hY hn
  by_cases hy1 : Y.length = 1
  · obtain ⟨y, rfl⟩ := List.length_eq_one_iff.1 hy1
    exact symm_last w0 base g n c sa m sb P X S y w h hP hm (by simpa using hb) hX hx1 hn
  obtain ⟨hgl, hnc, hcm⟩ := h.lt
  have hLn := h.len
  simp only [List.length_append] at hLn
  have hbn : sb ≤ n := by omega
  obtain ⟨nx, hnx⟩ : ∃ q, X.length = q := ⟨_, rfl⟩
  obtain ⟨ny, hny⟩ : ∃ q, Y.length = q := ⟨_, rfl⟩
  obtain ⟨mid, hmd⟩ : ∃ q, (sa + sb) / 2 = q := ⟨_, rfl⟩
  obtain ⟨nn, hnn⟩ : ∃ q, mid + m = q := ⟨_, rfl⟩
  obtain ⟨pp, hpp⟩ : ∃ q, nn - 1 = q := ⟨_, rfl⟩
  have hxm : sa + nx = m := by omega
  have hyb : m + ny = sb := by omega
  have hnx2 : 2 ≤ nx := by omega
  have hny2 : 2 ≤ ny := by omega
  have hdd : nx + ny ≤ d + 1 := by omega
  have HIH := Lib.hid ih
  have HX := Lib.hid hX; have HY := Lib.hid hY; have HPL := Lib.hid hP; have HNX := Lib.hid hnx; have HNY := Lib.hid hny
  have HSD := Lib.hid (fun s0 r0 s (h1 : sa ≤ s0) (h2 : s0 ≤ s) (h3 : s ≤ r0) (h4 : r0 ≤ m) => search_done (P := P) (S := S) (nn := nn) (s0 := s0) (r0 := r0) (s := s) hP hm hb hX hY h1 h2 h3 h4)
  obtain ⟨L0, hL0⟩ : ∃ L, P ++ (X ++ (Y ++ S)) = L := ⟨_, rfl⟩
  have HL0 := Lib.hid hL0
  have HLL := Lib.hid (show L0.length = n by rw [← hL0]; simp only [List.length_append]; omega)
  rw [hL0] at h HSD
  have H0 := Lib.hid h
  have t1 : (m : Int) - (sa : Int) = (nx : Int) := by omega
  have t2 : ((nx : Int) == 1) = false := by rw [beq_eq_false_iff_ne]; omega
  have t3 : (sb : Int) - (m : Int) = (ny : Int) := by omega
  have t4 : ((ny : Int) == 1) = false := by rw [beq_eq_false_iff_ne]; omega
  have t5 : ((sa : Int) + (sb : Int)) / 2 = (mid : Int) := by omega
  have t6 : (mid : Int) + (m : Int) = (nn : Int) := by omega
  have t7 : (nn : Int) - 1 = (pp : Int) := by omega
  have w1 : IntKind.i64.wrap ((m : Int) - (sa : Int)) = (nx : Int) := by rw [IntKind.wrap_i64]; omega
  have w2 : IntKind.i64.wrap ((sb : Int) - (m : Int)) = (ny : Int) := by rw [IntKind.wrap_i64]; omega
  have w3 : IntKind.i64.wrap ((mid : Int) + (m : Int)) = (nn : Int) := by rw [IntKind.wrap_i64]; omega
  have w4 : IntKind.i64.wrap ((nn : Int) - 1) = (pp : Int) := by rw [IntKind.wrap_i64]; omega
  have hmid1 : 2 * mid ≤ sa + sb := by omega
  have hmid2 : sa + sb ≤ 2 * mid + 1 := by omega
  clear h hLn hP hm hb hx0 hy0 hX hY hx1 hy1 hL0 ih hnx hny hd hmd
  go_enter Tryz.func166, Tryz.ntmps166
  go_upto_region 27 with fail
  clear t1 t2 t3 t4 w1 w2
  have HMM := Lib.hid (show ∃ s0 r0 : Nat, (mid < m → (s0 : Int) = (nn : Int) - (sb : Int) ∧ r0 = mid) ∧ (¬ mid < m → s0 = sa ∧ r0 = m) ∧ sa ≤ s0 ∧ s0 ≤ r0 ∧ r0 ≤ m ∧ (s0 = sa ∨ nn - s0 = sb) ∧ (r0 = m ∨ nn - r0 = m) ∧ nn - s0 ≤ sb ∧ m ≤ nn - r0 ∧ r0 ≤ nn from by
    by_cases hmm : mid < m
    · exact ⟨nn - sb, mid, fun _ => ⟨by omega, rfl⟩, fun h => absurd hmm h, by omega, by omega, by omega, .inr (by omega), .inr (by omega), by omega, by omega, by omega⟩
    · exact ⟨sa, m, fun h => absurd h hmm, fun _ => ⟨rfl, rfl⟩, Nat.le_refl _, by omega, Nat.le_refl _, .inl rfl, .inl rfl, by omega, by omega, by omega⟩)
  obtain ⟨s0, r0, hc1, hc2, hs1, hs2, hs3, hs4, hs5, hs6, hs7, hs8⟩ := HMM.out
  have HC1 := Lib.hid hc1; have HC2 := Lib.hid hc2
  clear hc1 hc2 HMM
  have HCO := Lib.hid (And.intro hs4 hs5)
  clear hs4 hs5
  obtain ⟨w00, rfl⟩ : ∃ W, W = w := ⟨_, rfl⟩
  go_cut [140] from 138 to 139 (fun x140 wx => x140 = .bool (decide (mid < m)) ∧ wx = w00)
  case first =>
    by_cases hmm : mid < m
    · have q1 : (mid : Int) < m := by omega
      go_wp2_with fail
      go_meet
      exact ⟨by rw [decide_eq_true hmm], rfl⟩
    · have q1 : ¬ (mid : Int) < m := by omega
      go_wp2_with fail
      go_meet
      exact ⟨by rw [decide_eq_false hmm], rfl⟩
  obtain ⟨rfl, rfl⟩ := hcut
  go_upto_if 140 with fail
  go_cut [20, 21] from 138 to 146 (fun x20 x21 wx => x20 = .int .i64 s0 ∧ x21 = .int .i64 r0 ∧ wx = wc)
  case first =>
    by_cases hmm : mid < m
    · obtain ⟨e1, e2⟩ := HC1.out hmm
      have e3 : (nn : Int) - (sb : Int) = (s0 : Int) := e1.symm
      have e4 : IntKind.i64.wrap ((nn : Int) - (sb : Int)) = (s0 : Int) := by rw [IntKind.wrap_i64]; omega
      have hmm2 : decide (mid < m) = true := decide_eq_true hmm
      rw [hmm2]
      clear e1 hmm2
      subst e2
      go_wp2_with fail
      go_meet
      exact ⟨rfl, rfl, rfl⟩
    · obtain ⟨e1, e2⟩ := HC2.out hmm
      have hmm2 : decide (mid < m) = false := decide_eq_false hmm
      rw [hmm2]
      clear hmm2
      subst e1; subst e2
      go_wp2_with fail
      go_meet
      exact ⟨rfl, rfl, rfl⟩
  obtain ⟨rfl, rfl, rfl⟩ := hcut
  clear HC1 HC2
  go_wp2_with fail
  go_loopg [20, 21] (r0 - s0) (fun gk x20 x21 wr => ∃ s r : Nat, s0 ≤ s ∧ s ≤ r ∧ r ≤ r0 ∧ r - s ≤ gk ∧ x20 = .int .i64 s ∧ x21 = .int .i64 r ∧ SLo L0 pp s0 s ∧ SHi L0 pp r0 r ∧ SrtAt w0 base g n c L0 wr)
  case atStart => exact ⟨s0, r0, Nat.le_refl _, hs2, Nat.le_refl _, Nat.le_refl _, rfl, rfl, .inl rfl, .inl rfl, H0.out⟩
  case round =>
    obtain ⟨s, r, h1, h2, h3, hgk, rfl, rfl, hlo, hhi, hs⟩ := hrel
    have HS := Lib.hid hs; have HA := Lib.hid hlo; have HG := Lib.hid hhi
    clear hs hlo hhi H0 t5 t6 t7 w3 w4
    by_cases hlt : s < r
    case pos =>
      have hlt2 : (s : Int) < r := by omega
      cases gk with
      | zero => omega
      | succ gq =>
      obtain ⟨cc, hcc⟩ : ∃ q, (s + r) / 2 = q := ⟨_, rfl⟩
      obtain ⟨dd, hdd2⟩ : ∃ q, pp - cc = q := ⟨_, rfl⟩
      have hmid : ((s : Int) + (r : Int)) / 2 = (cc : Int) := by omega
      have hdw : IntKind.i64.wrap ((pp : Int) - (cc : Int)) = (dd : Int) := by rw [IntKind.wrap_i64]; omega
      have hde : (pp : Int) - (cc : Int) = (dd : Int) := by omega
      have hcr : s ≤ cc ∧ cc < r := by omega
      have hdr : m ≤ dd ∧ dd < sb := by omega
      obtain ⟨x, hx⟩ : ∃ x, L0[cc]? = some x := ⟨_, List.getElem?_eq_getElem (by have := HLL.out; omega)⟩
      obtain ⟨y, hy⟩ : ∃ y, L0[dd]? = some y := ⟨_, List.getElem?_eq_getElem (by have := HLL.out; omega)⟩
      have HXL := Lib.hid hx; have HYL := Lib.hid hy
      obtain ⟨lt, hltv⟩ : ∃ b, Op.bytesLess y.text.toList x.text.toList = b := ⟨_, rfl⟩
      have HLV := Lib.hid hltv
      have hlt3 : decide (cmpI y.text.toList x.text.toList < 0) = lt := by rw [cmpI_neg, hltv]
      have HC := Lib.hid (fun V => cmpC y x V)
      have q1 : ¬ n ≤ dd := by omega
      have q2 : ¬ n ≤ cc := by omega
      have q3 : (dd : Int) < n := by omega
      have q4 : (cc : Int) < n := by omega
      have HAR := Lib.hid hcr
      clear hx hy hltv hcc hcr hdr
      go_upto_region 35 with fail
      refine wp_region_facts (R := fun a b => Below a.heap.size a b) (G := (fun W => SrtAt w0 base g n c L0 W)) (V := fun i' u' W => match i' with | 0 => u' = .func (.func 105) #[] #[] | 1 => u' = .slice (some ⟨g, 0, none⟩) n c | 2 => u' = .int .i64 pp | 3 => u' = .int .i64 cc | 4 => u' = .int .i64 dd | 5 => u' = .pointer (some ⟨g, dd * 3, none⟩) | 6 => u' = .agg #[.string y.text, (.slice y.ad y.ln y.cp), .int .i64 y.val] | 7 => u' = .slice (some ⟨g, 0, none⟩) n c | 8 => u' = .int .i64 cc | 9 => u' = .pointer (some ⟨g, cc * 3, none⟩) | 10 => u' = .agg #[.string x.text, (.slice x.ad x.ln x.cp), .int .i64 x.val] | 11 => u' = .int .i64 (cmpI y.text.toList x.text.toList) | 12 => u' = .bool lt | 13 => u' = .bool (!lt) | _ => True) (by kernel_rfl) (fun w => Below.refl _ _) (fun a b c h1 h2 => h1.trans (h2.mono h1.size)) (by kernel_rfl) (by kernel_rfl) ?hG ⟨?o0, ?o1, ?o2, ?o3, ?o4, ?o5, ?o6, ?o7, ?o8, ?o9, ?o10, ?o11, ?o12, ?o13, trivial⟩ ?hend
      case o0 =>
        intro a w hfr hG hd
        refine ⟨fun hw => ?_, fun hw => absurd hw (by simp [Region.wanted])⟩
        have s4 : a.tmps.getD 4 undef = .func (.func 105) #[] #[] := hfr.at 4 (by kernel_rfl)
        refine op_yields (.func (.func 105) #[] #[]) ?_ ?_ ?_
        · simp only [execOp, resolve, List.map_toArray, List.map_cons, List.map_nil, Act.eval, s4]; simp [go_sem, -Array.getD_eq_getD_getElem?, s4]
        · exact Below.refl _ _
        · exact (fun _ _ => rfl)
      case o1 =>
        intro a w hfr hG hd
        refine ⟨fun hw => ?_, fun hw => absurd hw (by simp [Region.wanted])⟩
        have s0 : a.tmps.getD 0 undef = .slice (some ⟨g, 0, none⟩) n c := hfr.at 0 (by kernel_rfl)
        refine op_yields (.slice (some ⟨g, 0, none⟩) n c) ?_ ?_ ?_
        · simp only [execOp, resolve, List.map_toArray, List.map_cons, List.map_nil, Act.eval, s0]; simp [go_sem, -Array.getD_eq_getD_getElem?, s0]
        · exact Below.refl _ _
        · exact (fun _ _ => rfl)
      case o2 =>
        intro a w hfr hG hd
        refine ⟨fun hw => ?_, fun hw => absurd hw (by simp [Region.wanted])⟩
        have s22 : a.tmps.getD 22 undef = .int .i64 pp := hfr.at 22 (by kernel_rfl)
        refine op_yields (.int .i64 pp) ?_ ?_ ?_
        · simp only [execOp, resolve, List.map_toArray, List.map_cons, List.map_nil, Act.eval, s22]; simp [go_sem, -Array.getD_eq_getD_getElem?, s22]
        · exact Below.refl _ _
        · exact (fun _ _ => rfl)
      case o3 =>
        intro a w hfr hG hd
        refine ⟨fun hw => ?_, fun hw => absurd hw (by simp [Region.wanted])⟩
        have s23 : a.tmps.getD 23 undef = .int .i64 cc := hfr.at 23 (by kernel_rfl)
        refine op_yields (.int .i64 cc) ?_ ?_ ?_
        · simp only [execOp, resolve, List.map_toArray, List.map_cons, List.map_nil, Act.eval, s23]; simp [go_sem, -Array.getD_eq_getD_getElem?, s23]
        · exact Below.refl _ _
        · exact (fun _ _ => rfl)
      case o4 =>
        intro a w hfr hG hd
        obtain ⟨d0, d1, _⟩ := hd
        refine ⟨fun hw => ?_, fun hw => absurd hw (by simp [Region.wanted])⟩
        have s160 : a.tmps.getD 160 undef = .int .i64 pp := (d0 rfl).now
        have s161 : a.tmps.getD 161 undef = .int .i64 cc := (d1 rfl).now
        refine op_yields (.int .i64 dd) ?_ ?_ ?_
        · simp only [execOp, resolve, List.map_toArray, List.map_cons, List.map_nil, Act.eval, s160, s161]; simp [go_sem, -Array.getD_eq_getD_getElem?, s160, s161, hdw]
        · exact Below.refl _ _
        · exact (fun _ _ => rfl)
      case o5 =>
        intro a w hfr hG hd
        obtain ⟨d0, d1, _⟩ := hd
        refine ⟨fun hw => ?_, fun hw => absurd hw (by simp [Region.wanted])⟩
        have s159 : a.tmps.getD 159 undef = .slice (some ⟨g, 0, none⟩) n c := (d0 rfl).now
        have s162 : a.tmps.getD 162 undef = .int .i64 dd := (d1 rfl).now
        refine op_yields (.pointer (some ⟨g, dd * 3, none⟩)) ?_ ?_ ?_
        · simp only [execOp, resolve, List.map_toArray, List.map_cons, List.map_nil, Act.eval, s159, s162]; simp [go_sem, -Array.getD_eq_getD_getElem?, s159, s162, q1]
        · exact Below.refl _ _
        · exact (fun _ _ => rfl)
      case o6 =>
        intro a w hfr hG hd
        obtain ⟨d0, _⟩ := hd
        refine ⟨fun hw => ?_, fun hw => absurd hw (by simp [Region.wanted])⟩
        have s163 : a.tmps.getD 163 undef = .pointer (some ⟨g, dd * 3, none⟩) := (d0 rfl).now
        obtain ⟨z0, z1, z2⟩ := hG.now.cells (HYL.out)
        refine op_yields (.agg #[.string y.text, (.slice y.ad y.ln y.cp), .int .i64 y.val]) ?_ ?_ ?_
        · simp only [execOp, resolve, List.map_toArray, List.map_cons, List.map_nil, Act.eval, s163]; simp [go_sem, -Array.getD_eq_getD_getElem?, s163, z0, z1, z2]
        · exact Below.refl _ _
        · exact (fun _ _ => rfl)
      case o7 =>
        intro a w hfr hG hd
        refine ⟨fun hw => ?_, fun hw => absurd hw (by simp [Region.wanted])⟩
        have s0 : a.tmps.getD 0 undef = .slice (some ⟨g, 0, none⟩) n c := hfr.at 0 (by kernel_rfl)
        refine op_yields (.slice (some ⟨g, 0, none⟩) n c) ?_ ?_ ?_
        · simp only [execOp, resolve, List.map_toArray, List.map_cons, List.map_nil, Act.eval, s0]; simp [go_sem, -Array.getD_eq_getD_getElem?, s0]
        · exact Below.refl _ _
        · exact (fun _ _ => rfl)
      case o8 =>
        intro a w hfr hG hd
        refine ⟨fun hw => ?_, fun hw => absurd hw (by simp [Region.wanted])⟩
        have s23 : a.tmps.getD 23 undef = .int .i64 cc := hfr.at 23 (by kernel_rfl)
        refine op_yields (.int .i64 cc) ?_ ?_ ?_
        · simp only [execOp, resolve, List.map_toArray, List.map_cons, List.map_nil, Act.eval, s23]; simp [go_sem, -Array.getD_eq_getD_getElem?, s23]
        · exact Below.refl _ _
        · exact (fun _ _ => rfl)
      case o9 =>
        intro a w hfr hG hd
        obtain ⟨d0, d1, _⟩ := hd
        refine ⟨fun hw => ?_, fun hw => absurd hw (by simp [Region.wanted])⟩
        have s165 : a.tmps.getD 165 undef = .slice (some ⟨g, 0, none⟩) n c := (d0 rfl).now
        have s166 : a.tmps.getD 166 undef = .int .i64 cc := (d1 rfl).now
        refine op_yields (.pointer (some ⟨g, cc * 3, none⟩)) ?_ ?_ ?_
        · simp only [execOp, resolve, List.map_toArray, List.map_cons, List.map_nil, Act.eval, s165, s166]; simp [go_sem, -Array.getD_eq_getD_getElem?, s165, s166, q2]
        · exact Below.refl _ _
        · exact (fun _ _ => rfl)
      case o10 =>
        intro a w hfr hG hd
        obtain ⟨d0, _⟩ := hd
        refine ⟨fun hw => ?_, fun hw => absurd hw (by simp [Region.wanted])⟩
        have s167 : a.tmps.getD 167 undef = .pointer (some ⟨g, cc * 3, none⟩) := (d0 rfl).now
        obtain ⟨z0, z1, z2⟩ := hG.now.cells (HXL.out)
        refine op_yields (.agg #[.string x.text, (.slice x.ad x.ln x.cp), .int .i64 x.val]) ?_ ?_ ?_
        · simp only [execOp, resolve, List.map_toArray, List.map_cons, List.map_nil, Act.eval, s167]; simp [go_sem, -Array.getD_eq_getD_getElem?, s167, z0, z1, z2]
        · exact Below.refl _ _
        · exact (fun _ _ => rfl)
      case o11 =>
        intro a w hfr hG hd
        obtain ⟨d0, d1, d2, _⟩ := hd
        refine ⟨fun hw => ?_, fun hw => absurd hw (by simp [Region.wanted])⟩
        have s158 : a.tmps.getD 158 undef = .func (.func 105) #[] #[] := (d0 rfl).now
        have s164 : a.tmps.getD 164 undef = .agg #[.string y.text, (.slice y.ad y.ln y.cp), .int .i64 y.val] := (d1 rfl).now
        have s168 : a.tmps.getD 168 undef = .agg #[.string x.text, (.slice x.ad x.ln x.cp), .int .i64 x.val] := (d2 rfl).now
        refine op_calls2 ((HC.out w).mono fun e' w' hh => ⟨_, hh.1, hh.2, (fun _ _ => rfl)⟩) ?_
        simp only [execOp, resolve, List.map_toArray, List.map_cons, List.map_nil, Act.eval, s158, s164, s168]; simp [go_sem, -Array.getD_eq_getD_getElem?, s158, s164, s168]
      case o12 =>
        intro a w hfr hG hd
        obtain ⟨d0, _⟩ := hd
        refine ⟨fun hw => ?_, fun hw => absurd hw (by simp [Region.wanted])⟩
        have s169 : a.tmps.getD 169 undef = .int .i64 (cmpI y.text.toList x.text.toList) := (d0 rfl).now
        refine op_yields (.bool lt) ?_ ?_ ?_
        · simp only [execOp, resolve, List.map_toArray, List.map_cons, List.map_nil, Act.eval, s169]; simp [go_sem, -Array.getD_eq_getD_getElem?, s169, hlt3]
        · exact Below.refl _ _
        · exact (fun _ _ => rfl)
      case o13 =>
        intro a w hfr hG hd
        obtain ⟨d0, _⟩ := hd
        refine ⟨fun hw => ?_, fun hw => absurd hw (by simp [Region.wanted])⟩
        have s170 : a.tmps.getD 170 undef = .bool lt := (d0 rfl).now
        refine op_yields (.bool (!lt)) ?_ ?_ ?_
        · simp only [execOp, resolve, List.map_toArray, List.map_cons, List.map_nil, Act.eval, s170]; simp [go_sem, -Array.getD_eq_getD_getElem?, s170]
        · exact Below.refl _ _
        · exact (fun _ _ => rfl)
      case hG => exact fun w' hb => HS.out.below ((Below.refl _ _).drew.trans (hb.mono (by simp)))
      case hend =>
        intro vs w' hG hv
        have key : vs 13 = .bool (!lt) := by
          obtain ⟨_, _, _, _, _, _, _, _, _, _, _, _, _, h13, _⟩ := hv
          exact h13.now
        have HS2 := Lib.hid hG.now
        clear hv hG HC HS hlt3 hmid hdw hde
        simp only [putAll, Act.put, key]
        clear key
        have har := HAR.out
        cases lt with
        | false =>
          go_simp
          have HA2 := Lib.hid (show SLo L0 pp s0 (cc + 1) from .inr ⟨by omega, x, y, by rw [Nat.add_sub_cancel]; exact HXL.out, by rw [Nat.add_sub_cancel, hdd2]; exact HYL.out, HLV.out⟩)
          go_wp2_with fail
          go_roundg gq
          case measure => omega
          case rel => exact ⟨cc + 1, r, by omega, by omega, h3, by omega, by first | rfl | go_num, rfl, HA2.out, HG.out, HS2.out⟩
        | true =>
          go_simp
          have HG2 := Lib.hid (show SHi L0 pp r0 cc from .inr ⟨by omega, x, y, HXL.out, by rw [hdd2]; exact HYL.out, HLV.out⟩)
          go_wp2_with fail
          go_roundg gq
          case measure => omega
          case rel => exact ⟨s, cc, h1, by omega, by omega, by omega, rfl, rfl, HA.out, HG2.out, HS2.out⟩
    case neg =>
      obtain rfl : s = r := by omega
      obtain ⟨ee, hee⟩ : ∃ q, nn - s = q := ⟨_, rfl⟩
      have hee1 : m ≤ ee := by omega
      have hee2 : ee ≤ sb := by omega
      obtain ⟨HK1, HK2⟩ := HSD.out s0 r0 s hs1 h1 h3 hs3 HCO.out.1 HCO.out.2 (by omega) (by omega) (by omega) hs8 (by rw [hpp]; exact HA.out) (by rw [hpp]; exact HG.out)
      rw [hee] at HK1 HK2
      have e1 : X = X.take (s - sa) ++ X.drop (s - sa) := (List.take_append_drop _ _).symm
      have e2 : Y = Y.take (ee - m) ++ Y.drop (ee - m) := (List.take_append_drop _ _).symm
      have l1 : (X.take (s - sa)).length = s - sa := by rw [List.length_take]; have := HNX.out; omega
      have l2 : (X.drop (s - sa)).length = m - s := by rw [List.length_drop]; have := HNX.out; omega
      have l3 : (Y.take (ee - m)).length = ee - m := by rw [List.length_take]; have := HNY.out; omega
      have l4 : (Y.drop (ee - m)).length = sb - ee := by rw [List.length_drop]; have := HNY.out; omega
      have HSP := Lib.hid (show sortK RowT.key (X ++ Y) = sortK RowT.key (X.take (s - sa) ++ Y.take (ee - m)) ++ sortK RowT.key (X.drop (s - sa) ++ Y.drop (ee - m)) by
        have h := sort_split HK1 HK2 (by rw [← e1]; exact HX.out) (by rw [← e2]; exact HY.out)
        rwa [← e1, ← e2] at h)
      have pX := HX.out; have pY := HY.out
      rw [e1] at pX; rw [e2] at pY
      rw [List.pairwise_append] at pX pY
      have HS1 := Lib.hid (show SrtAt w0 base g n c (P ++ (X.take (s - sa) ++ (X.drop (s - sa) ++ (Y.take (ee - m) ++ (Y.drop (ee - m) ++ S))))) wr by
        have h := HS.out
        rw [← HL0.out] at h
        rw [← List.append_assoc (Y.take (ee - m)), ← e2, ← List.append_assoc (X.take (s - sa)), ← e1]; exact h)
      have HPX1 := Lib.hid pX.1; have HPX2 := Lib.hid pX.2.1; have HPY1 := Lib.hid pY.1; have HPY2 := Lib.hid pY.2.1
      generalize X.take (s - sa) = X1 at *
      generalize X.drop (s - sa) = X2 at *
      generalize Y.take (ee - m) = Y1 at *
      generalize Y.drop (ee - m) = Y2 at *
      have t1 : (nn : Int) - (s : Int) = (ee : Int) := by omega
      have t2 : IntKind.i64.wrap ((nn : Int) - (s : Int)) = (ee : Int) := by rw [IntKind.wrap_i64]; omega
      have hsm : s ≤ m := by omega
      have hsmid : s ≤ mid := by omega
      have hmide : mid ≤ ee := by omega
      have hmd1 : mid - sa = (s - sa) + (ee - m) := by omega
      have hmd2 : sb - mid = (m - s) + (sb - ee) := by omega
      have hld1 : mid - sa ≤ d := by omega
      have hld2 : sb - mid ≤ d := by omega
      clear HS HA HG HK1 HK2 e1 e2 pX pY HSD HCO HX HY hlt hgk
      go_upto_region 39 with fail
      clear t1 t2
      -- if s < m && m < ee
      obtain ⟨wa39, rfl⟩ : ∃ W, W = wr := ⟨_, rfl⟩
      go_cut [185] from 178 to 184 (fun x185 wx => x185 = .bool (decide (s < m ∧ m < ee)) ∧ wx = wa39)
      case first =>
        by_cases h8 : s < m
        · have i8 : (s : Int) < (m : Int) := by omega
          by_cases h9 : m < ee
          · have i9 : (m : Int) < (ee : Int) := by omega
            go_wp2_with fail
            go_meet
            exact ⟨by rw [decide_eq_true (And.intro h8 h9)], rfl⟩
          · have i9 : ¬ (m : Int) < (ee : Int) := by omega
            have h10 : decide (s < m ∧ m < ee) = false := decide_eq_false fun h => h9 h.2
            go_wp2_with fail
            go_meet
            exact ⟨by rw [h10], rfl⟩
        · have i8 : ¬ (s : Int) < (m : Int) := by omega
          have h10 : decide (s < m ∧ m < ee) = false := decide_eq_false fun h => h8 h.1
          go_wp2_with fail
          go_meet
          exact ⟨by rw [h10], rfl⟩
      obtain ⟨rfl, rfl⟩ := hcut
      obtain ⟨b39, hb39⟩ : ∃ q, decide (s < m ∧ m < ee) = q := ⟨_, rfl⟩
      rw [hb39]
      have HBB := Lib.hid hb39
      clear hb39
      go_upto_if 185 with fail
      go_cut [] from 186 to 191 (fun wx => SrtAt w0 base g n c ((P ++ X1) ++ (Y1 ++ (X2 ++ (Y2 ++ S)))) wx)
      case first =>
        cases b39 with
        | true =>
          have hb8 := of_decide_eq_true HBB.out
          have HC := Lib.hid (rotate_any w0 base g n c s m ee (P ++ X1) X2 Y1 (Y2 ++ S) wc (by simpa only [List.append_assoc] using HS1.out) (by rw [List.length_append]; have := HPL.out; omega) (by omega) (by omega) hb8.1 hb8.2 hn)
          go_wp2_with fail
          (with_reducible refine HC.out.mono ?_); rintro e w9 ⟨rfl, hs⟩
          have HS9 := Lib.hid hs
          clear hs HC
          go_wp2_with fail
          go_meet
          exact HS9.out
        | false =>
          have hb8 := of_decide_eq_false HBB.out
          have HS9 := Lib.hid (show SrtAt w0 base g n c ((P ++ X1) ++ (Y1 ++ (X2 ++ (Y2 ++ S)))) wc from by
            rcases Nat.eq_zero_or_pos (m - s) with h0 | h0
            · obtain rfl : X2 = [] := List.eq_nil_of_length_eq_zero (by omega)
              have h := HS1.out
              simpa only [List.append_assoc, List.nil_append] using h
            · obtain rfl : Y1 = [] := List.eq_nil_of_length_eq_zero (by omega)
              have h := HS1.out
              simpa only [List.append_assoc, List.nil_append] using h)
          go_wp2_with fail
          go_meet
          exact HS9.out
      have HS39 := Lib.hid hcut
      clear hcut HBB
      go_upto_region 41 with fail
      -- if sa < s && s < mid
      obtain ⟨wa41, rfl⟩ : ∃ W, W = wc := ⟨_, rfl⟩
      go_cut [199] from 192 to 198 (fun x199 wx => x199 = .bool (decide (sa < s ∧ s < mid)) ∧ wx = wa41)
      case first =>
        by_cases h8 : sa < s
        · have i8 : (sa : Int) < (s : Int) := by omega
          by_cases h9 : s < mid
          · have i9 : (s : Int) < (mid : Int) := by omega
            go_wp2_with fail
            go_meet
            exact ⟨by rw [decide_eq_true (And.intro h8 h9)], rfl⟩
          · have i9 : ¬ (s : Int) < (mid : Int) := by omega
            have h10 : decide (sa < s ∧ s < mid) = false := decide_eq_false fun h => h9 h.2
            go_wp2_with fail
            go_meet
            exact ⟨by rw [h10], rfl⟩
        · have i8 : ¬ (sa : Int) < (s : Int) := by omega
          have h10 : decide (sa < s ∧ s < mid) = false := decide_eq_false fun h => h8 h.1
          go_wp2_with fail
          go_meet
          exact ⟨by rw [h10], rfl⟩
      obtain ⟨rfl, rfl⟩ := hcut
      obtain ⟨b41, hb41⟩ : ∃ q, decide (sa < s ∧ s < mid) = q := ⟨_, rfl⟩
      rw [hb41]
      have HBB := Lib.hid hb41
      clear hb41
      go_upto_if 199 with fail
      go_cut [] from 200 to 205 (fun wx => SrtAt w0 base g n c (P ++ (sortK RowT.key (X1 ++ Y1) ++ (X2 ++ (Y2 ++ S)))) wx)
      case first =>
        cases b41 with
        | true =>
          have hb8 := of_decide_eq_true HBB.out
          have HC := Lib.hid (HIH.out w0 base g n c sa s mid P X1 Y1 (X2 ++ (Y2 ++ S)) wc (by simpa only [List.append_assoc] using HS39.out) HPL.out (by omega) (by omega) (by omega) (by omega) (by omega) HPX1.out HPY1.out hn)
          go_wp2_with fail
          (with_reducible refine HC.out.mono ?_); rintro e w9 ⟨rfl, hs⟩
          have HS9 := Lib.hid hs
          clear hs HC
          go_wp2_with fail
          go_meet
          exact HS9.out
        | false =>
          have hb8 := of_decide_eq_false HBB.out
          have HS9 := Lib.hid (show SrtAt w0 base g n c (P ++ (sortK RowT.key (X1 ++ Y1) ++ (X2 ++ (Y2 ++ S)))) wc from by
            have h := HS39.out
            rcases Nat.eq_zero_or_pos (s - sa) with h0 | h0
            · obtain rfl : X1 = [] := List.eq_nil_of_length_eq_zero (by omega)
              rw [List.nil_append, sortK_self RowT.key Y1 HPY1.out]
              simpa only [List.append_nil] using h
            · obtain rfl : Y1 = [] := List.eq_nil_of_length_eq_zero (by omega)
              rw [List.append_nil, sortK_self RowT.key X1 HPX1.out]
              simpa only [List.append_assoc, List.nil_append] using h)
          go_wp2_with fail
          go_meet
          exact HS9.out
      have HS41 := Lib.hid hcut
      clear hcut HBB
      go_upto_region 43 with fail
      by_cases h8 : mid < ee
      case neg =>
        have i8 : ¬ (mid : Int) < (ee : Int) := by omega
        have HS9 := Lib.hid (show SrtAt w0 base g n c ((P ++ sortK RowT.key (X1 ++ Y1)) ++ (sortK RowT.key (X2 ++ Y2) ++ S)) wc from by
          have h := HS41.out
          rcases Nat.eq_zero_or_pos (ee - mid) with h0 | h0
          · obtain rfl : X2 = [] := List.eq_nil_of_length_eq_zero (by omega)
            rw [List.nil_append, sortK_self RowT.key Y2 HPY2.out]
            simpa only [List.append_assoc, List.nil_append] using h
          · obtain rfl : Y2 = [] := List.eq_nil_of_length_eq_zero (by omega)
            rw [List.append_nil, sortK_self RowT.key X2 HPX2.out]
            simpa only [List.append_assoc, List.nil_append] using h)
        go_wp2_with fail
        go_end0
        exact ⟨rfl, by rw [HSP.out]; simpa only [List.append_assoc] using HS9.out⟩
      case pos =>
      have i8 : (mid : Int) < (ee : Int) := by omega
      by_cases h9 : ee < sb
      case neg =>
        have i9 : ¬ (ee : Int) < (sb : Int) := by omega
        have HS9 := Lib.hid (show SrtAt w0 base g n c ((P ++ sortK RowT.key (X1 ++ Y1)) ++ (sortK RowT.key (X2 ++ Y2) ++ S)) wc from by
          have h := HS41.out
          rcases Nat.eq_zero_or_pos (ee - mid) with h0 | h0
          · obtain rfl : X2 = [] := List.eq_nil_of_length_eq_zero (by omega)
            rw [List.nil_append, sortK_self RowT.key Y2 HPY2.out]
            simpa only [List.append_assoc, List.nil_append] using h
          · obtain rfl : Y2 = [] := List.eq_nil_of_length_eq_zero (by omega)
            rw [List.append_nil, sortK_self RowT.key X2 HPX2.out]
            simpa only [List.append_assoc, List.nil_append] using h)
        go_wp2_with fail
        go_end0
        exact ⟨rfl, by rw [HSP.out]; simpa only [List.append_assoc] using HS9.out⟩
      case pos =>
      have i9 : (ee : Int) < (sb : Int) := by omega
      have HC := Lib.hid (HIH.out w0 base g n c mid ee sb (P ++ sortK RowT.key (X1 ++ Y1)) X2 Y2 S wc (by simpa only [List.append_assoc] using HS41.out) (by rw [List.length_append, sortK_length, List.length_append]; have := HPL.out; omega) (by omega) (by omega) (by omega) (by omega) (by omega) HPX2.out HPY2.out hn)
      go_wp2_with fail
      (with_reducible refine HC.out.mono ?_); rintro e w9 ⟨rfl, hs⟩
      have HS9 := Lib.hid hs
      clear hs HC
      go_wp2_with fail
      go_end0
      exact ⟨rfl, by rw [HSP.out]; simpa only [List.append_assoc] using HS9.out⟩
theorem symm_any : ∀ d, SymSaid d
  | 0 => fun w0 base g n c sa m sb P X Y S w h hP hm hb hx hy hd => absurd hd (by omega)
  | d + 1 => symm_step d (symm_any d)
end Go.Proofs.YtlmakdclebbbkaaGreat
