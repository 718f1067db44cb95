/- Texts, merged in one. -/
import Derived.Test.YtlmakdclebbbkaaGreatBase12
import Derived.Test.YtlmakdclebbbkaaGreatBase4
import Derived.Test.YtlmakdclebbbkaaGreatBase13
import Derived.Deep.RegionLaw
import Derived.Deep.CutBlock
import Derived.Deep.DeepCutAuto
namespace Go.Proofs.YtlmakdclebbbkaaGreat
open Go.ChangeShapes Go.WideShapes Go.ChangeAt Go.RowKit
set_option linter.unusedVariables false
set_option linter.unusedSimpArgs false
set_option maxRecDepth 100000
structure RowT where
  text : ByteArray
  ad : Option Addr
  ln : Nat
  cp : Nat
  set : List Lbl
  val : Int
def RowT.cells (x : RowT) : List Value := [.string x.text, (.slice x.ad x.ln x.cp), .int .i64 x.val]
def RowT.key (x : RowT) : List UInt8 := x.text.toList
def rts (l : List RowT) : List Value := l.flatMap RowT.cells
theorem rts_length (l : List RowT) : (rts l).length = l.length * 3 := by
  induction l with
  | nil => rfl
  | cons x l ih => simp only [rts, List.flatMap_cons, List.length_append, List.length_cons, List.length_nil, RowT.cells] at ih ⊢; omega
theorem rts_append (l m : List RowT) : rts (l ++ m) = rts l ++ rts m := by simp [rts]
theorem rts_parts (l : List RowT) {p : Nat} (h : p < l.length) : rts l = rts (l.take p) ++ (l[p].cells ++ rts (l.drop (p + 1))) ∧ (rts (l.take p)).length = p * 3 := by
  refine ⟨?_, by rw [rts_length, List.length_take]; omega⟩
  have e : l = l.take p ++ ([l[p]] ++ l.drop (p + 1)) := by rw [List.singleton_append, ← List.drop_eq_getElem_cons h, List.take_append_drop]
  have e2 := congrArg rts e
  rw [rts_append, rts_append] at e2
  rw [e2]; simp [rts]
theorem rts_get (l : List RowT) {p : Nat} (h : p < l.length) : (rts l)[p * 3]? = some (.string l[p].text) ∧ (rts l)[p * 3 + 1]? = some (.slice l[p].ad l[p].ln l[p].cp) ∧ (rts l)[p * 3 + 2]? = some (.int .i64 l[p].val) := by
  obtain ⟨e, hl⟩ := rts_parts l h
  rw [e]
  refine ⟨?_, ?_, ?_⟩ <;> rw [List.getElem?_append_right (by omega), hl]
  · rw [Nat.sub_self]; rfl
  · rw [show p * 3 + 1 - p * 3 = 1 by omega]; rfl
  · rw [show p * 3 + 2 - p * 3 = 2 by omega]; rfl
theorem rts_set (l : List RowT) {p : Nat} (h : p < l.length) (x : RowT) : (((rts l).set (p * 3) (.string x.text)).set (p * 3 + 1) (.slice x.ad x.ln x.cp)).set (p * 3 + 2) (.int .i64 x.val) = rts (l.set p x) := by
  obtain ⟨e, hl⟩ := rts_parts l h
  have e2 : l.set p x = l.take p ++ ([x] ++ l.drop (p + 1)) := by rw [List.set_eq_take_append_cons_drop, if_pos h]; rfl
  rw [e2, rts_append, rts_append, e]
  rw [List.set_append_right _ _ (by omega), hl, Nat.sub_self]
  rw [List.set_append_right _ _ (by omega), hl, show p * 3 + 1 - p * 3 = 1 by omega]
  rw [List.set_append_right _ _ (by omega), hl, show p * 3 + 2 - p * 3 = 2 by omega]
  simp [rts, RowT.cells]
theorem own_setV {w : World} {base g i : Nat} {e : TypeId} {size n c : Nat} {xs : List Value} (h : w.ownsRow base e size (.slice (some ⟨g, 0, none⟩) n c) n xs) (hi : i < xs.length) (u : Value) :
    (w.setCell ⟨g, i, none⟩ u).ownsRow base e size (.slice (some ⟨g, 0, none⟩) n c) n (xs.set i u) := by
  refine ⟨by rw [List.length_set]; exact h.1, ?_⟩
  rcases h.2 with ⟨h1, _⟩ | ⟨g1, cap, cur, hv, hb, hh, hnc, hcm, hs, ht⟩
  · cases h1
  · injection hv with h1 h2 h3
    injection h1 with h1; injection h1 with h1; subst h1; subst h3
    refine .inr ⟨g, c, cur.setIfInBounds i u, rfl, hb, ?_, hnc, hcm, by simpa using hs, ?_⟩
    · simp [World.setCell, Array.getElem?_modify, hh]
    · rw [Array.toList_setIfInBounds, ← ht, List.take_set]
def midL (pre : List RowT) (x : RowT) (rest : List RowT) (j : Nat) : List RowT := pre.take j ++ x :: (pre.drop j ++ rest)
theorem midL_length (pre : List RowT) (x : RowT) (rest : List RowT) (j : Nat) : (midL pre x rest j).length = pre.length + 1 + rest.length := by
  unfold midL; simp; omega
theorem midL_at (pre : List RowT) (x : RowT) (rest : List RowT) {j : Nat} (h : j ≤ pre.length) : (midL pre x rest j)[j]? = some x := by
  unfold midL
  rw [List.getElem?_append_right (by rw [List.length_take]; omega), List.length_take, Nat.min_eq_left h, Nat.sub_self]; rfl
theorem midL_prev (pre : List RowT) (x : RowT) (rest : List RowT) {j : Nat} (h : j < pre.length) : (midL pre x rest (j + 1))[j]? = some pre[j] := by
  unfold midL
  rw [List.getElem?_append_left (by rw [List.length_take]; omega), List.getElem?_take, if_pos (by omega), List.getElem?_eq_getElem h]
theorem midL_swap (pre : List RowT) (x : RowT) (rest : List RowT) {j : Nat} (h : j < pre.length) : ((midL pre x rest (j + 1)).set (j + 1) pre[j]).set j x = midL pre x rest j := by
  unfold midL
  rw [List.take_succ_eq_append_getElem h, List.append_assoc, List.drop_eq_getElem_cons h]
  have hl : (pre.take j).length = j := by rw [List.length_take]; omega
  rw [List.set_append_right _ _ (by omega), hl, List.set_append_right _ _ (by omega), hl, Nat.sub_self, show j + 1 - j = 1 by omega]
  rfl
theorem midL_top (pre : List RowT) (x : RowT) (rest : List RowT) : midL pre x rest pre.length = pre ++ x :: rest := by unfold midL; simp
theorem midL_ins (pre : List RowT) (x : RowT) (rest : List RowT) {j : Nat} (h : insAtK RowT.key pre x pre.length = j) : midL pre x rest j = insK RowT.key pre x ++ rest := by
  unfold midL insK; rw [h]; simp
theorem add_mkV (g j : Nat) : (⟨g, 0, none⟩ : Addr).add j = ⟨g, j, none⟩ := by unfold Addr.add; split <;> simp_all
structure SrtAt (w0 : World) (base g n c : Nat) (L : List RowT) (W : World) : Prop where
  own : W.ownsRow base 163 3 (.slice (some ⟨g, 0, none⟩) n c) n (rts L)
  gr : w0.grownBy W (some g)
theorem SrtAt.len {w0 W : World} {base g n c : Nat} {L : List RowT} (h : SrtAt w0 base g n c L W) : L.length = n := by
  have := h.own.1; rw [rts_length] at this; omega
theorem SrtAt.alloc {w0 W : World} {base g n c : Nat} {L : List RowT} (h : SrtAt w0 base g n c L W) (o : Obj) : SrtAt w0 base g n c L (W.alloc o) :=
  ⟨own_below h.own ((Below.refl _ _).alloc (Nat.le_refl _) o) (Nat.le_refl _), only_alloc h.gr o⟩
theorem SrtAt.below {w0 W W' : World} {base g n c : Nat} {L : List RowT} (h : SrtAt w0 base g n c L W) (hb : Below W.heap.size W W') : SrtAt w0 base g n c L W' :=
  ⟨own_below h.own hb (Nat.le_refl _), ⟨hb.os.trans h.gr.os, hb.tape.trans h.gr.tape, hb.output.trans h.gr.output, Nat.le_trans h.gr.size hb.size, fun i hi hne => (hb.block i (Nat.lt_of_lt_of_le hi h.gr.size)).trans (h.gr.block i hi hne)⟩⟩
theorem SrtAt.drewN {w0 W : World} {base g n c : Nat} {L : List RowT} (h : SrtAt w0 base g n c L W) (k : Nat) : SrtAt w0 base g n c L (W.drewN k) := ⟨h.own, only_drewN h.gr k⟩
theorem SrtAt.cells {w0 W : World} {base g n c : Nat} {L : List RowT} (h : SrtAt w0 base g n c L W) {p : Nat} {y : RowT} (hy : L[p]? = some y) : W.cell? ⟨g, p * 3, none⟩ = some (.string y.text) ∧ W.cell? ⟨g, p * 3 + 1, none⟩ = some (.slice y.ad y.ln y.cp) ∧ W.cell? ⟨g, p * 3 + 2, none⟩ = some (.int .i64 y.val) := by
  obtain ⟨hp, rfl⟩ := List.getElem?_eq_some_iff.1 hy
  obtain ⟨h0, h1, h2⟩ := rts_get L hp
  have hc := h.own.cells (g := g) rfl
  have ea : ∀ k, (⟨g, 0, none⟩ : Addr).add k = ⟨g, k, none⟩ := fun k => by unfold Addr.add; split <;> simp_all
  have a0 := hc _ _ h0; have a1 := hc _ _ h1; have a2 := hc _ _ h2
  rw [ea] at a0 a1 a2
  exact ⟨a0, a1, a2⟩
theorem SrtAt.frozen {w0 W : World} {base g n c : Nat} {L : List RowT} (h : SrtAt w0 base g n c L W) (o : Nat) : W.frozen? ⟨g, o, none⟩ = false := by
  rcases h.own.2 with ⟨h1, _⟩ | ⟨g1, cap, cur, hv, hb, hh, _⟩
  · cases h1
  · injection hv with h1 _ _; injection h1 with h1; injection h1 with h1; subst h1
    simp [World.frozen?, hh]
theorem SrtAt.put {w0 W : World} {base g n c : Nat} {L : List RowT} (h : SrtAt w0 base g n c L W) {p : Nat} (hp : p < L.length) (x : RowT) : SrtAt w0 base g n c (L.set p x) (((W.setCell ⟨g, p * 3, none⟩ (.string x.text)).setCell ⟨g, p * 3 + 1, none⟩ (.slice x.ad x.ln x.cp)).setCell ⟨g, p * 3 + 2, none⟩ (.int .i64 x.val)) := by
  have hl := rts_length L
  refine ⟨?_, only_setCell (only_setCell (only_setCell h.gr (.inl rfl) _) (.inl rfl) _) (.inl rfl) _⟩
  rw [← rts_set L hp x]
  exact own_setV (own_setV (own_setV h.own (by omega) _) (by rw [List.length_set]; omega) _) (by rw [List.length_set, List.length_set]; omega) _
theorem SrtAt.lt {w0 W : World} {base g n c : Nat} {L : List RowT} (h : SrtAt w0 base g n c L W) : g < W.heap.size ∧ n ≤ c ∧ c ≤ 9223372036854775807 := by
  rcases h.own.2 with ⟨h1, _⟩ | ⟨g1, cap, cur, hv, hb, hh, hnc, hcm, _⟩
  · cases h1
  · injection hv with h1 _ h3; injection h1 with h1; injection h1 with h1; subst h1; subst h3
    exact ⟨(Array.getElem?_eq_some_iff.1 hh).1, hnc, by unfold maxLen at hcm; omega⟩
set_option maxHeartbeats 4000000 in
theorem inssort_any (w0 : World) (base g n c : Nat) (L : List RowT) (w : World) (h : SrtAt w0 base g n c L w) (hn0 : 0 < n) (hn : n ≤ 1000000) :
    Calls Tryz.prog 165 #[.slice (some ⟨g, 0, none⟩) n c, .int .i64 0, .int .i64 n, .func (.func 105) #[] #[]] w fun e w' => e = .returned (.tuple #[]) ∧ SrtAt w0 base g n c (sortK RowT.key L) w' := by
  obtain ⟨hgl, hnc, hcm⟩ := h.lt
  have hL := h.len
  have H0 := Lib.hid h
  have HSV : Hid (∀ k, k < L.length → (sortK RowT.key (L.take k)).length = k) := Lib.hid fun k hk => by rw [sortK_length, List.length_take]; omega
  have HNX := Lib.hid (fun k (hk : k < L.length) => sortK_next RowT.key L hk)
  have HDR := Lib.hid (fun k (hk : k < L.length) => List.drop_eq_getElem_cons hk)
  clear h
  go_enter Tryz.func165, Tryz.ntmps165
  go_wp2_with fail
  go_loopg [8] n (fun gk x8 wr => ∃ k : Nat, k + gk = n + 1 ∧ 0 < k ∧ k ≤ n ∧ x8 = .int .i64 k ∧ SrtAt w0 base g n c (sortK RowT.key (L.take k) ++ L.drop k) wr)
  case atStart => exact ⟨1, by omega, by omega, hn0, rfl, by
    have h0 := H0.out
    cases hLL : L with
    | nil => rw [hLL] at hL; simp at hL; omega
    | cons x l => rw [hLL] at h0; exact h0⟩
  case round =>
    obtain ⟨k, hkg, hk0, hkn, rfl, hsrt⟩ := hrel
    have HS := Lib.hid hsrt
    clear hsrt H0
    by_cases hlt : k < n
    case neg =>
      obtain rfl : n = k := by omega
      have HE := Lib.hid (show SrtAt w0 base g n c (sortK RowT.key L) wr by
        have h := HS.out
        rwa [List.take_of_length_le (by omega), List.drop_of_length_le (by omega), List.append_nil] at h)
      go_wp2_with fail
      first | go_end0 | skip
      exact ⟨rfl, HE.out⟩
    case pos =>
      cases gk with
      | zero => omega
      | succ gq =>
      have hpl := HSV.out k (by omega)
      have hnx := HNX.out k (by omega)
      have hdr := HDR.out k (by omega)
      have HS2 := Lib.hid (show SrtAt w0 base g n c (sortK RowT.key (L.take k) ++ L[k] :: L.drop (k + 1)) wr by rw [← hdr]; exact HS.out)
      obtain ⟨x, hx⟩ : ∃ x, L[k] = x := ⟨_, rfl⟩
      obtain ⟨pre, hpre⟩ : ∃ p, sortK RowT.key (L.take k) = p := ⟨_, rfl⟩
      obtain ⟨rest, hrest⟩ : ∃ p, L.drop (k + 1) = p := ⟨_, rfl⟩
      rw [hx] at HS2 hnx
      rw [hpre] at hpl HS2 hnx
      rw [hrest] at HS2
      have HNE := Lib.hid hnx; have HPL := Lib.hid hpl
      have HM0 := Lib.hid (show SrtAt w0 base g n c (midL pre x rest k) wr by rw [← hpl, midL_top]; exact HS2.out)
      have HEND : Hid (∀ j, insAtK RowT.key pre x k = j → midL pre x rest j = sortK RowT.key (L.take (k + 1)) ++ L.drop (k + 1)) := Lib.hid fun j hj => by rw [hnx, hrest]; exact midL_ins pre x rest (by rw [hpl]; exact hj)
      clear hnx hdr hx hpre hrest HS HS2 HNE hpl
      go_wp2_with fail
      go_loopg [9] k (fun gj x9 wj => x9 = .int .i64 gj ∧ gj ≤ k ∧ insAtK RowT.key pre x k = insAtK RowT.key pre x gj ∧ SrtAt w0 base g n c (midL pre x rest gj) wj)
      case atStart => exact ⟨rfl, Nat.le_refl _, rfl, HM0.out⟩
      case round =>
        obtain ⟨rfl, hjk, hins, hsrt⟩ := hrel
        have HS := Lib.hid hsrt; have HI := Lib.hid hins
        clear hsrt hins HM0
        cases gk with
        | zero =>
          have HZ := Lib.hid (show SrtAt w0 base g n c (sortK RowT.key (L.take (k + 1)) ++ L.drop (k + 1)) wr by rw [← HEND.out 0 HI.out]; exact HS.out)
          have hd : decide ((0 : Int) < 0) = false := rfl
          clear HS HI HEND
          go_upto_region 4 with fail
          go_quiet (fail)
          go_wp2_with fail
          go_roundg gq
          case measure => omega
          case rel => exact ⟨k + 1, by omega, by omega, by omega, by first | rfl | go_num, HZ.out.drewN _⟩
        | succ j1 =>
          have hj1 : j1 < pre.length := by have := HPL.out; omega
          have HMX := Lib.hid (midL_at pre x rest (show j1 + 1 ≤ pre.length by omega))
          have HMY := Lib.hid (midL_prev pre x rest hj1)
          have HMS := Lib.hid (midL_swap pre x rest hj1)
          have HIN := Lib.hid (show insAtK RowT.key pre x (j1 + 1) = if (pre[j1]?.map fun y => Op.bytesLess x.key y.key) = some true then insAtK RowT.key pre x j1 else j1 + 1 from rfl)
          rw [List.getElem?_eq_getElem hj1] at HIN
          obtain ⟨y, hy⟩ : ∃ y, pre[j1] = y := ⟨_, rfl⟩
          rw [hy] at HMY HMS HIN
          obtain ⟨lt, hlt2⟩ : ∃ b, Op.bytesLess x.text.toList y.text.toList = b := ⟨_, rfl⟩
          have HLT : Hid (decide (cmpI x.text.toList y.text.toList < 0) = lt) := Lib.hid (by rw [cmpI_neg, hlt2])
          have HC := Lib.hid (fun V => (sort1_any x.text y.text (.slice x.ad x.ln x.cp) (.slice y.ad y.ln y.cp) x.val y.val V rfl rfl).mono fun e w' h => show e = .returned (.int .i64 (cmpI x.text.toList y.text.toList)) ∧ Below V.heap.size V w' from ⟨h.1, by rw [h.2]; exact ((Below.refl _ _).alloc (Nat.le_refl _) _).alloc (by simp) _⟩)
          have HLT2 := Lib.hid hlt2
          obtain ⟨j, hj⟩ : ∃ j, j1 + 1 = j := ⟨_, rfl⟩
          have hjj : ((j : Int) - 1) = (j1 : Int) := by omega
          have hwj : IntKind.i64.wrap ((j : Int) - 1) = (j1 : Int) := by rw [IntKind.wrap_i64]; omega
          have hj0 : decide ((0 : Int) < (j : Int)) = true := by simp; omega
          have hj2 : (0 : Int) < (j : Int) := by omega
          have hj3 : (j : Int) < (n : Int) := by omega
          have hj4 : (j1 : Int) < (n : Int) := by omega
          have q0 : 0 < j := by omega
          have q1 : ¬ n ≤ j := by omega
          have q2 : ¬ n ≤ j1 := by omega
          have hlt3 := HLT.out
          rw [show ((j1 + 1 : Nat) : Int) = (j : Int) by omega]
          rw [hj] at HMX HMY HMS HS HIN
          go_upto_region 4 with fail
          refine wp_region_facts (R := fun a b => Below a.heap.size a b) (G := (fun W => SrtAt w0 base g n c (midL pre x rest j) W)) (V := fun i' u' W => match i' with | 0 => u' = .int .i64 j | 1 => u' = .int .i64 0 | 2 => u' = .bool true | 3 => u' = .bool true | 4 => u' = .func (.func 105) #[] #[] | 5 => u' = .slice (some ⟨g, 0, none⟩) n c | 6 => u' = .int .i64 j | 7 => u' = .pointer (some ⟨g, j * 3, none⟩) | 8 => u' = .agg #[.string x.text, (.slice x.ad x.ln x.cp), .int .i64 x.val] | 9 => u' = .slice (some ⟨g, 0, none⟩) n c | 10 => u' = .int .i64 j | 11 => u' = .int .i64 j1 | 12 => u' = .pointer (some ⟨g, j1 * 3, none⟩) | 13 => u' = .agg #[.string y.text, (.slice y.ad y.ln y.cp), .int .i64 y.val] | 14 => u' = .int .i64 (cmpI x.text.toList y.text.toList) | 15 => u' = .bool lt | 16 => u' = .bool lt | _ => True) (by kernel_rfl) (fun w => Below.refl _ _) (fun a b c h1 h2 => h1.trans (h2.mono h1.size)) (by kernel_rfl) (by kernel_rfl) ?hG ⟨?o0, ?o1, ?o2, ?o3, ?o4, ?o5, ?o6, ?o7, ?o8, ?o9, ?o10, ?o11, ?o12, ?o13, ?o14, ?o15, ?o16, trivial⟩ ?hend
          case o0 =>
            intro a w hfr hG hd
            refine ⟨fun hw => ?_, fun hw => absurd hw (by simp [Region.wanted])⟩
            have s9 : a.tmps.getD 9 undef = .int .i64 j := hfr.at 9 (by kernel_rfl)
            refine op_yields (.int .i64 j) ?_ ?_ ?_
            · simp only [execOp, resolve, List.map_toArray, List.map_cons, List.map_nil, Act.eval, s9]; simp [go_sem, -Array.getD_eq_getD_getElem?, s9]
            · exact Below.refl _ _
            · exact (fun _ _ => rfl)
          case o1 =>
            intro a w hfr hG hd
            refine ⟨fun hw => ?_, fun hw => absurd hw (by simp [Region.wanted])⟩
            have s1 : a.tmps.getD 1 undef = .int .i64 0 := hfr.at 1 (by kernel_rfl)
            refine op_yields (.int .i64 0) ?_ ?_ ?_
            · simp only [execOp, resolve, List.map_toArray, List.map_cons, List.map_nil, Act.eval, s1]; simp [go_sem, -Array.getD_eq_getD_getElem?, s1]
            · exact Below.refl _ _
            · exact (fun _ _ => rfl)
          case o2 =>
            intro a w hfr hG hd
            obtain ⟨d0, d1, _⟩ := hd
            refine ⟨fun hw => ?_, fun hw => absurd hw (by simp [Region.wanted])⟩
            have s18 : a.tmps.getD 18 undef = .int .i64 j := (d0 rfl).now
            have s19 : a.tmps.getD 19 undef = .int .i64 0 := (d1 rfl).now
            refine op_yields (.bool true) ?_ ?_ ?_
            · simp only [execOp, resolve, List.map_toArray, List.map_cons, List.map_nil, Act.eval, s18, s19]; simp [go_sem, -Array.getD_eq_getD_getElem?, s18, s19, q0]
            · exact Below.refl _ _
            · exact (fun _ _ => rfl)
          case o3 =>
            intro a w hfr hG hd
            obtain ⟨d0, _⟩ := hd
            refine ⟨fun hw => ?_, fun hw => absurd hw (by simp [Region.wanted])⟩
            have s20 : a.tmps.getD 20 undef = .bool true := (d0 rfl).now
            refine op_yields (.bool true) ?_ ?_ ?_
            · simp only [execOp, resolve, List.map_toArray, List.map_cons, List.map_nil, Act.eval, s20]; simp [go_sem, -Array.getD_eq_getD_getElem?, s20]
            · exact Below.refl _ _
            · exact (fun _ _ => rfl)
          case o4 =>
            intro a w hfr hG hd
            obtain ⟨d0, _⟩ := hd
            have sg : a.tmps.getD 21 undef = .bool true := (d0 rfl).now
            refine ⟨fun hw => ?_, fun hw => by rw [wanted_of rfl (yielded_of rfl sg)] at hw; exact absurd hw (by decide)⟩
            have s3 : a.tmps.getD 3 undef = .func (.func 105) #[] #[] := hfr.at 3 (by kernel_rfl)
            refine op_yields (.func (.func 105) #[] #[]) ?_ ?_ ?_
            · simp only [execOp, resolve, List.map_toArray, List.map_cons, List.map_nil, Act.eval, s3]; simp [go_sem, -Array.getD_eq_getD_getElem?, s3]
            · exact Below.refl _ _
            · exact (fun _ _ => rfl)
          case o5 =>
            intro a w hfr hG hd
            obtain ⟨d0, _⟩ := hd
            have sg : a.tmps.getD 21 undef = .bool true := (d0 rfl).now
            refine ⟨fun hw => ?_, fun hw => by rw [wanted_of rfl (yielded_of rfl sg)] at hw; exact absurd hw (by decide)⟩
            have s0 : a.tmps.getD 0 undef = .slice (some ⟨g, 0, none⟩) n c := hfr.at 0 (by kernel_rfl)
            refine op_yields (.slice (some ⟨g, 0, none⟩) n c) ?_ ?_ ?_
            · simp only [execOp, resolve, List.map_toArray, List.map_cons, List.map_nil, Act.eval, s0]; simp [go_sem, -Array.getD_eq_getD_getElem?, s0]
            · exact Below.refl _ _
            · exact (fun _ _ => rfl)
          case o6 =>
            intro a w hfr hG hd
            obtain ⟨d0, _⟩ := hd
            have sg : a.tmps.getD 21 undef = .bool true := (d0 rfl).now
            refine ⟨fun hw => ?_, fun hw => by rw [wanted_of rfl (yielded_of rfl sg)] at hw; exact absurd hw (by decide)⟩
            have s9 : a.tmps.getD 9 undef = .int .i64 j := hfr.at 9 (by kernel_rfl)
            refine op_yields (.int .i64 j) ?_ ?_ ?_
            · simp only [execOp, resolve, List.map_toArray, List.map_cons, List.map_nil, Act.eval, s9]; simp [go_sem, -Array.getD_eq_getD_getElem?, s9]
            · exact Below.refl _ _
            · exact (fun _ _ => rfl)
          case o7 =>
            intro a w hfr hG hd
            obtain ⟨d0, d1, d2, _⟩ := hd
            have sg : a.tmps.getD 21 undef = .bool true := (d2 rfl).now
            refine ⟨fun hw => ?_, fun hw => by rw [wanted_of rfl (yielded_of rfl sg)] at hw; exact absurd hw (by decide)⟩
            have s23 : a.tmps.getD 23 undef = .slice (some ⟨g, 0, none⟩) n c := (d0 rfl).now
            have s24 : a.tmps.getD 24 undef = .int .i64 j := (d1 rfl).now
            refine op_yields (.pointer (some ⟨g, j * 3, none⟩)) ?_ ?_ ?_
            · simp only [execOp, resolve, List.map_toArray, List.map_cons, List.map_nil, Act.eval, s23, s24]; simp [go_sem, -Array.getD_eq_getD_getElem?, s23, s24, q1]
            · exact Below.refl _ _
            · exact (fun _ _ => rfl)
          case o8 =>
            intro a w hfr hG hd
            obtain ⟨d0, d1, _⟩ := hd
            have sg : a.tmps.getD 21 undef = .bool true := (d1 rfl).now
            refine ⟨fun hw => ?_, fun hw => by rw [wanted_of rfl (yielded_of rfl sg)] at hw; exact absurd hw (by decide)⟩
            have s25 : a.tmps.getD 25 undef = .pointer (some ⟨g, j * 3, none⟩) := (d0 rfl).now
            obtain ⟨z0, z1, z2⟩ := hG.now.cells (HMX.out)
            refine op_yields (.agg #[.string x.text, (.slice x.ad x.ln x.cp), .int .i64 x.val]) ?_ ?_ ?_
            · simp only [execOp, resolve, List.map_toArray, List.map_cons, List.map_nil, Act.eval, s25]; simp [go_sem, -Array.getD_eq_getD_getElem?, s25, z0, z1, z2]
            · exact Below.refl _ _
            · exact (fun _ _ => rfl)
          case o9 =>
            intro a w hfr hG hd
            obtain ⟨d0, _⟩ := hd
            have sg : a.tmps.getD 21 undef = .bool true := (d0 rfl).now
            refine ⟨fun hw => ?_, fun hw => by rw [wanted_of rfl (yielded_of rfl sg)] at hw; exact absurd hw (by decide)⟩
            have s0 : a.tmps.getD 0 undef = .slice (some ⟨g, 0, none⟩) n c := hfr.at 0 (by kernel_rfl)
            refine op_yields (.slice (some ⟨g, 0, none⟩) n c) ?_ ?_ ?_
            · simp only [execOp, resolve, List.map_toArray, List.map_cons, List.map_nil, Act.eval, s0]; simp [go_sem, -Array.getD_eq_getD_getElem?, s0]
            · exact Below.refl _ _
            · exact (fun _ _ => rfl)
          case o10 =>
            intro a w hfr hG hd
            obtain ⟨d0, _⟩ := hd
            have sg : a.tmps.getD 21 undef = .bool true := (d0 rfl).now
            refine ⟨fun hw => ?_, fun hw => by rw [wanted_of rfl (yielded_of rfl sg)] at hw; exact absurd hw (by decide)⟩
            have s9 : a.tmps.getD 9 undef = .int .i64 j := hfr.at 9 (by kernel_rfl)
            refine op_yields (.int .i64 j) ?_ ?_ ?_
            · simp only [execOp, resolve, List.map_toArray, List.map_cons, List.map_nil, Act.eval, s9]; simp [go_sem, -Array.getD_eq_getD_getElem?, s9]
            · exact Below.refl _ _
            · exact (fun _ _ => rfl)
          case o11 =>
            intro a w hfr hG hd
            obtain ⟨d0, d1, _⟩ := hd
            have sg : a.tmps.getD 21 undef = .bool true := (d1 rfl).now
            refine ⟨fun hw => ?_, fun hw => by rw [wanted_of rfl (yielded_of rfl sg)] at hw; exact absurd hw (by decide)⟩
            have s28 : a.tmps.getD 28 undef = .int .i64 j := (d0 rfl).now
            refine op_yields (.int .i64 j1) ?_ ?_ ?_
            · simp only [execOp, resolve, List.map_toArray, List.map_cons, List.map_nil, Act.eval, s28]; simp [go_sem, -Array.getD_eq_getD_getElem?, s28, hwj]
            · exact Below.refl _ _
            · exact (fun _ _ => rfl)
          case o12 =>
            intro a w hfr hG hd
            obtain ⟨d0, d1, d2, _⟩ := hd
            have sg : a.tmps.getD 21 undef = .bool true := (d2 rfl).now
            refine ⟨fun hw => ?_, fun hw => by rw [wanted_of rfl (yielded_of rfl sg)] at hw; exact absurd hw (by decide)⟩
            have s27 : a.tmps.getD 27 undef = .slice (some ⟨g, 0, none⟩) n c := (d0 rfl).now
            have s29 : a.tmps.getD 29 undef = .int .i64 j1 := (d1 rfl).now
            refine op_yields (.pointer (some ⟨g, j1 * 3, none⟩)) ?_ ?_ ?_
            · simp only [execOp, resolve, List.map_toArray, List.map_cons, List.map_nil, Act.eval, s27, s29]; simp [go_sem, -Array.getD_eq_getD_getElem?, s27, s29, q2]
            · exact Below.refl _ _
            · exact (fun _ _ => rfl)
          case o13 =>
            intro a w hfr hG hd
            obtain ⟨d0, d1, _⟩ := hd
            have sg : a.tmps.getD 21 undef = .bool true := (d1 rfl).now
            refine ⟨fun hw => ?_, fun hw => by rw [wanted_of rfl (yielded_of rfl sg)] at hw; exact absurd hw (by decide)⟩
            have s30 : a.tmps.getD 30 undef = .pointer (some ⟨g, j1 * 3, none⟩) := (d0 rfl).now
            obtain ⟨z0, z1, z2⟩ := hG.now.cells (HMY.out)
            refine op_yields (.agg #[.string y.text, (.slice y.ad y.ln y.cp), .int .i64 y.val]) ?_ ?_ ?_
            · simp only [execOp, resolve, List.map_toArray, List.map_cons, List.map_nil, Act.eval, s30]; simp [go_sem, -Array.getD_eq_getD_getElem?, s30, z0, z1, z2]
            · exact Below.refl _ _
            · exact (fun _ _ => rfl)
          case o14 =>
            intro a w hfr hG hd
            obtain ⟨d0, d1, d2, d3, d4, _⟩ := hd
            have sg : a.tmps.getD 21 undef = .bool true := (d3 rfl).now
            refine ⟨fun hw => ?_, fun hw => by rw [wanted_of rfl (yielded_of rfl sg)] at hw; exact absurd hw (by decide)⟩
            have s22 : a.tmps.getD 22 undef = .func (.func 105) #[] #[] := (d0 rfl).now
            have s26 : a.tmps.getD 26 undef = .agg #[.string x.text, (.slice x.ad x.ln x.cp), .int .i64 x.val] := (d1 rfl).now
            have s31 : a.tmps.getD 31 undef = .agg #[.string y.text, (.slice y.ad y.ln y.cp), .int .i64 y.val] := (d2 rfl).now
            refine op_calls2 ((HC.out w).mono fun e' w' hh => ⟨_, hh.1, hh.2, (fun _ _ => rfl)⟩) ?_
            simp only [execOp, resolve, List.map_toArray, List.map_cons, List.map_nil, Act.eval, s22, s26, s31]; simp [go_sem, -Array.getD_eq_getD_getElem?, s22, s26, s31]
          case o15 =>
            intro a w hfr hG hd
            obtain ⟨d0, d1, _⟩ := hd
            have sg : a.tmps.getD 21 undef = .bool true := (d1 rfl).now
            refine ⟨fun hw => ?_, fun hw => by rw [wanted_of rfl (yielded_of rfl sg)] at hw; exact absurd hw (by decide)⟩
            have s32 : a.tmps.getD 32 undef = .int .i64 (cmpI x.text.toList y.text.toList) := (d0 rfl).now
            refine op_yields (.bool lt) ?_ ?_ ?_
            · simp only [execOp, resolve, List.map_toArray, List.map_cons, List.map_nil, Act.eval, s32]; simp [go_sem, -Array.getD_eq_getD_getElem?, s32, hlt3]
            · exact Below.refl _ _
            · exact (fun _ _ => rfl)
          case o16 =>
            intro a w hfr hG hd
            obtain ⟨d0, d1, _⟩ := hd
            refine ⟨fun hw => ?_, fun hw => absurd hw (by simp [Region.wanted])⟩
            have s21 : a.tmps.getD 21 undef = .bool true := (d0 rfl).now
            have s33 : a.tmps.getD 33 undef = .bool lt := (d1 rfl).now
            refine op_yields (.bool lt) ?_ ?_ ?_
            · simp only [execOp, resolve, List.map_toArray, List.map_cons, List.map_nil, Act.eval, s21, s33]; simp [go_sem, -Array.getD_eq_getD_getElem?, s21, s33]
            · exact Below.refl _ _
            · exact (fun _ _ => rfl)
          case hG => exact fun w' hb => HS.out.below ((Below.refl _ _).drew.trans (hb.mono (by simp)))
          case hend =>
            intro vs w' hG hv
            have key : vs 16 = .bool lt := by
              obtain ⟨_, _, _, _, _, _, _, _, _, _, _, _, _, _, _, _, h16, _⟩ := hv
              exact h16.now
            have HS2 := Lib.hid hG.now
            clear hv hG HC HS
            simp only [putAll, Act.put, key]
            clear key hlt3
            go_simp
            cases lt with
            | false =>
              have HZ := Lib.hid (show SrtAt w0 base g n c (sortK RowT.key (L.take (k + 1)) ++ L.drop (k + 1)) w' by
                rw [← HEND.out j (by rw [HI.out, hj, HIN.out, if_neg (by simpa [RowT.key] using HLT2.out)])]; exact HS2.out)
              clear HS2 HI HEND HIN HMX HMY HMS
              go_wp2_with fail
              go_roundg gq
              case measure => omega
              case rel => exact ⟨k + 1, by omega, by omega, by omega, by first | rfl | go_num, HZ.out⟩
            | true =>
              go_upto_region 6 with fail
              obtain ⟨x0, x1, x2⟩ := HS2.out.cells HMX.out
              obtain ⟨y0, y1, y2⟩ := HS2.out.cells HMY.out
              have hadd := add_mkV g (j * 3)
              have hadd1 := add_mkV g (j1 * 3)
              have hf := HS2.out.frozen
              have HP1 := HS2.out.put (p := j) (by rw [midL_length, HPL.out]; omega) y
              have HP2 := Lib.hid (show SrtAt w0 base g n c (midL pre x rest j1) _ from HMS.out ▸ HP1.put (p := j1) (by rw [List.length_set, midL_length, HPL.out]; omega) x)
              have HI2 := Lib.hid (show insAtK RowT.key pre x k = insAtK RowT.key pre x j1 by rw [HI.out, hj, HIN.out, if_pos (by simpa [RowT.key] using HLT2.out)])
              clear HP1 HS2 HI HIN HMX HMY HMS HEND HLT HLT2
              go_region
              generalize hWW : World.setCell _ _ _ = W6 at HP2 ⊢
              have HP3 := Lib.hid (show SrtAt w0 base g n c (midL pre x rest j1) W6 from HP2.out)
              clear HP2 hWW
              go_wp2_with fail
              go_roundg j1
              case measure => omega
              case rel => exact ⟨by first | rfl | go_num, by omega, HI2.out, HP3.out.below (Below.refl _ _).drew⟩
theorem inssort_zero (A : Option Addr) (c : Nat) (w : World) :
    Calls Tryz.prog 165 #[.slice A 0 c, .int .i64 0, .int .i64 0, .func (.func 105) #[] #[]] w fun e w' => e = .returned (.tuple #[]) ∧ w = w' := by
  go_enter Tryz.func165, Tryz.ntmps165
  go_wp2_with fail
  go_loopg [8] 1 (fun gk x8 wr => x8 = .int .i64 1 ∧ w = wr)
  case atStart => exact ⟨rfl, rfl⟩
  case round =>
    obtain ⟨rfl, rfl⟩ := hrel
    go_wp2_with fail
    go_end0
    exact ⟨rfl, rfl⟩
set_option maxHeartbeats 2000000 in
theorem stable_any (base : Nat) (A : Option Addr) (n c : Nat) (L : List RowT) (w : World) (h : w.ownsRow base 163 3 (.slice A n c) n (rts L)) (hn : n ≤ 19) :
    Calls Tryz.prog 140 #[.slice A n c, .int .i64 n, .func (.func 105) #[] #[]] w fun e w' => e = .returned (.tuple #[]) ∧ w'.ownsRow base 163 3 (.slice A n c) n (rts (sortK RowT.key L)) ∧ w.grownBy w' (Value.slice A n c).ownBlock := by
  have hl : L.length = n := by have := h.1; rw [rts_length] at this; omega
  have HC : Hid (Calls Tryz.prog 165 #[.slice A n c, .int .i64 0, .int .i64 n, .func (.func 105) #[] #[]] w fun e w' => e = .returned (.tuple #[]) ∧ w'.ownsRow base 163 3 (.slice A n c) n (rts (sortK RowT.key L)) ∧ w.grownBy w' (Value.slice A n c).ownBlock) := Lib.hid (by
    rcases Nat.eq_zero_or_pos n with h0 | h0
    · subst h0
      have hL : L = [] := List.eq_nil_of_length_eq_zero hl
      subst hL
      exact (inssort_zero A c w).mono fun e w' hh => ⟨hh.1, by rw [← hh.2]; exact h, by rw [← hh.2]; exact World.grownBy.refl _ _⟩
    · obtain ⟨g, cap, hv, _, hlt⟩ := h.form h0
      injection hv with hv _ hc; subst hv; subst hc
      exact (inssort_any w base g n c L w ⟨h, World.grownBy.refl _ _⟩ h0 (by omega)).mono fun e w' hh => ⟨hh.1, hh.2.own, hh.2.gr⟩)
  clear h hl
  have hn2 : (n : Int) < 20 := by omega
  go_enter Tryz.func140, Tryz.ntmps140
  go_wp2_with fail
  go_loopg [7, 8] 1 (fun gk x7 x8 wr => x7 = .int .i64 0 ∧ x8 = .int .i64 20 ∧ w = wr)
  case atStart => exact ⟨rfl, rfl, rfl⟩
  case round =>
    obtain ⟨rfl, rfl, rfl⟩ := hrel
    go_wp2_with fail
    (with_reducible refine HC.out.mono ?_); rintro e w1 ⟨rfl, ho, hg⟩
    have HO := Lib.hid ho; have HG := Lib.hid hg
    clear ho hg HC
    go_wp2_with fail
    go_loopg [6] 1 (fun gk x6 wr => x6 = .int .i64 20 ∧ w1 = wr)
    case atStart => exact ⟨rfl, rfl⟩
    case round =>
      obtain ⟨rfl, rfl⟩ := hrel
      go_wp2_with fail
      go_end0
      exact ⟨rfl, HO.out, HG.out⟩
end Go.Proofs.YtlmakdclebbbkaaGreat
