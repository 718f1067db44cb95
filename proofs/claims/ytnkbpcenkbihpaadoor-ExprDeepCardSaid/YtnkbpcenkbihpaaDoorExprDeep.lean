/- Law ExprDeep. -/
import Derived.Test.YtnkbpcenkbihpaaDoorExprRuns
import Derived.Test.YtnkbpcenkbihpaaDoorExprs
import Derived.Test.YtnkbpcenkbihpaaDoorPe4
namespace Go.Proofs.YtnkbpcenkbihpaaDoor
open Go.ChangeShapes Go.WideShapes Go.ChangeAt Go.RowKit
set_option linter.unusedVariables false
set_option linter.unusedSimpArgs false
set_option maxRecDepth 100000
/-- The law's own expression, after so many rounds. -/
def dpP (b : Bool) : Nat → PE
  | 0 => .mk 2 5 [] [] []
  | i + 1 => if b then .mk 17 0 [] [] [dpP b i] else .mk 3 0 [] [] [.mk 1 1 [] [] [], dpP b i]
theorem dpP_facts (b : Bool) : ∀ i, (dpP b i).ty = 2 ∧ (dpP b i).deep = i + 1 ∧ (dpP b i).fits ∧ (dpP b i).small ∧ (dpP b i).text.length ≤ 5 + 13 * i ∧ (dpP b i).toks.length ≤ 5 + 9 * i
  | 0 => by
    refine ⟨rfl, rfl, by simp [dpP, PE.fits, fitsP, I64], by simp [dpP, PE.small, smallP], ?_, by show 5 ≤ 5; decide⟩
    have e : (dpP b 0).text = [123, 125, 91, 53, 93] := by kernel_rfl
    rw [e]; decide
  | i + 1 => by
    obtain ⟨h1, h2, h3, h4, h5, h6⟩ := dpP_facts b i
    cases b with
    | true =>
      have e : dpP true (i + 1) = .mk 17 0 [] [] [dpP true i] := rfl
      rw [e]
      refine ⟨?_, ?_, ?_, ?_, ?_, ?_⟩
      · unfold PE.ty
        rw [if_neg (by decide), if_neg (by decide), if_neg (by simp), if_pos (by decide)]
        unfold oneT
        rw [if_pos ⟨by rfl, by simp only [tysP]; rw [h1]⟩]
      · unfold PE.deep deepsP deepsP; omega
      · unfold PE.fits fitsP fitsP; exact ⟨by unfold I64; omega, h3, trivial⟩
      · unfold PE.small smallP smallP; exact ⟨by simp, by simp, by simp, h4, trivial⟩
      · rw [text_one _ _ (by decide)]
        have : (wordX 17).data.toList.length = 3 := rfl
        simp only [List.length_cons, List.length_append, List.length_nil, joinN]; omega
      · rw [toks_one _ _ (by decide)]
        simp only [List.length_cons, List.length_append, List.length_nil, nsToks]; omega
    | false =>
      have e : dpP false (i + 1) = .mk 3 0 [] [] [.mk 1 1 [] [] [], dpP false i] := rfl
      rw [e]
      have ht : (PE.mk 1 1 [] [] []).text = [49] := by kernel_rfl
      have hk : (PE.mk 1 1 [] [] []).toks.length = 1 := rfl
      refine ⟨?_, ?_, ?_, ?_, ?_, ?_⟩
      · unfold PE.ty
        rw [if_neg (by decide), if_neg (by decide), if_neg (by simp), if_neg (by decide), if_pos (by decide)]
        simp only [tysP]
        rw [h1]; rfl
      · unfold PE.deep deepsP deepsP deepsP
        have e2 : (PE.mk 1 1 [] [] []).deep = 1 := rfl
        rw [e2]; omega
      · unfold PE.fits fitsP fitsP fitsP; exact ⟨by unfold I64; omega, by simp [PE.fits, fitsP, I64], h3, trivial⟩
      · unfold PE.small smallP smallP smallP; exact ⟨by simp, by simp, by simp, by simp [PE.small, smallP], h4, trivial⟩
      · rw [text_two _ _ (by decide) (by decide), ht]
        have : (signX 3).data.toList.length = 1 := rfl
        simp only [List.length_cons, List.length_append, List.length_nil]; omega
      · rw [toks_two _ _ (by decide) (by decide)]
        simp only [List.length_cons, List.length_append, List.length_nil, hk]; omega
theorem dpP_next (b : Bool) (i : Nat) : (dpP b (i + 1)).text = if b then [115, 117, 109, 32, 98, 121, 32, 40, 41, 32, 40] ++ ((dpP b i).text ++ [41]) else [40, 49, 32, 43, 32] ++ ((dpP b i).text ++ [41]) := by
  cases b with
  | true =>
    have e : dpP true (i + 1) = .mk 17 0 [] [] [dpP true i] := rfl
    rw [e, text_one _ _ (by decide), if_pos rfl]; rfl
  | false =>
    have e : dpP false (i + 1) = .mk 3 0 [] [] [.mk 1 1 [] [] [], dpP false i] := rfl
    have ht : (PE.mk 1 1 [] [] []).text = [49] := by kernel_rfl
    rw [e, text_two _ _ (by decide) (by decide), ht, if_neg (by simp)]; rfl
theorem dpP_few (b : Bool) {i : Nat} (h : i < 8) : parseF (dpP b i).text = (dpP b i, 0, 0) := by
  obtain ⟨h1, h2, h3, h4, h5, h6⟩ := dpP_facts b i
  exact parse_back (by rw [h1]; decide) (by omega) h3 (by omega)
theorem dpP_t8 : (parseF (dpP true 8).text).2.2 = 6 := by kernel_rfl
theorem dpP_t9 : (parseF (dpP true 9).text).2.2 = 6 := by kernel_rfl
theorem dpP_t10 : (parseF (dpP true 10).text).2.2 = 6 := by kernel_rfl
theorem dpP_t11 : (parseF (dpP true 11).text).2.2 = 6 := by kernel_rfl
theorem dpP_f8 : (parseF (dpP false 8).text).2.2 = 6 := by kernel_rfl
theorem dpP_f9 : (parseF (dpP false 9).text).2.2 = 6 := by kernel_rfl
theorem dpP_f10 : (parseF (dpP false 10).text).2.2 = 6 := by kernel_rfl
theorem dpP_f11 : (parseF (dpP false 11).text).2.2 = 6 := by kernel_rfl
theorem dpP_many (b : Bool) {i : Nat} (h : 8 ≤ i) (h2 : i ≤ 11) : (parseF (dpP b i).text).2.2 = 6 := by
  have hi : i = 8 ∨ i = 9 ∨ i = 10 ∨ i = 11 := by omega
  cases b with
  | true =>
    rcases hi with rfl | rfl | rfl | rfl
    · exact dpP_t8
    · exact dpP_t9
    · exact dpP_t10
    · exact dpP_t11
  | false =>
    rcases hi with rfl | rfl | rfl | rfl
    · exact dpP_f8
    · exact dpP_f9
    · exact dpP_f10
    · exact dpP_f11
/-- The law's own box. -/
structure DBox (g d : Nat) (p : PE) (w0 : World) (xk xn : Int) (A1 : Option Addr) (c1 : Nat) (ms : List Mtc) (A2 : Option Addr) (c2 : Nat) (ns : List ByteArray) (A3 : Option Addr) (c3 : Nat) (ks : List XE) (w : World) : Prop where
  blk : Blk w g 26 [.int .i64 xk, .int .i64 xn, .slice A1 ms.length c1, .slice A2 ns.length c2, .slice A3 ks.length c3]
  far : FarS (fun q => q = g) (okX d (.mk xk xn (.slice A1 ms.length c1) ms (.slice A2 ns.length c2) ns (.slice A3 ks.length c3) ks)) w
  pe : (XE.mk xk xn (.slice A1 ms.length c1) ms (.slice A2 ns.length c2) ns (.slice A3 ks.length c3) ks).pe = p
  bel : Below w0.heap.size w0 w
  l0 : w0.heap.size ≤ g
theorem DBox.sum {g d : Nat} {p : PE} {w0 w : World} {xk xn : Int} {A1 A2 A3 : Option Addr} {c1 c2 c3 : Nat} {ms : List Mtc} {ns : List ByteArray} {ks : List XE} (h : DBox g d p w0 xk xn A1 c1 ms A2 c2 ns A3 c3 ks w) :
    DBox g (d + 1) (.mk 17 0 [] [] [p]) w0 17 0 none 0 [] none 0 [] (some ⟨w.heap.size, 0, none⟩) 1 [.mk xk xn (.slice A1 ms.length c1) ms (.slice A2 ns.length c2) ns (.slice A3 ks.length c3) ks] (set5W (w.alloc (.cells #[.int .i64 xk, .int .i64 xn, .slice A1 ms.length c1, .slice A2 ns.length c2, .slice A3 ks.length c3] 26)) g (.int .i64 17) (.int .i64 0) (.slice none 0 0) (.slice none 0 0) (.slice (some ⟨w.heap.size, 0, none⟩) 1 1)) := by
  have hl := h.blk.lt
  have hl0 := h.l0
  have hg := set5W_grown (w.alloc (.cells #[.int .i64 xk, .int .i64 xn, .slice A1 ms.length c1, .slice A2 ns.length c2, .slice A3 ks.length c3] 26)) g (.int .i64 17) (.int .i64 0) (.slice none 0 0) (.slice none 0 0) (.slice (some ⟨w.heap.size, 0, none⟩) 1 1)
  have ha : Below w.heap.size w (w.alloc (.cells #[.int .i64 xk, .int .i64 xn, .slice A1 ms.length c1, .slice A2 ns.length c2, .slice A3 ks.length c3] 26)) := (Below.refl _ _).alloc (Nat.le_refl _) _
  have hb1 := h.bel.trans (ha.mono h.bel.size)
  have hbk : Blk (w.alloc (.cells #[.int .i64 xk, .int .i64 xn, .slice A1 ms.length c1, .slice A2 ns.length c2, .slice A3 ks.length c3] 26)) w.heap.size 26 (kcells [.mk xk xn (.slice A1 ms.length c1) ms (.slice A2 ns.length c2) ns (.slice A3 ks.length c3) ks]) := Blk.mk (heap_alloc_new w _)
  have hbk2 := hbk.grown hg (fun e => by injection e with e; omega)
  have hfar := (h.far.below ha).grown (row := some g) hg (fun q e => (Option.some.inj e).symm)
  refine ⟨set5W_blk (h.blk.alloc _) _ _ _ _ _, okX_far (FarS.nil 3) (FarS.nil 1) (FarS.slc (n := 1) (size := 5) hbk2 (by omega) rfl (by omega)) (fun q hq => ?_), ?_, ?_, hl0⟩
  · rw [List.mem_singleton] at hq
    subst hq
    exact hfar
  · exact congrArg (fun q => PE.mk 17 0 [] [] [q]) h.pe
  · exact below_only hb1 ⟨hg.size, hg.os, hg.tape, hg.output, fun q hq hn => hg.block q hq (fun e => hn (by injection e))⟩ hl0 hb1.size
theorem DBox.add {g d : Nat} {p : PE} {w0 w : World} {xk xn : Int} {A1 A2 A3 : Option Addr} {c1 c2 c3 : Nat} {ms : List Mtc} {ns : List ByteArray} {ks : List XE} (h : DBox g (d + 1) p w0 xk xn A1 c1 ms A2 c2 ns A3 c3 ks w) :
    DBox g (d + 1 + 1) (.mk 3 0 [] [] [.mk 1 1 [] [] [], p]) w0 3 0 none 0 [] none 0 [] (some ⟨w.heap.size, 0, none⟩) 2 [.mk 1 1 (.slice none 0 0) [] (.slice none 0 0) [] (.slice none 0 0) [], .mk xk xn (.slice A1 ms.length c1) ms (.slice A2 ns.length c2) ns (.slice A3 ks.length c3) ks] (set5W (w.alloc (.cells #[.int .i64 1, .int .i64 1, .slice none 0 0, .slice none 0 0, .slice none 0 0, .int .i64 xk, .int .i64 xn, .slice A1 ms.length c1, .slice A2 ns.length c2, .slice A3 ks.length c3] 26)) g (.int .i64 3) (.int .i64 0) (.slice none 0 0) (.slice none 0 0) (.slice (some ⟨w.heap.size, 0, none⟩) 2 2)) := by
  have hl := h.blk.lt
  have hl0 := h.l0
  have hg := set5W_grown (w.alloc (.cells #[.int .i64 1, .int .i64 1, .slice none 0 0, .slice none 0 0, .slice none 0 0, .int .i64 xk, .int .i64 xn, .slice A1 ms.length c1, .slice A2 ns.length c2, .slice A3 ks.length c3] 26)) g (.int .i64 3) (.int .i64 0) (.slice none 0 0) (.slice none 0 0) (.slice (some ⟨w.heap.size, 0, none⟩) 2 2)
  have ha : Below w.heap.size w (w.alloc (.cells #[.int .i64 1, .int .i64 1, .slice none 0 0, .slice none 0 0, .slice none 0 0, .int .i64 xk, .int .i64 xn, .slice A1 ms.length c1, .slice A2 ns.length c2, .slice A3 ks.length c3] 26)) := (Below.refl _ _).alloc (Nat.le_refl _) _
  have hb1 := h.bel.trans (ha.mono h.bel.size)
  have hbk : Blk (w.alloc (.cells #[.int .i64 1, .int .i64 1, .slice none 0 0, .slice none 0 0, .slice none 0 0, .int .i64 xk, .int .i64 xn, .slice A1 ms.length c1, .slice A2 ns.length c2, .slice A3 ks.length c3] 26)) w.heap.size 26 (kcells [.mk 1 1 (.slice none 0 0) [] (.slice none 0 0) [] (.slice none 0 0) [], .mk xk xn (.slice A1 ms.length c1) ms (.slice A2 ns.length c2) ns (.slice A3 ks.length c3) ks]) := Blk.mk (heap_alloc_new w _)
  have hbk2 := hbk.grown hg (fun e => by injection e with e; omega)
  have hfar := (h.far.below ha).grown (row := some g) hg (fun q e => (Option.some.inj e).symm)
  refine ⟨set5W_blk (h.blk.alloc _) _ _ _ _ _, okX_far (FarS.nil 3) (FarS.nil 1) (FarS.slc (n := 2) (size := 5) hbk2 (by omega) rfl (by omega)) (fun q hq => ?_), ?_, ?_, hl0⟩
  · rw [List.mem_cons, List.mem_singleton] at hq
    rcases hq with rfl | rfl
    · exact okX_far (FarS.nil 3) (FarS.nil 1) (FarS.nil 5) (fun x hx => absurd hx List.not_mem_nil)
    · exact hfar
  · exact congrArg (fun q => PE.mk 3 0 [] [] [PE.mk 1 1 [] [] [], q]) h.pe
  · exact below_only hb1 ⟨hg.size, hg.os, hg.tape, hg.output, fun q hq hn => hg.block q hq (fun e => hn (by injection e))⟩ hl0 hb1.size
theorem set5W_alloc (w : World) (o : Obj) (g : Nat) (v0 v1 v2 v3 v4 : Value) (hg : g < w.heap.size) : set5W (w.alloc o) g v0 v1 v2 v3 v4 = (set5W w g v0 v1 v2 v3 v4).alloc o := by
  unfold set5W
  rw [World.setCell_alloc_past _ _ _ _ hg, World.setCell_alloc_past _ _ _ _ (by simp; exact hg), World.setCell_alloc_past _ _ _ _ (by simp; exact hg), World.setCell_alloc_past _ _ _ _ (by simp; exact hg), World.setCell_alloc_past _ _ _ _ (by simp; exact hg)]
theorem DBox.below {g d : Nat} {p : PE} {w0 w w' : World} {xk xn : Int} {A1 A2 A3 : Option Addr} {c1 c2 c3 : Nat} {ms : List Mtc} {ns : List ByteArray} {ks : List XE} (h : DBox g d p w0 xk xn A1 c1 ms A2 c2 ns A3 c3 ks w) (hb : Below w.heap.size w w') : DBox g d p w0 xk xn A1 c1 ms A2 c2 ns A3 c3 ks w' :=
  ⟨h.blk.below hb h.blk.lt, h.far.below hb, h.pe, h.bel.trans (hb.mono h.bel.size), h.l0⟩
theorem sum_list (s : ByteArray) : (⟨#[115, 117, 109, 32, 98, 121, 32, 40, 41, 32, 40]⟩ ++ s ++ ⟨#[41]⟩ : ByteArray).data.toList = [115, 117, 109, 32, 98, 121, 32, 40, 41, 32, 40] ++ (s.data.toList ++ [41]) := by
  rw [ByteArray.data_append, ByteArray.data_append, Array.toList_append, Array.toList_append, List.append_assoc]
theorem add_list (s : ByteArray) : (⟨#[40, 49, 32, 43, 32]⟩ ++ s ++ ⟨#[41]⟩ : ByteArray).data.toList = [40, 49, 32, 43, 32] ++ (s.data.toList ++ [41]) := by
  rw [ByteArray.data_append, ByteArray.data_append, Array.toList_append, Array.toList_append, List.append_assoc]
set_option maxHeartbeats 8000000 in
theorem expr_deep (n : Int) (b : Bool) (w : World) (wn : I64 n) (tab : Tab w) : Calls Tryd.prog 6 #[.int .i64 n, .bool b] w fun e w' => e = .returned (.bool true) ∧ Below w.heap.size w w' := by
  have HT := Lib.hid tab
  have HW := Lib.hid (fun V => within_any n 1 12 V wn (by omega) (by omega) (by omega))
  obtain ⟨hk1, hk2⟩ := nWithin_in n (lo := 1) (hi := 12) (by omega)
  obtain ⟨k, hk⟩ : ∃ k : Nat, nWithin n 1 12 = (k : Int) := ⟨(nWithin n 1 12).toNat, by omega⟩
  rw [hk] at HW hk1 hk2
  have hk1' : 1 ≤ k := by omega
  have hk2' : k ≤ 12 := by omega
  have HD0 : Hid (DBox w.heap.size 1 (dpP b 0) w 2 5 none 0 [] none 0 [] none 0 [] (w.alloc (.cells #[.int .i64 2, .int .i64 5, .slice none 0 0, .slice none 0 0, .slice none 0 0] 26))) := Lib.hid ⟨Blk.mk (heap_alloc_new w _), okX_far (FarS.nil 3) (FarS.nil 1) (FarS.nil 5) (fun x hx => absurd hx List.not_mem_nil), rfl, (Below.refl _ _).alloc (Nat.le_refl _) _, Nat.le_refl _⟩
  have HG := Lib.hid (show ∃ g, w.heap.size = g from ⟨_, rfl⟩)
  clear tab hk wn hk1 hk2
  go_enter Tryd.func6, Tryd.ntmps6
  go_wp2_with fail
  (with_reducible refine (HW.out _).mono ?_); rintro e w' ⟨rfl, rfl⟩
  go_upto_region 3 with fail
  obtain ⟨g6, hg6⟩ := HG.out
  rw [hg6] at HD0 ⊢
  clear HG hg6
  generalize w.alloc (.cells #[.int .i64 2, .int .i64 5, .slice none 0 0, .slice none 0 0, .slice none 0 0] 26) = W1 at *
  have HS0 : Hid ((⟨#[123, 125, 91, 53, 93]⟩ : ByteArray).data.toList = (dpP b 0).text) := Lib.hid (by kernel_rfl)
  go_wp2_with fail
  go_loopg [7, 8] (k - 1) (fun g x7 x8 wr => ∃ (j i : Nat) (s : ByteArray) (xk xn : Int) (A1 : Option Addr) (c1 : Nat) (ms : List Mtc) (A2 : Option Addr) (c2 : Nat) (ns : List ByteArray) (A3 : Option Addr) (c3 : Nat) (ks : List XE), j = i + 1 ∧ j + g = k ∧ x7 = .string s ∧ x8 = .int .i64 j ∧ Hid (s.data.toList = (dpP b i).text) ∧ DBox g6 (i + 1) (dpP b i) w xk xn A1 c1 ms A2 c2 ns A3 c3 ks wr)
  case atStart => exact ⟨1, 0, _, 2, 5, none, 0, [], none, 0, [], none, 0, [], rfl, by omega, rfl, rfl, HS0, HD0.out⟩
  case round =>
    obtain ⟨j, i, s, xk, xn, A1, c1, xms, A2, c2, xns, A3, c3, xks, hji, hjg, rfl, rfl, HS, hd⟩ := hrel
    have HJ := Lib.hid hji
    have HD := Lib.hid hd
    obtain ⟨f1, f2, f3, f4, f5, f6⟩ := dpP_facts b i
    have hss : s.size ≤ 5 + 13 * i := by have h := ba_len s; rw [HS.out] at h; omega
    clear hd HD0 HS0 hji f1 f2 f3 f4 f5 f6
    cases gk with
    | succ g =>
      have hjk : j < k := by omega
      have hj12 : j ≤ 12 := by omega
      have hss2 : s.size ≤ 200 := by have := HJ.out; omega
      have l1 : ¬ (9223372036854775807 < 11 + s.size) := by omega
      have l2 : ¬ (9223372036854775807 < 11 + s.size + 1) := by omega
      have l3 : ¬ (9223372036854775807 < 5 + s.size) := by omega
      have l4 : ¬ (9223372036854775807 < 5 + s.size + 1) := by omega
      have hgl := HD.out.blk.lt
      obtain ⟨x0, x1, x2, x3, x4⟩ := blk_cells5 HD.out.blk
      obtain ⟨fr0, fr1, fr2, fr3, fr4⟩ := blk_fr HD.out.blk
      cases b with
      | true =>
        have hdn := HD.out.sum
        rw [set5W_alloc _ _ _ _ _ _ _ _ hgl, show PE.mk 17 0 [] [] [dpP true i] = dpP true (i + 1) from rfl] at hdn
        unfold set5W at hdn
        have HDN := Lib.hid hdn
        clear hdn
        have HTX := Lib.hid (show ((⟨#[115, 117, 109, 32, 98, 121, 32, 40, 41, 32, 40]⟩ : ByteArray) ++ s ++ ⟨#[41]⟩).data.toList = (dpP true (i + 1)).text by rw [sum_list, HS.out, dpP_next, if_pos rfl])
        clear hss
        go_wp2_with fail
        go_roundg g
        case measure => omega
        case rel => exact ⟨j + 1, i + 1, _, 17, 0, none, 0, [], none, 0, [], _, 1, [_], by have := HJ.out; omega, by omega, rfl, by go_num, HTX, HDN.out⟩
      | false =>
        have hdn := HD.out.add
        rw [set5W_alloc _ _ _ _ _ _ _ _ hgl, show PE.mk 3 0 [] [] [PE.mk 1 1 [] [] [], dpP false i] = dpP false (i + 1) from rfl] at hdn
        unfold set5W at hdn
        have HDN := Lib.hid hdn
        clear hdn
        have HTX := Lib.hid (show ((⟨#[40, 49, 32, 43, 32]⟩ : ByteArray) ++ s ++ ⟨#[41]⟩).data.toList = (dpP false (i + 1)).text by rw [add_list, HS.out, dpP_next, if_neg (by simp)])
        clear hss
        go_wp2_with fail
        go_roundg g
        case measure => omega
        case rel => exact ⟨j + 1, i + 1, _, 3, 0, none, 0, [], none, 0, [], _, 2, [_, _], by have := HJ.out; omega, by omega, rfl, by go_num, HTX, HDN.out⟩
    | zero =>
      obtain rfl : j = k := by omega
      have hss2 : s.size ≤ 200 := by have := HJ.out; omega
      have hsb : (⟨(dpP b i).text.toArray⟩ : ByteArray) = s := by rw [← HS.out]
      have hsl : s.toList = (dpP b i).text := by rw [ByteArray.toList_eq]; exact HS.out
      have htl : (dpP b i).text ≠ [] := by
        obtain ⟨f1, f2, f3, f4, f5, f6⟩ := dpP_facts b i
        intro e
        cases i with
        | zero => have h : (dpP b 0).text = [123, 125, 91, 53, 93] := by kernel_rfl
                  rw [h] at e; cases e
        | succ i => rw [dpP_next] at e; split at e <;> simp at e
      have hsne : s.toList.isEmpty = false := by rw [hsl]; cases hq : (dpP b i).text with | nil => exact absurd hq htl | cons => rfl
      have hse : (s.toList == s.toList) = true := by simp
      have HPF := Lib.hid (parse_x s wr (by omega))
      rw [HS.out] at HPF
      obtain ⟨f1, f2, f3, f4, f5, f6⟩ := dpP_facts b i
      have HC1 := Lib.hid (fun V (hV : DBox g6 (i + 1) (dpP b i) w xk xn A1 c1 xms A2 c2 xns A3 c3 xks V) => show Calls Tryd.prog 11 #[.agg #[.int .i64 xk, .int .i64 xn, .slice A1 xms.length c1, .slice A2 xns.length c2, .slice A3 xks.length c3]] V fun e w' => e = .returned (.int .i64 (j : Nat)) ∧ Below V.heap.size V w' by
        have h := deep_any (i + 1) _ V hV.far.now (by have := HJ.out; omega)
        rw [hV.pe, f2, ← HJ.out] at h; exact h)
      have HC2 := Lib.hid (fun V (hV : DBox g6 (i + 1) (dpP b i) w xk xn A1 c1 xms A2 c2 xns A3 c3 xks V) => show Calls Tryd.prog 14 #[.agg #[.int .i64 xk, .int .i64 xn, .slice A1 xms.length c1, .slice A2 xns.length c2, .slice A3 xks.length c3]] V fun e w' => e = .returned (.bool (decide (j ≤ 8))) ∧ Below V.heap.size V w' by
        have h := right_x (i + 1) (by have := HJ.out; omega) _ V (by rw [hV.pe]; exact f4) hV.far.now
        rw [hV.pe] at h
        unfold PE.right at h
        rw [f1, f2, ← HJ.out] at h; exact h)
      have HC3 := Lib.hid (fun V (hV : DBox g6 (i + 1) (dpP b i) w xk xn A1 c1 xms A2 c2 xns A3 c3 xks V) => show Calls Tryd.prog 12 #[.agg #[.int .i64 xk, .int .i64 xn, .slice A1 xms.length c1, .slice A2 xns.length c2, .slice A3 xks.length c3]] V fun e w' => e = .returned (.string (if j ≤ 8 then s else ⟨#[]⟩)) ∧ Below V.heap.size V w' by
        have h := print_x (i + 1) (by have := HJ.out; omega) _ V (by rw [hV.pe]; exact f4) (by rw [hV.pe]; exact f3) (tab_of HT.out hV.bel) hV.far.now
        rw [hV.pe] at h
        unfold PE.print at h
        rw [f1, f2, ← HJ.out] at h
        by_cases hj8 : j ≤ 8
        · rw [if_pos ⟨by decide, hj8⟩] at h
          rw [if_pos hj8, ← hsb]; exact h
        · rw [if_neg (fun h => hj8 h.2)] at h
          rw [if_neg hj8]; exact h)
      have HRU := Lib.hid (fun V (hV : Below w.heap.size w V) => expr_runs V (tab_of HT.out hV))
      by_cases hj8 : j ≤ 8
      · rw [dpP_few b (by have := HJ.out; omega)] at HPF
        rw [if_pos hj8] at HC3
        rw [decide_eq_true hj8] at HC2
        have j8 : (j : Int) ≤ 8 := by omega
        have HSM := Lib.hid f4
        clear f1 f2 f3 f4 f5 f6 hsb hsl htl HS
        go_wp2_with fail
        (with_reducible refine HPF.out.mono ?_); rintro e w3 hx
        obtain ⟨yk, yn, B1, b1, yms, B2, b2, yns, B3, b3, yks, rfl, hp, hf, hw⟩ := hx.forms
        have HQ := Lib.hid hp
        have ha := hw.alloc hw.size (.cells #[.int .i64 yk, .int .i64 yn, .slice B1 yms.length b1, .slice B2 yns.length b2, .slice B3 yks.length b3] 26)
        have HY : Hid (XBox _ 9 yk yn B1 b1 yms B2 b2 yns B3 b3 yks _) := Lib.hid (XBox.new hf.now)
        have HD2 := Lib.hid (HD.out.below ha)
        clear hx hp hf hw HPF ha HD
        go_upto_region 11 with fail
        obtain ⟨g9, hg9⟩ : ∃ g, w3.heap.size = g := ⟨_, rfl⟩
        rw [hg9] at HY ⊢
        clear hg9
        generalize w3.alloc (.cells #[.int .i64 yk, .int .i64 yn, .slice B1 yms.length b1, .slice B2 yns.length b2, .slice B3 yks.length b3] 26) = W4 at *
        have HEQ := Lib.hid (fun V (hV : DBox g6 (i + 1) (dpP b i) w xk xn A1 c1 xms A2 c2 xns A3 c3 xks V) (hY : XBox g9 9 yk yn B1 b1 yms B2 b2 yns B3 b3 yks V) => show Calls Tryd.prog 15 #[.agg #[.int .i64 yk, .int .i64 yn, .slice B1 yms.length b1, .slice B2 yns.length b2, .slice B3 yks.length b3], .agg #[.int .i64 xk, .int .i64 xn, .slice A1 xms.length c1, .slice A2 xns.length c2, .slice A3 xks.length c3]] V fun e w' => e = .returned (.bool true) ∧ Below V.heap.size V w' by
          have h := exprs_any 9 (.mk yk yn (.slice B1 yms.length b1) yms (.slice B2 yns.length b2) yns (.slice B3 yks.length b3) yks) (.mk xk xn (.slice A1 xms.length c1) xms (.slice A2 xns.length c2) xns (.slice A3 xks.length c3) xks) V hY.ok (by have h1 := okX_floors hV.far.now (8 - i); rw [show i + 1 + (8 - i) = 9 by have := HJ.out; omega] at h1; exact h1) (by rw [HQ.out]; exact HSM.out)
          rw [eqPE_yes (by rw [HQ.out, hV.pe])] at h; exact h)
        obtain ⟨x0, x1, x2, x3, x4⟩ := blk_cells5 HD2.out.blk
        go_wp2_with fail
        (with_reducible refine (HC1.out _ HD2.out).mono ?_); rintro e w5 ⟨rfl, hb⟩
        have HY_n := Lib.hid (HY.out.below hb); clear HY; have HY := HY_n; clear HY_n
        have HD2_n := Lib.hid (HD2.out.below hb); clear HD2; have HD2 := HD2_n; clear HD2_n
        clear hb x0 x1 x2 x3 x4
        obtain ⟨x0, x1, x2, x3, x4⟩ := blk_cells5 HD2.out.blk
        go_wp2_with fail
        (with_reducible refine (HC2.out _ HD2.out).mono ?_); rintro e w6 ⟨rfl, hb⟩
        have HY_n := Lib.hid (HY.out.below hb); clear HY; have HY := HY_n; clear HY_n
        have HD2_n := Lib.hid (HD2.out.below hb); clear HD2; have HD2 := HD2_n; clear HD2_n
        clear hb x0 x1 x2 x3 x4
        obtain ⟨x0, x1, x2, x3, x4⟩ := blk_cells5 HD2.out.blk
        go_wp2_with fail
        (with_reducible refine (HC3.out _ HD2.out).mono ?_); rintro e w7 ⟨rfl, hb⟩
        have HY_n := Lib.hid (HY.out.below hb); clear HY; have HY := HY_n; clear HY_n
        have HD2_n := Lib.hid (HD2.out.below hb); clear HD2; have HD2 := HD2_n; clear HD2_n
        clear hb x0 x1 x2 x3 x4
        obtain ⟨x0, x1, x2, x3, x4⟩ := blk_cells5 HD2.out.blk
        obtain ⟨y0, y1, y2, y3, y4⟩ := blk_cells5 HY.out.blk
        go_wp2_with fail
        (with_reducible refine (HEQ.out _ HD2.out HY.out).mono ?_); rintro e w8 ⟨rfl, hb⟩
        have HD2_n := Lib.hid (HD2.out.below hb); clear HD2; have HD2 := HD2_n; clear HD2_n
        clear hb x0 x1 x2 x3 x4 y0 y1 y2 y3 y4
        go_wp2_with fail
        (with_reducible refine (HRU.out _ HD2.out.bel).mono ?_); rintro e w9 ⟨rfl, hb⟩
        have HB := Lib.hid (HD2.out.bel.trans (hb.mono HD2.out.bel.size))
        clear hb
        go_wp2_with fail
        go_ret
        exact ⟨rfl, HB.out⟩
      · have h6 := dpP_many b (i := i) (by have := HJ.out; omega) (by have := HJ.out; omega)
        obtain ⟨pr, hpr⟩ : ∃ pr, parseF (dpP b i).text = pr := ⟨_, rfl⟩
        rw [hpr] at h6 HPF
        obtain ⟨pe, pa, perr⟩ := pr
        simp only at h6
        subst h6
        rw [if_neg hj8] at HC3
        rw [decide_eq_false hj8] at HC2
        have j8 : ¬ (j : Int) ≤ 8 := by omega
        clear f1 f2 f3 f4 f5 f6 hsb hsl htl HS hpr
        go_wp2_with fail
        (with_reducible refine HPF.out.mono ?_); rintro e w3 hx
        obtain ⟨yk, yn, B1, b1, yms, B2, b2, yns, B3, b3, yks, rfl, hp, hf, hw⟩ := hx.forms
        have ha := hw.alloc hw.size (.cells #[.int .i64 yk, .int .i64 yn, .slice B1 yms.length b1, .slice B2 yns.length b2, .slice B3 yks.length b3] 26)
        have HD2 := Lib.hid (HD.out.below ha)
        clear hx hp hf hw HPF ha HD
        go_upto_region 11 with fail
        generalize w3.alloc (.cells #[.int .i64 yk, .int .i64 yn, .slice B1 yms.length b1, .slice B2 yns.length b2, .slice B3 yks.length b3] 26) = W4 at *
        obtain ⟨x0, x1, x2, x3, x4⟩ := blk_cells5 HD2.out.blk
        go_wp2_with fail
        (with_reducible refine (HC1.out _ HD2.out).mono ?_); rintro e w5 ⟨rfl, hb⟩
        have HD2_n := Lib.hid (HD2.out.below hb); clear HD2; have HD2 := HD2_n; clear HD2_n
        clear hb x0 x1 x2 x3 x4
        obtain ⟨x0, x1, x2, x3, x4⟩ := blk_cells5 HD2.out.blk
        go_wp2_with fail
        (with_reducible refine (HC2.out _ HD2.out).mono ?_); rintro e w6 ⟨rfl, hb⟩
        have HD2_n := Lib.hid (HD2.out.below hb); clear HD2; have HD2 := HD2_n; clear HD2_n
        clear hb x0 x1 x2 x3 x4
        obtain ⟨x0, x1, x2, x3, x4⟩ := blk_cells5 HD2.out.blk
        go_wp2_with fail
        (with_reducible refine (HC3.out _ HD2.out).mono ?_); rintro e w7 ⟨rfl, hb⟩
        have HD2_n := Lib.hid (HD2.out.below hb); clear HD2; have HD2 := HD2_n; clear HD2_n
        clear hb x0 x1 x2 x3 x4
        go_wp2_with fail
        (with_reducible refine (HRU.out _ HD2.out.bel).mono ?_); rintro e w9 ⟨rfl, hb⟩
        have HB := Lib.hid (HD2.out.bel.trans (hb.mono HD2.out.bel.size))
        clear hb
        go_wp2_with fail
        go_ret
        exact ⟨rfl, HB.out⟩
end Go.Proofs.YtnkbpcenkbihpaaDoor
