/- VecRuns: chapter 9's runs. -/
import Derived.Test.YtbndmmfpoljeaaaBase3
namespace Go.Proofs.Ytbndmmfpoljeaaa
open Go.ChangeShapes Go.WideShapes Go.ChangeAt Go.RowKit
set_option linter.unusedVariables false
set_option linter.unusedSimpArgs false
set_option maxRecDepth 100000
theorem pts_built {W : World} {g : Nat} {rows : List PtR} (hb : Blk W g 28 (pts rows)) (he : ∀ x ∈ rows, OwnL W x.sv x.set) (hl : rows.length ≤ 1000) : PtsAt 0 (.slice (some ⟨g, 0, none⟩) rows.length rows.length) rows W := by
  refine ⟨?_, he⟩
  have h := hb.owns (base := 0) (size := 2) (n := rows.length) (cap := rows.length) (Nat.zero_le _) (Nat.le_refl _) (by unfold maxLen; omega) (pts_length rows)
  rwa [List.take_of_length_le (by rw [pts_length]; exact Nat.le_refl _)] at h
def LX : List Lbl := [(⟨#[97]⟩, ⟨#[120]⟩)]
def LY : List Lbl := [(⟨#[97]⟩, ⟨#[121]⟩)]
def LXM : List Lbl := [(⟨#[97]⟩, ⟨#[120]⟩), (nameB, ⟨#[109]⟩)]
def LXK : List Lbl := [(⟨#[97]⟩, ⟨#[120]⟩), (nameB, ⟨#[107]⟩)]
theorem runs_math : mathR 3 [(LXM, 1)] [(LXK, 2)] = ([(LX, 3)], 0) := by kernel_rfl
theorem runs_group : groupR 17 [⟨#[97]⟩] [(LXM, 1), (LXK, 2), (LY, 5)] = ([(LX, 3), (LY, 5)], 0) := by kernel_rfl
theorem runs_twice : mathR 3 [(LXM, 1), (LXK, 2)] [] = ([], 5) := by kernel_rfl
theorem ptl_xm : ptL ⟨#[120]⟩ ⟨#[109]⟩ = LXM := by kernel_rfl
theorem ptl_xk : ptL ⟨#[120]⟩ ⟨#[107]⟩ = LXK := by kernel_rfl
theorem ptl_y : ptL ⟨#[121]⟩ ⟨#[]⟩ = LY := by kernel_rfl
theorem ptl_x : ptL ⟨#[120]⟩ ⟨#[]⟩ = LX := by kernel_rfl
theorem vr_len : LXM.length ≤ 1000 ∧ LXK.length ≤ 1000 ∧ LY.length ≤ 1000 := by decide
theorem vr_i64 : I64 1 ∧ I64 2 ∧ I64 5 := by unfold I64; decide
/-- A point of a law's own, whatever is made behind it. -/
def PtS (l : List Lbl) (A : Option Addr) (n c : Nat) (W : World) : Prop := OwnL W (.slice A n c) l
theorem pt_any (a name : ByteArray) (v : Int) (l : List Lbl) (w : World) (ha : a.toList.isEmpty = false) (hl : ptL a name = l) (n : Nat) (hn : l.length = n) :
    Calls Try.prog 10 #[.string a, .string name, .int .i64 v] w fun e w' => ∃ A c, e = .returned (.agg #[.slice A n c, .int .i64 v]) ∧ OwnL w' (.slice A n c) l ∧ Below w.heap.size w w' :=
  (point_any a name v w ha).mono fun e w' h => by
    rw [hl] at h
    obtain ⟨A, c, h1, h2, h3⟩ := h
    rw [hn] at h1 h2
    exact ⟨A, c, h1, h2, h3⟩
set_option maxHeartbeats 8000000 in
theorem vec_runs (w : World) : Calls Try.prog 3 #[] w fun e w' => e = .returned (.bool true) ∧ Below w.heap.size w w' := by
  have HXM := Lib.hid (fun V => pt_any ⟨#[120]⟩ ⟨#[109]⟩ 1 LXM V (by kernel_rfl) ptl_xm 2 rfl)
  have HXK := Lib.hid (fun V => pt_any ⟨#[120]⟩ ⟨#[107]⟩ 2 LXK V (by kernel_rfl) ptl_xk 2 rfl)
  have HY5 := Lib.hid (fun V => pt_any ⟨#[121]⟩ ⟨#[]⟩ 5 LY V (by kernel_rfl) ptl_y 1 rfl)
  have HX3 := Lib.hid (fun V => pt_any ⟨#[120]⟩ ⟨#[]⟩ 3 LX V (by kernel_rfl) ptl_x 1 rfl)
  have HR0 := Lib.hid (Below.refl w.heap.size w)
  go_enter Try.func3, Try.ntmps3
  go_wp2_with fail
  (with_reducible refine (HXM.out _).mono ?_); rintro e w1 ⟨A1, c1, rfl, ho1, hb1⟩
  have HA1 := Lib.hid (show PtsAt 0 (.slice (some ⟨w1.heap.size, 0, none⟩) 1 1) [⟨.slice A1 2 c1, LXM, 1⟩] (w1.alloc (.cells #[.slice A1 2 c1, .int .i64 1] 28)) from
    pts_built (rows := [⟨.slice A1 2 c1, LXM, 1⟩]) (Blk.mk (heap_alloc_new w1 _)) (fun x hx => by rw [List.mem_singleton] at hx; subst hx; exact ho1.below ((Below.refl _ _).alloc (Nat.le_refl _) _)) (by simp))
  have HB1 := Lib.hid (show Below w.heap.size w (w1.alloc (.cells #[.slice A1 2 c1, .int .i64 1] 28)) from hb1.alloc hb1.size _)
  clear ho1 hb1
  go_wp2_with fail
  obtain ⟨g1, hg1⟩ : ∃ b, w1.heap.size = b := ⟨_, rfl⟩
  rw [hg1] at HA1 ⊢
  clear hg1
  generalize w1.alloc (.cells #[.slice A1 2 c1, .int .i64 1] 28) = V1 at *
  (with_reducible refine (HXK.out _).mono ?_); rintro e w2 ⟨A2, c2, rfl, ho2, hb2⟩
  have hal := (Below.refl w2.heap.size w2).alloc (Nat.le_refl _) (.cells #[.slice A2 2 c2, .int .i64 2] 28)
  have HA2 := Lib.hid (show PtsAt 0 (.slice (some ⟨w2.heap.size, 0, none⟩) 1 1) [⟨.slice A2 2 c2, LXK, 2⟩] (w2.alloc (.cells #[.slice A2 2 c2, .int .i64 2] 28)) from
    pts_built (rows := [⟨.slice A2 2 c2, LXK, 2⟩]) (Blk.mk (heap_alloc_new w2 _)) (fun x hx => by rw [List.mem_singleton] at hx; subst hx; exact ho2.below hal) (by simp))
  have HA1b := Lib.hid ((HA1.out.below hb2).below hal)
  have HB2 := Lib.hid ((HB1.out.trans (hb2.mono HB1.out.size)).trans (hal.mono (Nat.le_trans HB1.out.size hb2.size)))
  have HM := Lib.hid (math_any 0 0 (some ⟨g1, 0, none⟩) (some ⟨w2.heap.size, 0, none⟩) 1 1 [⟨.slice A1 2 c1, LXM, 1⟩] [⟨.slice A2 2 c2, LXK, 2⟩] 3 (w2.alloc (.cells #[.slice A2 2 c2, .int .i64 2] 28)) HA1b.out HA2.out (by simp) (by simp) (fun x hx => by rw [List.mem_singleton] at hx; subst hx; (first | exact vr_len.1 | exact vr_len.2.1 | exact vr_len.2.2)) (fun x hx => by rw [List.mem_singleton] at hx; subst hx; (first | exact vr_len.1 | exact vr_len.2.1 | exact vr_len.2.2)) (fun x hx => by rw [List.mem_singleton] at hx; subst hx; (first | exact vr_i64.1 | exact vr_i64.2.1 | exact vr_i64.2.2)) (fun x hx => by rw [List.mem_singleton] at hx; subst hx; (first | exact vr_i64.1 | exact vr_i64.2.1 | exact vr_i64.2.2)))
  simp only [List.length_cons, List.length_nil, Nat.zero_add, Nat.reduceAdd] at HM
  clear ho2 hb2 hal HA1 HA1b HA2 HB1
  go_wp2_with fail
  (with_reducible refine HM.out.mono ?_); rintro e w3 ⟨S, cs, rs, hrs, rfl, hS, hb3, _, _⟩
  have HS := Lib.hid hS
  have HRS : Hid (ptsOf rs = [(LX, 3)]) := Lib.hid (hrs.trans (congrArg Prod.fst runs_math))
  have HB3 := Lib.hid (HB2.out.trans (hb3.mono HB2.out.size))
  rw [show (mathR 3 (ptsOf [⟨.slice A1 2 c1, LXM, 1⟩]) (ptsOf [⟨.slice A2 2 c2, LXK, 2⟩])).2 = 0 from congrArg Prod.snd runs_math]
  clear hrs hS hb3 HM HB2
  go_wp2_with fail
  have hN := Blk.mk (heap_alloc_new w3 (.cells #[.string ⟨#[97]⟩] 9))
  have HN0 := Lib.hid (show Blk (w3.alloc (.cells #[.string ⟨#[97]⟩] 9)) w3.heap.size 9 [.string ⟨#[97]⟩] from hN)
  have hal := (Below.refl w3.heap.size w3).alloc (Nat.le_refl _) (.cells #[.string ⟨#[97]⟩] 9)
  have HS1 := Lib.hid (HS.out.below hal)
  have HB4 := Lib.hid (HB3.out.trans (hal.mono HB3.out.size))
  clear hN hal HS HB3
  obtain ⟨gn, hgn⟩ : ∃ b, w3.heap.size = b := ⟨_, rfl⟩
  rw [hgn] at HN0 ⊢
  clear hgn
  generalize w3.alloc (.cells #[.string ⟨#[97]⟩] 9) = V3 at *
  (with_reducible refine (HXM.out _).mono ?_); rintro e w4 ⟨A1, c1, rfl, ho1, hb1⟩
  have HO1 := Lib.hid ho1
  have HS2 := Lib.hid (HS1.out.below hb1)
  have HN1 := Lib.hid (HN0.out.below hb1 HN0.out.lt)
  have HB5 := Lib.hid (HB4.out.trans (hb1.mono HB4.out.size))
  clear ho1 hb1 HS1 HN0 HB4
  go_wp2_with fail
  (with_reducible refine (HXK.out _).mono ?_); rintro e w5 ⟨A2, c2, rfl, ho2, hb2⟩
  have HO2 := Lib.hid ho2
  have HO1b := Lib.hid (HO1.out.below hb2)
  have HS3 := Lib.hid (HS2.out.below hb2)
  have HN2 := Lib.hid (HN1.out.below hb2 HN1.out.lt)
  have HB6 := Lib.hid (HB5.out.trans (hb2.mono HB5.out.size))
  clear ho2 hb2 HS2 HN1 HB5 HO1
  go_wp2_with fail
  (with_reducible refine (HY5.out _).mono ?_); rintro e w6 ⟨A3, c3, rfl, ho3, hb3⟩
  have hal := (Below.refl w6.heap.size w6).alloc (Nat.le_refl _) (.cells #[.slice A1 2 c1, .int .i64 1, .slice A2 2 c2, .int .i64 2, .slice A3 1 c3, .int .i64 5] 28)
  have hb4 := hb3.trans (hal.mono hb3.size)
  have HG3 := Lib.hid (show PtsAt 0 (.slice (some ⟨w6.heap.size, 0, none⟩) 3 3) [⟨.slice A1 2 c1, LXM, 1⟩, ⟨.slice A2 2 c2, LXK, 2⟩, ⟨.slice A3 1 c3, LY, 5⟩] (w6.alloc (.cells #[.slice A1 2 c1, .int .i64 1, .slice A2 2 c2, .int .i64 2, .slice A3 1 c3, .int .i64 5] 28)) from
    pts_built (rows := [⟨.slice A1 2 c1, LXM, 1⟩, ⟨.slice A2 2 c2, LXK, 2⟩, ⟨.slice A3 1 c3, LY, 5⟩]) (Blk.mk (heap_alloc_new w6 _)) (fun x hx => by
      simp only [List.mem_cons, List.not_mem_nil, or_false] at hx
      rcases hx with rfl | rfl | rfl
      · exact HO1b.out.below hb4
      · exact HO2.out.below hb4
      · exact ho3.below hal) (by simp))
  have HS4 := Lib.hid (HS3.out.below hb4)
  have HN3 := Lib.hid ((HN2.out.below hb4 HN2.out.lt).sees (size := 1) (n := 1) (xs := strs [⟨#[97]⟩]) rfl (List.prefix_refl _))
  have HB7 := Lib.hid (HB6.out.trans (hb4.mono HB6.out.size))
  have HGC := Lib.hid (group_any 0 (some ⟨w6.heap.size, 0, none⟩) (some ⟨gn, 0, none⟩) 3 1 1 [⟨.slice A1 2 c1, LXM, 1⟩, ⟨.slice A2 2 c2, LXK, 2⟩, ⟨.slice A3 1 c3, LY, 5⟩] [⟨#[97]⟩] 17 _ HG3.out HN3.out (by omega) (by simp) (fun x hx => by
      simp only [List.mem_cons, List.not_mem_nil, or_false] at hx
      rcases hx with rfl | rfl | rfl <;> (first | exact vr_len.1 | exact vr_len.2.1 | exact vr_len.2.2)) (fun x hx => by
      simp only [List.mem_cons, List.not_mem_nil, or_false] at hx
      rcases hx with rfl | rfl | rfl <;> (first | exact vr_i64.1 | exact vr_i64.2.1 | exact vr_i64.2.2)))
  simp only [List.length_cons, List.length_nil, Nat.zero_add, Nat.reduceAdd] at HGC
  clear ho3 hb3 hal hb4 HS3 HN2 HB6 HO1b HO2 HG3 HN3
  go_wp2_with fail
  (with_reducible refine HGC.out.mono ?_); rintro e w7 ⟨G, cg, rg, hrg, rfl, hG, hb7, _, _⟩
  have HG := Lib.hid hG
  have HRG : Hid (ptsOf rg = [(LX, 3), (LY, 5)]) := Lib.hid (hrg.trans (congrArg Prod.fst runs_group))
  have HS5 := Lib.hid (HS4.out.below hb7)
  have HB8 := Lib.hid (HB7.out.trans (hb7.mono HB7.out.size))
  rw [show (groupR 17 [⟨#[97]⟩] (ptsOf [⟨.slice A1 2 c1, LXM, 1⟩, ⟨.slice A2 2 c2, LXK, 2⟩, ⟨.slice A3 1 c3, LY, 5⟩])).2 = 0 from congrArg Prod.snd runs_group]
  clear hrg hG hb7 HGC HS4 HB7
  go_wp2_with fail
  (with_reducible refine (HXM.out _).mono ?_); rintro e w8 ⟨A1, c1, rfl, ho1, hb1⟩
  have HO1 := Lib.hid ho1
  have HS6 := Lib.hid (HS5.out.below hb1)
  have HG2 := Lib.hid (HG.out.below hb1)
  have HB9 := Lib.hid (HB8.out.trans (hb1.mono HB8.out.size))
  clear ho1 hb1 HS5 HG HB8
  go_wp2_with fail
  (with_reducible refine (HXK.out _).mono ?_); rintro e w9 ⟨A2, c2, rfl, ho2, hb2⟩
  have hal := (Below.refl w9.heap.size w9).alloc (Nat.le_refl _) (.cells #[.slice A1 2 c1, .int .i64 1, .slice A2 2 c2, .int .i64 2] 28)
  have hb4 := hb2.trans (hal.mono hb2.size)
  have HT3 := Lib.hid (show PtsAt 0 (.slice (some ⟨w9.heap.size, 0, none⟩) 2 2) [⟨.slice A1 2 c1, LXM, 1⟩, ⟨.slice A2 2 c2, LXK, 2⟩] (w9.alloc (.cells #[.slice A1 2 c1, .int .i64 1, .slice A2 2 c2, .int .i64 2] 28)) from
    pts_built (rows := [⟨.slice A1 2 c1, LXM, 1⟩, ⟨.slice A2 2 c2, LXK, 2⟩]) (Blk.mk (heap_alloc_new w9 _)) (fun x hx => by
      simp only [List.mem_cons, List.not_mem_nil, or_false] at hx
      rcases hx with rfl | rfl
      · exact HO1.out.below hb4
      · exact ho2.below hal) (by simp))
  have HS7 := Lib.hid (HS6.out.below hb4)
  have HG4 := Lib.hid (HG2.out.below hb4)
  have HB10 := Lib.hid (HB9.out.trans (hb4.mono HB9.out.size))
  have HM2 := Lib.hid (math_any 0 0 (some ⟨w9.heap.size, 0, none⟩) none 2 0 [⟨.slice A1 2 c1, LXM, 1⟩, ⟨.slice A2 2 c2, LXK, 2⟩] [] 3 _ HT3.out (PtsAt.nil 0 _) (by simp) (by simp) (fun x hx => by
      simp only [List.mem_cons, List.not_mem_nil, or_false] at hx
      rcases hx with rfl | rfl <;> (first | exact vr_len.1 | exact vr_len.2.1 | exact vr_len.2.2)) (fun x hx => absurd hx List.not_mem_nil) (fun x hx => by
      simp only [List.mem_cons, List.not_mem_nil, or_false] at hx
      rcases hx with rfl | rfl <;> (first | exact vr_i64.1 | exact vr_i64.2.1 | exact vr_i64.2.2)) (fun x hx => absurd hx List.not_mem_nil))
  simp only [List.length_cons, List.length_nil, Nat.zero_add, Nat.reduceAdd] at HM2
  clear ho2 hb2 hal hb4 HS6 HG2 HB9 HO1 HT3
  go_wp2_with fail
  (with_reducible refine HM2.out.mono ?_); rintro e w10 ⟨Z, cz, rz, hrz, rfl, hZ, hb10, _, _⟩
  have HS8 := Lib.hid (HS7.out.below hb10)
  have HG5 := Lib.hid (HG4.out.below hb10)
  have HB11 := Lib.hid (HB10.out.trans (hb10.mono HB10.out.size))
  rw [show (mathR 3 (ptsOf [⟨.slice A1 2 c1, LXM, 1⟩, ⟨.slice A2 2 c2, LXK, 2⟩]) (ptsOf [])).2 = 5 from congrArg Prod.snd runs_twice]
  clear hrz hZ hb10 HM2 HS7 HG4 HB10
  go_wp2_with fail
  (with_reducible refine (HX3.out _).mono ?_); rintro e w11 ⟨A1, c1, rfl, ho1, hb1⟩
  have hal := (Below.refl w11.heap.size w11).alloc (Nat.le_refl _) (.cells #[.slice A1 1 c1, .int .i64 3] 28)
  have hb4 := hb1.trans (hal.mono hb1.size)
  have HS9 := Lib.hid (HS8.out.below hb4)
  have HG6 := Lib.hid (HG5.out.below hb4)
  have HB12 := Lib.hid (HB11.out.trans (hb4.mono HB11.out.size))
  have HP1 := Lib.hid (points_any _ 0 S (some ⟨w11.heap.size, 0, none⟩) cs 1 rs [⟨.slice A1 1 c1, LX, 3⟩] _ HS9.out (pts_built (rows := [⟨.slice A1 1 c1, LX, 3⟩]) (Blk.mk (heap_alloc_new w11 _)) (fun x hx => by rw [List.mem_singleton] at hx; subst hx; exact ho1.below hal) (by simp)))
  rw [HRS.out, show decide ([(LX, (3 : Int))] = ptsOf [⟨.slice A1 1 c1, LX, 3⟩]) = true from decide_eq_true rfl] at HP1
  simp only [List.length_cons, List.length_nil, Nat.zero_add, Nat.reduceAdd] at HP1
  clear ho1 hb1 hal hb4 HS8 HG5 HB11
  go_wp2_with fail
  (with_reducible refine HP1.out.mono ?_); rintro e w12 ⟨rfl, hb12⟩
  have HS10 := Lib.hid (HS9.out.below hb12)
  have HG7 := Lib.hid (HG6.out.below hb12)
  have HB13 := Lib.hid (HB12.out.trans (hb12.mono HB12.out.size))
  clear hb12 HP1 HS9 HG6 HB12
  go_wp2_with fail
  (with_reducible refine (HX3.out _).mono ?_); rintro e w13 ⟨A1, c1, rfl, ho1, hb1⟩
  have HO1 := Lib.hid ho1
  have HS11 := Lib.hid (HS10.out.below hb1)
  have HG8 := Lib.hid (HG7.out.below hb1)
  have HB14 := Lib.hid (HB13.out.trans (hb1.mono HB13.out.size))
  clear ho1 hb1 HS10 HG7 HB13
  go_wp2_with fail
  (with_reducible refine (HY5.out _).mono ?_); rintro e w14 ⟨A2, c2, rfl, ho2, hb2⟩
  have hal := (Below.refl w14.heap.size w14).alloc (Nat.le_refl _) (.cells #[.slice A1 1 c1, .int .i64 3, .slice A2 1 c2, .int .i64 5] 28)
  have hb4 := hb2.trans (hal.mono hb2.size)
  have HS12 := Lib.hid (HS11.out.below hb4)
  have HB15 := Lib.hid (HB14.out.trans (hb4.mono HB14.out.size))
  have HP2 := Lib.hid (points_any _ 0 G (some ⟨w14.heap.size, 0, none⟩) cg 2 rg [⟨.slice A1 1 c1, LX, 3⟩, ⟨.slice A2 1 c2, LY, 5⟩] _ (HG8.out.below hb4) (pts_built (rows := [⟨.slice A1 1 c1, LX, 3⟩, ⟨.slice A2 1 c2, LY, 5⟩]) (Blk.mk (heap_alloc_new w14 _)) (fun x hx => by
      simp only [List.mem_cons, List.not_mem_nil, or_false] at hx
      rcases hx with rfl | rfl
      · exact HO1.out.below hb4
      · exact ho2.below hal) (by simp)))
  rw [HRG.out, show decide ([(LX, (3 : Int)), (LY, 5)] = ptsOf [⟨.slice A1 1 c1, LX, 3⟩, ⟨.slice A2 1 c2, LY, 5⟩]) = true from decide_eq_true rfl] at HP2
  simp only [List.length_cons, List.length_nil, Nat.zero_add, Nat.reduceAdd] at HP2
  clear ho2 hb2 hal hb4 HS11 HG8 HB14 HO1
  go_wp2_with fail
  (with_reducible refine HP2.out.mono ?_); rintro e w15 ⟨rfl, hb15⟩
  have HS13 := Lib.hid (HS12.out.below hb15)
  have HB16 := Lib.hid (HB15.out.trans (hb15.mono HB15.out.size))
  have HSM := Lib.hid (sameV_any _ _ S S cs cs rs rs _ HS13.out HS13.out)
  rw [show decide (ptsOf rs = ptsOf rs) = true from decide_eq_true rfl] at HSM
  clear hb15 HP2 HS12 HB15
  go_wp2_with fail
  (with_reducible refine HSM.out.mono ?_); rintro e w16 ⟨rfl, hb16⟩
  have HB17 := Lib.hid (HB16.out.trans (hb16.mono HB16.out.size))
  clear hb16 HSM HB16
  go_wp2_with fail
  go_ret
  exact ⟨rfl, HB17.out⟩
end Go.Proofs.Ytbndmmfpoljeaaa
