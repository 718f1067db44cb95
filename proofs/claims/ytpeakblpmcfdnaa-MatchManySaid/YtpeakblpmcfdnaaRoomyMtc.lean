/- klaxonbook at matchers: Roomy, Intact. -/
import Derived.Test.YtpeakblpmcfdnaaCopyN
import Derived.Test.YtpeakblpmcfdnaaSameMtc
import Derived.Test.YtpeakblpmcfdnaaMatchExact
import Derived.Laws.CopyOwn
import Derived.Deep.QuietTactic
import Derived.BigQuiet
import Derived.Deep.LoopGhost
namespace Go.Proofs.Ytpeakblpmcfdnaa
open Go.ChangeShapes Go.WideShapes Go.ChangeAt Go.RowKit
set_option linter.unusedVariables false
set_option maxRecDepth 100000
theorem mtcs_rep (m : Nat) : (madeCells #[Value.string ⟨#[]⟩, Value.string ⟨#[]⟩, Value.int .i64 0] (m * 3)).toList = mtcs (List.replicate m ((⟨#[]⟩ : ByteArray), (⟨#[]⟩ : ByteArray), (0 : Int))) := by
  apply List.ext_getElem?
  intro j
  by_cases hj : j < m * 3
  · have h1 : j < (madeCells #[Value.string ⟨#[]⟩, Value.string ⟨#[]⟩, Value.int .i64 0] (m * 3)).size := by rw [size_madeCells]; exact hj
    rw [Array.getElem?_toList, Array.getElem?_eq_getElem h1]
    simp only [madeCells, Array.getElem_map, Array.getElem_range]
    obtain ⟨g0, g1, g2⟩ := mtcs_get (List.replicate m ((⟨#[]⟩ : ByteArray), (⟨#[]⟩ : ByteArray), (0 : Int))) (j / 3) (by rw [List.length_replicate]; omega)
    rw [List.getElem_replicate] at g0 g1 g2
    have h3 : j % 3 = 0 ∨ j % 3 = 1 ∨ j % 3 = 2 := by omega
    rcases h3 with h | h | h
    · rw [show j / 3 * 3 = j by omega] at g0; rw [g0]; simp [h]
    · rw [show j / 3 * 3 + 1 = j by omega] at g1; rw [g1]; simp [h]
    · rw [show j / 3 * 3 + 2 = j by omega] at g2; rw [g2]; simp [h]
  · rw [List.getElem?_eq_none (by simp [size_madeCells]; omega), List.getElem?_eq_none (by rw [mtcs_length, List.length_replicate]; omega)]
/-- A list with 80 more places behind it, j of them marked. -/
def filledM (zs : List Mtc) (mark : Mtc) (j : Nat) : List Value := mtcs (zs ++ List.replicate j mark) ++ mtcs (List.replicate (80 - j) ((⟨#[]⟩ : ByteArray), (⟨#[]⟩ : ByteArray), (0 : Int)))
theorem filledM_len (zs : List Mtc) (mark : Mtc) (j : Nat) (hj : j ≤ 80) : (filledM zs mark j).length = (zs.length + 80) * 3 := by
  unfold filledM; rw [List.length_append, mtcs_length, mtcs_length, List.length_append, List.length_replicate, List.length_replicate]; omega
theorem filledM_end (zs : List Mtc) (mark : Mtc) : filledM zs mark 80 = mtcs (zs ++ List.replicate 80 mark) := by unfold filledM; simp [mtcs]
theorem filledM_step (zs : List Mtc) (mark : Mtc) (n j : Nat) (h : zs.length = n) (hj : j < 80) :
    (filledM zs mark j)[(n + j) * 3]? = some (.string ⟨#[]⟩) ∧ (filledM zs mark j)[(n + j) * 3 + 1]? = some (.string ⟨#[]⟩) ∧ (filledM zs mark j)[(n + j) * 3 + 2]? = some (.int .i64 0) ∧ (((filledM zs mark j).set ((n + j) * 3) (.string mark.1)).set ((n + j) * 3 + 1) (.string mark.2.1)).set ((n + j) * 3 + 2) (.int .i64 mark.2.2) = filledM zs mark (j + 1) := by
  subst h
  unfold filledM
  have hl : (mtcs (zs ++ List.replicate j mark)).length = (zs.length + j) * 3 := by rw [mtcs_length, List.length_append, List.length_replicate]
  have e : mtcs (List.replicate (80 - j) ((⟨#[]⟩ : ByteArray), (⟨#[]⟩ : ByteArray), (0 : Int))) = .string ⟨#[]⟩ :: .string ⟨#[]⟩ :: .int .i64 0 :: mtcs (List.replicate (80 - (j + 1)) ((⟨#[]⟩ : ByteArray), (⟨#[]⟩ : ByteArray), (0 : Int))) := by
    rw [show 80 - j = (80 - (j + 1)) + 1 by omega, List.replicate_succ]; simp [mtcs]
  rw [e]
  refine ⟨?_, ?_, ?_, ?_⟩
  · rw [List.getElem?_append_right (by omega), hl, Nat.sub_self]; rfl
  · rw [List.getElem?_append_right (by omega), hl, show (zs.length + j) * 3 + 1 - (zs.length + j) * 3 = 1 by omega]; rfl
  · rw [List.getElem?_append_right (by omega), hl, show (zs.length + j) * 3 + 2 - (zs.length + j) * 3 = 2 by omega]; rfl
  · rw [List.set_append_right _ _ (by omega), hl, Nat.sub_self, List.set_cons_zero, List.set_append_right _ _ (by omega), hl, show (zs.length + j) * 3 + 1 - (zs.length + j) * 3 = 1 by omega, List.set_cons_succ, List.set_cons_zero, List.set_append_right _ _ (by omega), hl, show (zs.length + j) * 3 + 2 - (zs.length + j) * 3 = 2 by omega, List.set_cons_succ, List.set_cons_succ, List.set_cons_zero]
    rw [List.replicate_succ', ← List.append_assoc, mtcs_append (zs ++ List.replicate j mark), List.append_assoc]
    simp [mtcs]
set_option maxHeartbeats 2000000 in
theorem roomy_mtc (A : Option Addr) (n c B : Nat) (zs : List Mtc) (m1 m2 : ByteArray) (m3 : Int) (w : World) (h : Sees w B 3 A n (mtcs zs)) (hB : B ≤ w.heap.size) (hn : n ≤ 100000) :
    Calls Try.prog 11 #[.slice A n c, .agg #[.string m1, .string m2, .int .i64 m3]] w fun e w' => ∃ g, e = .returned (.slice (some ⟨g, 0, none⟩) (n + 80) (n + 80)) ∧ w.heap.size ≤ g ∧ Blk w' g 23 (mtcs (zs ++ List.replicate 80 (m1, m2, m3))) ∧ Below w.heap.size w w' := by
  have H := Lib.hid h; clear h
  have HL := Lib.hid H.out.mtc_len
  obtain ⟨i0, hi, hz0, hz1, hz2⟩ := info_parts Try.infoMatcher
  have hbm : Blk (w.alloc (.cells #[.string m1, .string m2, .int .i64 m3] 23)) w.heap.size 23 [.string m1, .string m2, .int .i64 m3] := Blk.mk (heap_alloc_new w _)
  have HBM := Lib.hid hbm
  have HB0 := Lib.hid ((Below.refl w.heap.size w).alloc (Nat.le_refl _) (.cells #[.string m1, .string m2, .int .i64 m3] 23))
  have hsz0 : (w.alloc (.cells #[.string m1, .string m2, .int .i64 m3] 23)).heap.size = w.heap.size + 1 := by simp
  have HSZ0 := Lib.hid hsz0
  clear hbm hsz0
  go_enter Try.func11, Try.ntmps11
  go_wp2_with (at_make; refine wpList_make_full _ rfl _ _ 24 rfl (w.alloc (.cells #[.string m1, .string m2, .int .i64 m3] 23)).heap.size 23 i0 (.agg #[.string ⟨#[]⟩, .string ⟨#[]⟩, .int .i64 0]) 3 Try.underlying24 hi hz0 hz1 _ _ _ _ (n + 80) rfl rfl ?l1 ?l2 ?b2 ?b3 (Nat.le_refl _) ?_)
  case l1 => simp
  case l2 => simp
  case b2 => rw [hz2]; omega
  case b3 => unfold maxLen; omega
  intro w1 hown hg
  have HK1 : Hid (Blk w1 (w.heap.size + 1) 23 (mtcs (List.replicate (n + 80) ((⟨#[]⟩ : ByteArray), (⟨#[]⟩ : ByteArray), (0 : Int))))) := Lib.hid (by
    have := Blk.of_own hown
    rw [mtcs_rep] at this
    exact this)
  have HB1 := Lib.hid (HB0.out.grown hg (by simp) (by simp))
  have HM1 := Lib.hid (HBM.out.grown hg (by simp))
  have HS1 := Lib.hid (H.out.below (HB1.out.mono hB))
  obtain ⟨gb, hgb⟩ : ∃ gb, w.heap.size + 1 = gb := ⟨_, rfl⟩
  have HGB := Lib.hid hgb
  rw [hgb] at HK1
  clear hown hg HB0 HBM HSZ0 H
  rw [hgb]
  have HL1 := Lib.hid (show (mtcs zs).length ≤ (mtcs (List.replicate (n + 80) ((⟨#[]⟩ : ByteArray), (⟨#[]⟩ : ByteArray), (0 : Int)))).length by rw [mtcs_length, mtcs_length, List.length_replicate, HL.out]; omega)
  go_wp2_with (with_reducible refine wpList_copy_n rfl (.tmp 11) (.tmp 12) 24 24 rfl 23 3 Try.underlying24 ?s1 gb (n + 80) (n + 80) A n c rfl rfl (by omega) _ 23 HK1.out (mtcs zs) _ HS1.out HL1.out (mtcs_one _) ?_)
  case s1 => rw [hi]; simp [hz1]
  intro w2 hb2 hoth hsz2 hos htape hout
  have hg1 := HGB.out
  have HK2 : Hid (Blk w2 gb 23 (filledM zs (m1, m2, m3) 0)) := Lib.hid (by
    have e : mtcs zs ++ (mtcs (List.replicate (n + 80) ((⟨#[]⟩ : ByteArray), (⟨#[]⟩ : ByteArray), (0 : Int)))).drop (mtcs zs).length = filledM zs (m1, m2, m3) 0 := by
      unfold filledM
      rw [mtcs_length, HL.out, mtcs_drop, List.drop_replicate, List.replicate_zero, List.append_nil, show n + 80 - n = 80 - 0 by omega]
    rw [← e]; exact hb2)
  have HM2 : Hid (Blk w2 w.heap.size 23 [.string m1, .string m2, .int .i64 m3]) := Lib.hid ((hoth w.heap.size (by omega)).trans HM1.out)
  have HB2 : Hid (Below w.heap.size w w2) := Lib.hid (HB1.out.trans ⟨hos, htape, hout, by omega, fun k hk => hoth k (by omega)⟩)
  clear hb2 hoth hsz2 hos htape hout HK1 HB1 HM1 HS1 HL1 hgb hg1
  go_wp2_with fail
  go_loopg [6] 80 (fun g i wr => ∃ j : Nat, j + g = 80 ∧ i = .int .i64 (n + j : Nat) ∧ Blk wr gb 23 (filledM zs (m1, m2, m3) j) ∧ Blk wr w.heap.size 23 [.string m1, .string m2, .int .i64 m3] ∧ Below w.heap.size w wr)
  case atStart => exact ⟨0, by omega, by go_num, HK2.out, HM2.out, HB2.out⟩
  case round =>
    obtain ⟨j, hjg, rfl, hk, hm, hbel⟩ := hrel
    have HK := Lib.hid hk; have HM := Lib.hid hm; have HB := Lib.hid hbel
    clear hk hm hbel
    cases gk with
    | zero =>
      obtain rfl : j = 80 := by omega
      have HE := Lib.hid (show Blk wr gb 23 (mtcs (zs ++ List.replicate 80 (m1, m2, m3))) by rw [← filledM_end]; exact HK.out)
      have hno : ¬ ((n : Int) + 80 < (n : Int) + 80) := by omega
      go_wp2_with fail
      go_ret
      exact ⟨gb, rfl, by have := HGB.out; omega, HE.out, HB.out⟩
    | succ g =>
      obtain ⟨q, hq⟩ : ∃ q, n + j = q := ⟨_, rfl⟩
      rw [hq]
      have hlt : (q : Int) < (n : Int) + 80 := by omega
      have hltn : q < n + 80 := by omega
      obtain ⟨f0, f1, fx, f2⟩ := filledM_step zs (m1, m2, m3) n j HL.out (by omega)
      rw [hq] at f0 f1 fx f2
      have HF2 := Lib.hid f2
      have c0 : wr.cell? ⟨gb, q * 3, none⟩ = some (.string ⟨#[]⟩) := by rw [HK.out.cell]; exact f0
      have c1 : wr.cell? ⟨gb, q * 3 + 1, none⟩ = some (.string ⟨#[]⟩) := by rw [HK.out.cell]; exact f1
      have c2 : wr.cell? ⟨gb, q * 3 + 2, none⟩ = some (.int .i64 0) := by rw [HK.out.cell]; exact fx
      have e0 : wr.cell? ⟨w.heap.size, 0, none⟩ = some (.string m1) := HM.out.cell 0
      have e1 : wr.cell? ⟨w.heap.size, 1, none⟩ = some (.string m2) := HM.out.cell 1
      have e2 : wr.cell? ⟨w.heap.size, 2, none⟩ = some (.int .i64 m3) := HM.out.cell 2
      have hfz := fun o => HK.out.frozen o
      have hne : gb ≠ w.heap.size := by have := HGB.out; omega
      have HSET := Lib.hid (((HK.out.set (q * 3) (.string m1)).set (q * 3 + 1) (.string m2)).set (q * 3 + 2) (.int .i64 m3))
      have HMS := Lib.hid (show Blk (((wr.setCell ⟨gb, q * 3, none⟩ (.string m1)).setCell ⟨gb, q * 3 + 1, none⟩ (.string m2)).setCell ⟨gb, q * 3 + 2, none⟩ (.int .i64 m3)) w.heap.size 23 [.string m1, .string m2, .int .i64 m3] from ((HM.out.far (fun e => hne e.symm) _).far (fun e => hne e.symm) _).far (fun e => hne e.symm) _)
      have HBS := Lib.hid (((HB.out.setCell (p := ⟨gb, q * 3, none⟩) (show w.heap.size ≤ gb by have := HGB.out; omega) (.string m1)).setCell (p := ⟨gb, q * 3 + 1, none⟩) (show w.heap.size ≤ gb by have := HGB.out; omega) (.string m2)).setCell (p := ⟨gb, q * 3 + 2, none⟩) (show w.heap.size ≤ gb by have := HGB.out; omega) (.int .i64 m3))
      clear f0 f1 fx f2
      have HQ := Lib.hid hq; clear hq
      go_wp2_with fail
      go_roundg g
      case measure => omega
      case rel => exact ⟨j + 1, by omega, by have := HQ.out; go_num, by have h9 := HSET.out; rw [HF2.out] at h9; exact h9, HMS.out, HBS.out⟩
set_option maxHeartbeats 2000000 in
theorem intact_mtc (A A2 : Option Addr) (n2 c c2 : Nat) (ys : List Mtc) (m1 m2 : ByteArray) (m3 : Int) (w : World) (h : Sees w w.heap.size 3 A (n2 + 80) (mtcs (ys ++ List.replicate 80 (m1, m2, m3)))) (h2 : Sees w w.heap.size 3 A2 n2 (mtcs ys)) (hc : n2 + 80 ≤ c) (hn : n2 ≤ 100000) :
    Calls Try.prog 15 #[.slice A (n2 + 80) c, .slice A2 n2 c2, .agg #[.string m1, .string m2, .int .i64 m3]] w fun e w' => e = .returned (.bool true) ∧ Below w.heap.size w w' := by
  have hl := h2.mtc_len
  have HZ : Hid (∀ j (hj : n2 + j < (ys ++ List.replicate 80 (m1, m2, m3)).length), (ys ++ List.replicate 80 (m1, m2, m3))[n2 + j] = (m1, m2, m3)) := Lib.hid fun j hj => by
    rw [List.getElem_append_right (by omega), List.getElem_replicate]
  have HT := Lib.hid (show (ys ++ List.replicate 80 (m1, m2, m3)).take n2 = ys by rw [List.take_append_of_le_length (by omega), List.take_of_length_le (by omega)])
  have ht := (h.take (show n2 ≤ n2 + 80 by omega)).alloc (Nat.le_refl _) (.cells #[.string m1, .string m2, .int .i64 m3] 23)
  have e0 : (mtcs (ys ++ List.replicate 80 (m1, m2, m3))).take (n2 * 3) = mtcs ys := by
    rw [mtcs_append, List.take_append_of_le_length (by rw [mtcs_length]; omega), List.take_of_length_le (by rw [mtcs_length]; omega)]
  rw [e0] at ht
  have HTK := Lib.hid ht
  have H2 := Lib.hid (h2.alloc (Nat.le_refl _) (.cells #[.string m1, .string m2, .int .i64 m3] 23))
  have H1 := Lib.hid (h.alloc (Nat.le_refl _) (.cells #[.string m1, .string m2, .int .i64 m3] 23))
  have HM := Lib.hid (show Blk (w.alloc (.cells #[.string m1, .string m2, .int .i64 m3] 23)) w.heap.size 23 [.string m1, .string m2, .int .i64 m3] from Blk.mk (heap_alloc_new w _))
  have HB := Lib.hid ((Below.refl w.heap.size w).alloc (Nat.le_refl _) (.cells #[.string m1, .string m2, .int .i64 m3] 23))
  have hb1 : (((n2 : Int) + 80) != ((n2 : Int) + 80)) = false := by simp
  have hq0 : (0 : Int) ≤ n2 := by omega
  have hq1 : (n2 : Int) ≤ c := by omega
  have he1 : (m1.toList == m1.toList) = true := by simp
  have he2 : (m2.toList == m2.toList) = true := by simp
  have he3 : (m3 == m3) = true := by simp
  clear h h2 ht e0 hl
  generalize hzs : ys ++ List.replicate 80 (m1, m2, m3) = zs at *
  clear hzs
  go_enter Try.func15, Try.ntmps15
  go_wp2_with fail
  refine (same_mtc A A2 n2 c n2 c2 _ _ ys ys _ HTK.out H2.out (by omega) (by omega)).mono ?_; rintro e w1 ⟨rfl, m, hw1⟩
  rw [decide_eq_true (rfl : ys = ys)]
  have H1' := Lib.hid (show Sees w1 w.heap.size 3 A (n2 + 80) (mtcs zs) by rw [hw1]; exact H1.out.drewN m)
  have HM' := Lib.hid (show Blk w1 w.heap.size 23 [.string m1, .string m2, .int .i64 m3] by rw [hw1]; exact HM.out.drewN m)
  have HB' := Lib.hid (show Below w.heap.size w w1 by rw [hw1]; exact below_drewN3 HB.out m)
  clear hw1 H1 H2 HTK HM HB
  go_wp2_with fail
  go_loopg [7] 80 (fun g i wr => ∃ j q : Nat, j + g = 80 ∧ i = .int .i64 (n2 + j : Nat) ∧ wr = w1.drewN q)
  case atStart => exact ⟨0, 0, by omega, by go_num, rfl⟩
  case round =>
    obtain ⟨j, q, hjg, rfl, rfl⟩ := hrel
    cases gk with
    | zero =>
      obtain rfl : j = 80 := by omega
      have hno : ¬ ((n2 : Int) + 80 < (n2 : Int) + 80) := by omega
      have HE := Lib.hid (below_drewN3 HB'.out q)
      go_wp2_with fail
      go_ret
      exact ⟨rfl, HE.out⟩
    | succ g =>
      obtain ⟨p, hp⟩ : ∃ p, n2 + j = p := ⟨_, rfl⟩
      have hp80 : p < n2 + 80 := by omega
      have hlt : (p : Int) < (n2 : Int) + 80 := by omega
      obtain ⟨ad, hpl, rfl, c0, c1, c2⟩ := (H1'.out.drewN q).mtc hp80
      have hz : zs[p] = (m1, m2, m3) := by subst hp; exact HZ.out j hpl
      rw [hz] at c0 c1 c2
      have d0 : (w1.drewN q).cell? ⟨w.heap.size, 0, none⟩ = some (.string m1) := HM'.out.cell 0
      have d1 : (w1.drewN q).cell? ⟨w.heap.size, 1, none⟩ = some (.string m2) := HM'.out.cell 1
      have d2 : (w1.drewN q).cell? ⟨w.heap.size, 2, none⟩ = some (.int .i64 m3) := HM'.out.cell 2
      rw [hp]
      have HP := Lib.hid hp; clear hp hz
      generalize hwq : w1.drewN q = wq at *
      have HWQ := Lib.hid hwq; clear hwq
      go_wp2_with fail
      go_quiet (fail)
      go_wp2_with fail
      go_roundg g
      case measure => omega
      case rel => exact ⟨j + 1, _, by omega, by have := HP.out; go_num, by rw [← HWQ.out]; exact World.drewN_drewN _ _ _⟩
end Go.Proofs.Ytpeakblpmcfdnaa
