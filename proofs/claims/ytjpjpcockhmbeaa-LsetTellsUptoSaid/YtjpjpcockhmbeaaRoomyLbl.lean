/- klaxonbook at labels: Roomy, Intact. -/
import Derived.Test.YtjpjpcockhmbeaaCopyN
import Derived.Test.YtjpjpcockhmbeaaSameLbl
import Derived.Test.YtjpjpcockhmbeaaParse3
import Derived.Laws.CopyOwn
import Derived.Deep.QuietTactic
import Derived.BigQuiet
import Derived.Deep.LoopGhost
namespace Go.Proofs.Ytjpjpcockhmbeaa
open Go.ChangeShapes Go.WideShapes Go.ChangeAt Go.RowKit
set_option linter.unusedVariables false
set_option maxRecDepth 100000
theorem lbls_same (m : Nat) : lbls (List.replicate m ((⟨#[]⟩ : ByteArray), (⟨#[]⟩ : ByteArray))) = List.replicate (m * 2) (Value.string ⟨#[]⟩) := by
  induction m with
  | zero => rfl
  | succ m ih =>
    rw [List.replicate_succ, show (m + 1) * 2 = m * 2 + 1 + 1 by omega, List.replicate_succ, List.replicate_succ, ← ih]
    simp [lbls]
theorem made_lbls (m : Nat) : (madeCells #[Value.string ⟨#[]⟩, Value.string ⟨#[]⟩] (m * 2)).toList = lbls (List.replicate m ((⟨#[]⟩ : ByteArray), (⟨#[]⟩ : ByteArray))) := by
  rw [lbls_same]
  apply List.ext_getElem?
  intro j
  by_cases hj : j < m * 2
  · rw [List.getElem?_replicate, if_pos hj, Array.getElem?_toList]
    have h1 : j < (madeCells #[Value.string ⟨#[]⟩, Value.string ⟨#[]⟩] (m * 2)).size := by rw [size_madeCells]; exact hj
    rw [Array.getElem?_eq_getElem h1]
    simp only [madeCells, Array.getElem_map, Array.getElem_range]
    rcases Nat.mod_two_eq_zero_or_one j with h | h <;> simp [h]
  · rw [List.getElem?_eq_none (by simp [size_madeCells]; omega), List.getElem?_eq_none (by simp; omega)]
/-- A list with 80 more places behind it, j of them marked. -/
def filledLb (zs : List (ByteArray × ByteArray)) (mark : ByteArray × ByteArray) (j : Nat) : List Value := lbls (zs ++ List.replicate j mark) ++ lbls (List.replicate (80 - j) ((⟨#[]⟩ : ByteArray), (⟨#[]⟩ : ByteArray)))
theorem filledLb_len (zs : List (ByteArray × ByteArray)) (mark : ByteArray × ByteArray) (j : Nat) (hj : j ≤ 80) : (filledLb zs mark j).length = (zs.length + 80) * 2 := by
  unfold filledLb; rw [List.length_append, lbls_length, lbls_length, List.length_append, List.length_replicate, List.length_replicate]; omega
theorem filledLb_end (zs : List (ByteArray × ByteArray)) (mark : ByteArray × ByteArray) : filledLb zs mark 80 = lbls (zs ++ List.replicate 80 mark) := by unfold filledLb; simp [lbls]
theorem filledLb_step (zs : List (ByteArray × ByteArray)) (mark : ByteArray × ByteArray) (n j : Nat) (h : zs.length = n) (hj : j < 80) :
    (filledLb zs mark j)[(n + j) * 2]? = some (.string ⟨#[]⟩) ∧ (filledLb zs mark j)[(n + j) * 2 + 1]? = some (.string ⟨#[]⟩) ∧ ((filledLb zs mark j).set ((n + j) * 2) (.string mark.1)).set ((n + j) * 2 + 1) (.string mark.2) = filledLb zs mark (j + 1) := by
  subst h
  unfold filledLb
  have hl : (lbls (zs ++ List.replicate j mark)).length = (zs.length + j) * 2 := by rw [lbls_length, List.length_append, List.length_replicate]
  have e : lbls (List.replicate (80 - j) ((⟨#[]⟩ : ByteArray), (⟨#[]⟩ : ByteArray))) = .string ⟨#[]⟩ :: .string ⟨#[]⟩ :: lbls (List.replicate (80 - (j + 1)) ((⟨#[]⟩ : ByteArray), (⟨#[]⟩ : ByteArray))) := by
    rw [show 80 - j = (80 - (j + 1)) + 1 by omega, List.replicate_succ]; simp [lbls]
  rw [e]
  refine ⟨?_, ?_, ?_⟩
  · rw [List.getElem?_append_right (by omega), hl, Nat.sub_self]; rfl
  · rw [List.getElem?_append_right (by omega), hl, show (zs.length + j) * 2 + 1 - (zs.length + j) * 2 = 1 by omega]; rfl
  · rw [List.set_append_right _ _ (by omega), hl, Nat.sub_self, List.set_cons_zero, List.set_append_right _ _ (by omega), hl, show (zs.length + j) * 2 + 1 - (zs.length + j) * 2 = 1 by omega, List.set_cons_succ, List.set_cons_zero]
    rw [List.replicate_succ', ← List.append_assoc, lbls_append (zs ++ List.replicate j mark), List.append_assoc]
    simp [lbls]
set_option maxHeartbeats 2000000 in
theorem roomy_lbl (A : Option Addr) (n c B : Nat) (zs : List (ByteArray × ByteArray)) (m1 m2 : ByteArray) (w : World) (h : Sees w B 2 A n (lbls zs)) (hB : B ≤ w.heap.size) (hn : n ≤ 100000) :
    Calls Try.prog 4 #[.slice A n c, .agg #[.string m1, .string m2]] w fun e w' => ∃ g, e = .returned (.slice (some ⟨g, 0, none⟩) (n + 80) (n + 80)) ∧ w.heap.size ≤ g ∧ Blk w' g 25 (lbls (zs ++ List.replicate 80 (m1, m2))) ∧ Below w.heap.size w w' := by
  have H := Lib.hid h; clear h
  have HL := Lib.hid H.out.lbl_len
  obtain ⟨i0, hi, hz0, hz1, hz2⟩ := info_parts Try.infoLabel
  have hbm : Blk (w.alloc (.cells #[.string m1, .string m2] 25)) w.heap.size 25 [.string m1, .string m2] := Blk.mk (heap_alloc_new w _)
  have HBM := Lib.hid hbm
  have HB0 := Lib.hid ((Below.refl w.heap.size w).alloc (Nat.le_refl _) (.cells #[.string m1, .string m2] 25))
  have hsz0 : (w.alloc (.cells #[.string m1, .string m2] 25)).heap.size = w.heap.size + 1 := by simp
  have HSZ0 := Lib.hid hsz0
  clear hbm hsz0
  go_enter Try.func4, Try.ntmps4
  go_wp2_with (at_make; refine wpList_make_full _ rfl _ _ 22 rfl (w.alloc (.cells #[.string m1, .string m2] 25)).heap.size 25 i0 (.agg #[.string ⟨#[]⟩, .string ⟨#[]⟩]) 2 Try.underlying22 hi hz0 hz1 _ _ _ _ (n + 80) rfl rfl ?l1 ?l2 ?b2 ?b3 (Nat.le_refl _) ?_)
  case l1 => simp
  case l2 => simp
  case b2 => rw [hz2]; omega
  case b3 => unfold maxLen; omega
  intro w1 hown hg
  have HK1 : Hid (Blk w1 (w.heap.size + 1) 25 (lbls (List.replicate (n + 80) ((⟨#[]⟩ : ByteArray), (⟨#[]⟩ : ByteArray))))) := Lib.hid (by
    have := Blk.of_own hown
    rw [made_lbls] at this
    exact this)
  have HB1 := Lib.hid (HB0.out.grown hg (by simp) (by simp))
  have HM1 := Lib.hid (HBM.out.grown hg (by simp))
  have HS1 := Lib.hid (H.out.below (HB1.out.mono hB))
  obtain ⟨gb, hgb⟩ : ∃ gb, w.heap.size + 1 = gb := ⟨_, rfl⟩
  have HGB := Lib.hid hgb
  rw [hgb] at HK1
  clear hown hg HB0 HBM HSZ0 H
  rw [hgb]
  have HL1 := Lib.hid (show (lbls zs).length ≤ (lbls (List.replicate (n + 80) ((⟨#[]⟩ : ByteArray), (⟨#[]⟩ : ByteArray)))).length by rw [lbls_length, lbls_length, List.length_replicate, HL.out]; omega)
  go_wp2_with (with_reducible refine wpList_copy_n rfl (.tmp 11) (.tmp 12) 22 22 rfl 25 2 Try.underlying22 ?s1 gb (n + 80) (n + 80) A n c rfl rfl (by omega) _ 25 HK1.out (lbls zs) _ HS1.out HL1.out (lbls_one _) ?_)
  case s1 => rw [hi]; simp [hz1]
  intro w2 hb2 hoth hsz2 hos htape hout
  have hg1 := HGB.out
  have HK2 : Hid (Blk w2 gb 25 (filledLb zs (m1, m2) 0)) := Lib.hid (by
    have e : lbls zs ++ (lbls (List.replicate (n + 80) ((⟨#[]⟩ : ByteArray), (⟨#[]⟩ : ByteArray)))).drop (lbls zs).length = filledLb zs (m1, m2) 0 := by
      unfold filledLb
      rw [lbls_same, lbls_same, List.drop_replicate, lbls_length, HL.out, List.replicate_zero, List.append_nil, show (n + 80) * 2 - n * 2 = (80 - 0) * 2 by omega]
    rw [← e]; exact hb2)
  have HM2 : Hid (Blk w2 w.heap.size 25 [.string m1, .string m2]) := Lib.hid ((hoth w.heap.size (by omega)).trans HM1.out)
  have HB2 : Hid (Below w.heap.size w w2) := Lib.hid (HB1.out.trans ⟨hos, htape, hout, by omega, fun k hk => hoth k (by omega)⟩)
  clear hb2 hoth hsz2 hos htape hout HK1 HB1 HM1 HS1 HL1 hgb hg1
  go_wp2_with fail
  go_loopg [6] 80 (fun g i wr => ∃ j : Nat, j + g = 80 ∧ i = .int .i64 (n + j : Nat) ∧ Blk wr gb 25 (filledLb zs (m1, m2) j) ∧ Blk wr w.heap.size 25 [.string m1, .string m2] ∧ Below w.heap.size w wr)
  case atStart => exact ⟨0, by omega, by go_num, HK2.out, HM2.out, HB2.out⟩
  case round =>
    obtain ⟨j, hjg, rfl, hk, hm, hbel⟩ := hrel
    have HK := Lib.hid hk; have HM := Lib.hid hm; have HB := Lib.hid hbel
    clear hk hm hbel
    cases gk with
    | zero =>
      obtain rfl : j = 80 := by omega
      have HE := Lib.hid (show Blk wr gb 25 (lbls (zs ++ List.replicate 80 (m1, m2))) by rw [← filledLb_end]; exact HK.out)
      have hno : ¬ ((n : Int) + 80 < (n : Int) + 80) := by omega
      go_wp2_with fail
      go_ret
      exact ⟨gb, rfl, by have := HGB.out; omega, HE.out, HB.out⟩
    | succ g =>
      obtain ⟨q, hq⟩ : ∃ q, n + j = q := ⟨_, rfl⟩
      rw [hq]
      have hlt : (q : Int) < (n : Int) + 80 := by omega
      have hltn : q < n + 80 := by omega
      obtain ⟨f0, f1, f2⟩ := filledLb_step zs (m1, m2) n j HL.out (by omega)
      rw [hq] at f0 f1 f2
      have HF2 := Lib.hid f2
      have c0 : wr.cell? ⟨gb, q * 2, none⟩ = some (.string ⟨#[]⟩) := by rw [HK.out.cell]; exact f0
      have c1 : wr.cell? ⟨gb, q * 2 + 1, none⟩ = some (.string ⟨#[]⟩) := by rw [HK.out.cell]; exact f1
      have e0 : wr.cell? ⟨w.heap.size, 0, none⟩ = some (.string m1) := HM.out.cell 0
      have e1 : wr.cell? ⟨w.heap.size, 1, none⟩ = some (.string m2) := HM.out.cell 1
      have hfz := fun o => HK.out.frozen o
      have hne : gb ≠ w.heap.size := by have := HGB.out; omega
      have HSET := Lib.hid ((HK.out.set (q * 2) (.string m1)).set (q * 2 + 1) (.string m2))
      have HMS := Lib.hid (show Blk ((wr.setCell ⟨gb, q * 2, none⟩ (.string m1)).setCell ⟨gb, q * 2 + 1, none⟩ (.string m2)) w.heap.size 25 [.string m1, .string m2] from (HM.out.far (fun e => hne e.symm) _).far (fun e => hne e.symm) _)
      have HBS := Lib.hid ((HB.out.setCell (p := ⟨gb, q * 2, none⟩) (show w.heap.size ≤ gb by have := HGB.out; omega) (.string m1)).setCell (p := ⟨gb, q * 2 + 1, none⟩) (show w.heap.size ≤ gb by have := HGB.out; omega) (.string m2))
      clear f0 f1 f2
      have HQ := Lib.hid hq; clear hq
      go_wp2_with fail
      go_roundg g
      case measure => omega
      case rel => exact ⟨j + 1, by omega, by have := HQ.out; go_num, by have h9 := HSET.out; rw [HF2.out] at h9; exact h9, HMS.out, HBS.out⟩
set_option maxHeartbeats 2000000 in
theorem intact_lbl (A A2 : Option Addr) (n2 c c2 : Nat) (ys : List (ByteArray × ByteArray)) (m1 m2 : ByteArray) (w : World) (h : Sees w w.heap.size 2 A (n2 + 80) (lbls (ys ++ List.replicate 80 (m1, m2)))) (h2 : Sees w w.heap.size 2 A2 n2 (lbls ys)) (hc : n2 + 80 ≤ c) (hn : n2 ≤ 100000) :
    Calls Try.prog 17 #[.slice A (n2 + 80) c, .slice A2 n2 c2, .agg #[.string m1, .string m2]] w fun e w' => e = .returned (.bool true) ∧ Below w.heap.size w w' := by
  have hl := h2.lbl_len
  have HZ : Hid (∀ j (hj : n2 + j < (ys ++ List.replicate 80 (m1, m2)).length), (ys ++ List.replicate 80 (m1, m2))[n2 + j] = (m1, m2)) := Lib.hid fun j hj => by
    rw [List.getElem_append_right (by omega), List.getElem_replicate]
  have HT := Lib.hid (show (ys ++ List.replicate 80 (m1, m2)).take n2 = ys by rw [List.take_append_of_le_length (by omega), List.take_of_length_le (by omega)])
  have ht := (h.take (show n2 ≤ n2 + 80 by omega)).alloc (Nat.le_refl _) (.cells #[.string m1, .string m2] 25)
  have e0 : (lbls (ys ++ List.replicate 80 (m1, m2))).take (n2 * 2) = lbls ys := by
    rw [lbls_append, List.take_append_of_le_length (by rw [lbls_length]; omega), List.take_of_length_le (by rw [lbls_length]; omega)]
  rw [e0] at ht
  have HTK := Lib.hid ht
  have H2 := Lib.hid (h2.alloc (Nat.le_refl _) (.cells #[.string m1, .string m2] 25))
  have H1 := Lib.hid (h.alloc (Nat.le_refl _) (.cells #[.string m1, .string m2] 25))
  have HM := Lib.hid (show Blk (w.alloc (.cells #[.string m1, .string m2] 25)) w.heap.size 25 [.string m1, .string m2] from Blk.mk (heap_alloc_new w _))
  have HB := Lib.hid ((Below.refl w.heap.size w).alloc (Nat.le_refl _) (.cells #[.string m1, .string m2] 25))
  have hb1 : (((n2 : Int) + 80) != ((n2 : Int) + 80)) = false := by simp
  have hq0 : (0 : Int) ≤ n2 := by omega
  have hq1 : (n2 : Int) ≤ c := by omega
  have he1 : (m1.toList == m1.toList) = true := by simp
  have he2 : (m2.toList == m2.toList) = true := by simp
  clear h h2 ht e0 hl
  generalize hzs : ys ++ List.replicate 80 (m1, m2) = zs at *
  clear hzs
  go_enter Try.func17, Try.ntmps17
  go_wp2_with fail
  refine (same_lbl A A2 n2 c n2 c2 _ _ ys ys _ HTK.out H2.out (by omega) (by omega)).mono ?_; rintro e w1 ⟨rfl, m, hw1⟩
  rw [decide_eq_true (rfl : ys = ys)]
  have H1' := Lib.hid (show Sees w1 w.heap.size 2 A (n2 + 80) (lbls zs) by rw [hw1]; exact H1.out.drewN m)
  have HM' := Lib.hid (show Blk w1 w.heap.size 25 [.string m1, .string m2] by rw [hw1]; exact HM.out.drewN m)
  have HB' := Lib.hid (show Below w.heap.size w w1 by rw [hw1]; exact below_drewN3 HB.out m)
  clear hw1 H1 H2 HTK HM HB
  go_wp2_with fail
  go_loopg [7] 80 (fun g i wr => ∃ j q : Nat, j + g = 80 ∧ i = .int .i64 (n2 + j : Nat) ∧ wr = w1.drewN q)
  case atStart => exact ⟨0, 0, by omega, by go_num, rfl⟩
  case round =>
    obtain ⟨j, q, hjg, rfl, rfl⟩ := hrel
    cases gk with
    | zero =>
      obtain rfl : j = 80 := by omega
      have hno : ¬ ((n2 : Int) + 80 < (n2 : Int) + 80) := by omega
      have HE := Lib.hid (below_drewN3 HB'.out q)
      go_wp2_with fail
      go_ret
      exact ⟨rfl, HE.out⟩
    | succ g =>
      obtain ⟨p, hp⟩ : ∃ p, n2 + j = p := ⟨_, rfl⟩
      have hp80 : p < n2 + 80 := by omega
      have hlt : (p : Int) < (n2 : Int) + 80 := by omega
      obtain ⟨ad, hpl, rfl, c0, c1⟩ := (H1'.out.drewN q).lbl hp80
      have hz : zs[p] = (m1, m2) := by subst hp; exact HZ.out j hpl
      rw [hz] at c0 c1
      have d0 : (w1.drewN q).cell? ⟨w.heap.size, 0, none⟩ = some (.string m1) := HM'.out.cell 0
      have d1 : (w1.drewN q).cell? ⟨w.heap.size, 1, none⟩ = some (.string m2) := HM'.out.cell 1
      rw [hp]
      have HP := Lib.hid hp; clear hp hz
      generalize hwq : w1.drewN q = wq at *
      have HWQ := Lib.hid hwq; clear hwq
      go_wp2_with fail
      go_quiet (fail)
      go_wp2_with fail
      go_roundg g
      case measure => omega
      case rel => exact ⟨j + 1, _, by omega, by have := HP.out; go_num, by rw [← HWQ.out]; exact World.drewN_drewN _ _ _⟩
end Go.Proofs.Ytjpjpcockhmbeaa
