/- Chapter 20's runs. -/
import Derived.Test.YtjcbigkmmjcmdaaGroup2
import Derived.Test.YtjcbigkmmjcmdaaBookInt
namespace Go.Proofs.Ytjcbigkmmjcmdaa
open Go.ChangeShapes Go.WideShapes Go.ChangeAt Go.RowKit
set_option linter.unusedVariables false
set_option maxRecDepth 100000
theorem own_only {w w' : World} {base : Nat} {t : TypeId} {size n g : Nat} {v : Value} {xs : List Value} (h : w.ownsRow base t size v n xs) (ho : w.grownBy w' (some g)) (hg : g < base) : w'.ownsRow base t size v n xs := by
  refine ⟨h.1, ?_⟩
  rcases h.2 with h2 | ⟨x, cap, cur, hv, hx, hh, rest⟩
  · exact .inl h2
  · refine .inr ⟨x, cap, cur, hv, hx, ?_, rest⟩
    rw [ho.block x (Array.getElem?_eq_some_iff.1 hh).1 (fun e => by injection e with e; omega)]
    exact hh
theorem Try.infoIntG : (Try.prog.info? 3).map (fun i => (i.zero, i.size, i.bytes)) = some (some (.int .i64 0), 1, 8) := by kernel_rfl
theorem belowD {B : Nat} {a w : World} (h : Below B a w) (n : Nat) : Below B a (w.drewN n) := ⟨h.os, h.tape, h.output, h.size, h.block⟩
/-- The chapter's run, tick by tick: the group, and when it told. -/
def runSt : Nat → GS × List Int
  | 0 => (GS.new 10 5 20, [])
  | k + 1 => (((runSt k).1.tick (5 * (k : Int)) (if k < 7 then [⟨#[97]⟩] else [])).1, if ((runSt k).1.tick (5 * (k : Int)) (if k < 7 then [⟨#[97]⟩] else [])).2.2 then (runSt k).2 ++ [5 * (k : Int)] else (runSt k).2)
theorem runSt_in : ∀ k, k < 10 → (0 ≤ (runSt k).1.since ∧ (runSt k).1.since ≤ 100 ∧ 0 ≤ (runSt k).1.lastT ∧ (runSt k).1.lastT ≤ 100 ∧ 0 ≤ (runSt k).1.wait ∧ (runSt k).1.wait ≤ 100) ∧ (runSt k).1.last.length ≤ 1 ∧ (runSt k).2.length ≤ k := by decide
theorem runSt_end : (runSt 9).2 = [10, 30, 35] ∧ (runSt 9).1.st = 0 ∧ (runSt 9).1.next = -1 := by decide
set_option maxHeartbeats 2000000 in
theorem group_runs (w : World) : Calls Try.prog 3 #[] w fun e w' => e = .returned (.bool true) ∧ Below w.heap.size w w' := by
  obtain ⟨i0, hi, hz0, hz1, hz2⟩ := info_parts Try.infoIntG
  have HN := Lib.hid (gnew_yes 10 5 20 w (by decide))
  go_enter Try.func3, Try.ntmps3
  go_wp2_with fail
  (with_reducible refine HN.out.mono ?_); rintro e w1 ⟨g, rfl, hg, hge, hb⟩
  have HG0 := Lib.hid hg; have HB0 := Lib.hid hb
  have hgl := hg.lt
  obtain ⟨B, hB⟩ : ∃ B, w1.heap.size = B := ⟨_, rfl⟩
  rw [hB] at hgl
  have hwB : w.heap.size ≤ B := by have := hb.size; omega
  have HS := Lib.hid hB
  clear HN hg hb hB
  go_wp2_with fail
  go_loopg [2, 3] 9 (fun g2 x2 x3 wr => ∃ k : Nat, k + g2 = 9 ∧ x3 = .int .i64 (5 * (k : Int)) ∧ wr.ownsRow B 3 1 x2 (runSt k).2.length (ints (runSt k).2) ∧ GAt wr g (runSt k).1 ∧ Below w.heap.size w wr ∧ B ≤ wr.heap.size)
  case atStart => exact ⟨0, by omega, rfl, by simpa [runSt, ints] using World.ownsRow_nil w1 B 3 1, HG0.out, HB0.out, by rw [HS.out]; exact Nat.le_refl _⟩
  case round =>
    obtain ⟨k, hkg, rfl, hown, hgat, hbel, hsz⟩ := hrel
    have HO := Lib.hid hown; have HG := Lib.hid hgat; have HB := Lib.hid hbel
    clear hown hgat hbel HG0 HB0 HS
    cases gk with
    | zero =>
      obtain rfl : k = 9 := by omega
      obtain ⟨A, c, rfl, hc1, hc2⟩ := own_slice HO.out
      have HE := Lib.hid runSt_end
      have HI := Lib.hid (runSt_in 9 (by omega)).1
      generalize runSt 9 = r at *
      obtain ⟨s, at_⟩ := r
      simp only at HO HG HE HI hc1
      have hat := HE.out.1
      subst hat
      have HS2 := Lib.hid (Sees.of_own HO.out)
      have h0 : ¬ (5 * ((9 : Nat) : Int) ≤ 40) := by omega
      have HST := Lib.hid HE.out.2.1
      have HNX := Lib.hid HE.out.2.2
      go_wp2_with fail
      (with_reducible refine (same_int A _ 3 c 3 3 _ _ [10, 30, 35] [10, 30, 35] _ (HS2.out.alloc (Nat.le_refl _) _) ((Blk.mk (heap_alloc_new wr (.cells #[.int .i64 10, .int .i64 30, .int .i64 35] 3)) : Blk _ _ 3 [.int .i64 10, .int .i64 30, .int .i64 35]).sees (size := 1) (n := 3) rfl (List.prefix_refl _)) (by omega) (by omega)).mono ?_); rintro e wq ⟨rfl, m, rfl⟩
      have HG2 := Lib.hid ((HG.out.below ((Below.refl _ _).alloc (Nat.le_refl _) (.cells #[.int .i64 10, .int .i64 30, .int .i64 35] 3))).below (belowD (Below.refl _ _) m))
      have HB2 := Lib.hid (belowD (HB.out.alloc HB.out.size (.cells #[.int .i64 10, .int .i64 30, .int .i64 35] 3)) m)
      go_wp2_with fail
      (with_reducible refine (gidle_any g s _ HG2.out).mono ?_); rintro e wq ⟨rfl, rfl⟩
      rw [HST.out]
      go_wp2_with fail
      (with_reducible refine (gnext_any g s _ HG2.out ⟨HI.out.1, by have := HI.out.2.1; omega⟩ ⟨HI.out.2.2.2.2.1, by have := HI.out.2.2.2.2.2; omega⟩).mono ?_); rintro e wq ⟨rfl, m2, rfl⟩
      rw [HNX.out]
      go_wp2_with fail
      go_ret
      exact ⟨rfl, by rw [← World.drewN_drewN]; exact belowD HB2.out m2⟩
    | succ g2 =>
      have hk9 : k < 9 := by omega
      have HR := Lib.hid (show runSt (k + 1) = (((runSt k).1.tick (5 * (k : Int)) (if k < 7 then [⟨#[97]⟩] else [])).1, if ((runSt k).1.tick (5 * (k : Int)) (if k < 7 then [⟨#[97]⟩] else [])).2.2 then (runSt k).2 ++ [5 * (k : Int)] else (runSt k).2) from rfl)
      have HI := Lib.hid (runSt_in k (by omega))
      generalize runSt k = r at *
      obtain ⟨s, at_⟩ := r
      simp only at HO HG HR HI
      have hle : 5 * (k : Int) ≤ 40 := by omega
      have hgw := HG.out.lt
      have hnx : 5 * (k : Int) + 5 = 5 * ((k + 1 : Nat) : Int) := by omega
      have HNX := Lib.hid hnx
      clear hnx
      have hlat : at_.length ≤ 9 := by have := HI.out.2.2; omega
      have HTI : Hid ((s.st ≠ 0 → I64 (5 * (k : Int) - s.since)) ∧ (s.st = 2 → I64 (5 * (k : Int) - s.lastT)) ∧ s.last.length ≤ 1000000) := Lib.hid (by
        obtain ⟨⟨h1, h2, h3, h4, h5, h6⟩, h7, h8⟩ := HI.out
        refine ⟨fun _ => ?_, fun _ => ?_, by omega⟩ <;> unfold I64 <;> omega)
      have HLA := Lib.hid hlat
      obtain ⟨X, cX, rfl, hcx1, hcx2⟩ := own_slice HO.out
      by_cases hk7 : k < 7
      · rw [if_pos hk7] at HR
        have h35 : ¬ (5 * (k : Int) ≥ 35) := by omega
        obtain ⟨W, hW⟩ : ∃ W, wr.alloc (.cells #[.string ⟨#[97]⟩] 9) = W := ⟨_, rfl⟩
        have HGW := Lib.hid (show GAt W g s by rw [← hW]; exact HG.out.below ((Below.refl _ _).alloc (Nat.le_refl _) _))
        have HOW := Lib.hid (show W.ownsRow B 3 1 (.slice X at_.length cX) at_.length (ints at_) by rw [← hW]; exact HO.out.alloc _)
        have HBW := Lib.hid (show Below w.heap.size w W by rw [← hW]; exact HB.out.alloc HB.out.size _)
        have hszW : B ≤ W.heap.size := by rw [← hW]; simp; omega
        have HSA := Lib.hid (show Sees W W.heap.size 1 (some ⟨wr.heap.size, 0, none⟩) 1 (strs [⟨#[97]⟩]) by rw [← hW]; exact (Blk.mk (heap_alloc_new wr _) : Blk _ wr.heap.size 9 [.string ⟨#[97]⟩]).sees rfl (List.prefix_refl _))
        have HTC := Lib.hid (tick_any g s (5 * (k : Int)) (some ⟨wr.heap.size, 0, none⟩) 1 1 [⟨#[97]⟩] W HGW.out HSA.out (fun ad ha _ => by injection ha with ha; rw [← ha]; show wr.heap.size ≠ g; omega) (by omega) (by omega) HTI.out.1 HTI.out.2.1 HTI.out.2.2)
        have HW := Lib.hid hW
        clear hW HG HO HB HGW HSA
        go_wp2_with fail
        rw [HW.out]
        (with_reducible refine HTC.out.mono ?_)
        rintro e w2 ⟨A2, c2, rfl, hg2, hs2, ho2⟩
        have HO2 := Lib.hid (own_only HOW.out ho2 hgl)
        have HB2 := Lib.hid (HBW.out.grown ho2 HBW.out.size (fun y hy => by injection hy with hy; omega))
        have hsz2 : B ≤ w2.heap.size := Nat.le_trans hszW ho2.size
        have HG2 := Lib.hid hg2
        clear hg2 hs2 ho2 HOW HBW HTC HW
        generalize s.tick (5 * (k : Int)) [⟨#[97]⟩] = tk at *
        obtain ⟨s', told, ok⟩ := tk
        simp only at HR HG2
        cases ok with
        | false =>
          simp only [Bool.false_eq_true, if_false] at HR
          go_wp2_with fail
          go_roundg g2
          case measure => omega
          case rel => exact ⟨k + 1, by omega, by rw [HNX.out], by rw [HR.out]; exact HO2.out, by rw [HR.out]; exact HG2.out, HB2.out, hsz2⟩
        | true =>
          simp only [if_true] at HR
          have HX := Lib.hid (HO2.out.alloc (.cells #[.int .i64 (5 * (k : Int))] 3))
          have HSX := Lib.hid ((Blk.mk (heap_alloc_new w2 (.cells #[.int .i64 (5 * (k : Int))] 3)) : Blk _ _ 3 [.int .i64 (5 * (k : Int))]).sees (size := 1) (n := 1) (xs := ints [5 * (k : Int)]) rfl (List.prefix_refl _))
          go_wp2_with (at_builtin; refine wpList_append_sees rfl (.tmp 26) (.tmp 28) 26 rfl B 3 i0 (.int .i64 0) 1 8 Try.underlying26 hi hz0 hz1 hz2 rfl (by decide) _ at_.length (ints at_) rfl HX.out _ _ 1 1 (ints [5 * (k : Int)]) rfl HSX.out (ints_one _) (by unfold maxLen; omega) (by omega) (by simp; omega) ?_)
          intro v7 w7 hown7 hgr7
          have HG7 := Lib.hid ((HG2.out.below ((Below.refl _ _).alloc (Nat.le_refl _) (.cells #[.int .i64 (5 * (k : Int))] 3))).row HX.out hgr7 (by decide) (by decide))
          have HB7 := Lib.hid ((HB2.out.alloc HB2.out.size (.cells #[.int .i64 (5 * (k : Int))] 3)).grown hgr7 (by simp; omega) (fun y hy => by have := (HX.out.lt y hy).1; omega))
          have hsz7 : B ≤ w7.heap.size := by have := hgr7.size; simp at this; omega
          have HO7 := Lib.hid hown7
          clear hown7 hgr7 HX HSX HG2 HB2 HO2
          go_wp2_with fail
          go_roundg g2
          case measure => omega
          case rel => exact ⟨k + 1, by omega, by rw [HNX.out], by rw [HR.out]; simpa [ints] using HO7.out, by rw [HR.out]; exact HG7.out, HB7.out, hsz7⟩
      · rw [if_neg hk7] at HR
        have h35 : 5 * (k : Int) ≥ 35 := by omega
        obtain ⟨W, hW⟩ : ∃ W, wr.alloc (.cells #[.string ⟨#[97]⟩] 9) = W := ⟨_, rfl⟩
        have HGW := Lib.hid (show GAt W g s by rw [← hW]; exact HG.out.below ((Below.refl _ _).alloc (Nat.le_refl _) _))
        have HOW := Lib.hid (show W.ownsRow B 3 1 (.slice X at_.length cX) at_.length (ints at_) by rw [← hW]; exact HO.out.alloc _)
        have HBW := Lib.hid (show Below w.heap.size w W by rw [← hW]; exact HB.out.alloc HB.out.size _)
        have hszW : B ≤ W.heap.size := by rw [← hW]; simp; omega
        have HTC := Lib.hid (tick_any g s (5 * (k : Int)) none 0 0 [] W HGW.out Sees.nil (fun ad ha _ => by cases ha) (by omega) (by omega) HTI.out.1 HTI.out.2.1 HTI.out.2.2)
        have HW := Lib.hid hW
        clear hW HG HO HB HGW
        go_wp2_with fail
        rw [HW.out]
        (with_reducible refine HTC.out.mono ?_)
        rintro e w2 ⟨A2, c2, rfl, hg2, hs2, ho2⟩
        have HO2 := Lib.hid (own_only HOW.out ho2 hgl)
        have HB2 := Lib.hid (HBW.out.grown ho2 HBW.out.size (fun y hy => by injection hy with hy; omega))
        have hsz2 : B ≤ w2.heap.size := Nat.le_trans hszW ho2.size
        have HG2 := Lib.hid hg2
        clear hg2 hs2 ho2 HOW HBW HTC HW
        generalize s.tick (5 * (k : Int)) [] = tk at *
        obtain ⟨s', told, ok⟩ := tk
        simp only at HR HG2
        cases ok with
        | false =>
          simp only [Bool.false_eq_true, if_false] at HR
          go_wp2_with fail
          go_roundg g2
          case measure => omega
          case rel => exact ⟨k + 1, by omega, by rw [HNX.out], by rw [HR.out]; exact HO2.out, by rw [HR.out]; exact HG2.out, HB2.out, hsz2⟩
        | true =>
          simp only [if_true] at HR
          have HX := Lib.hid (HO2.out.alloc (.cells #[.int .i64 (5 * (k : Int))] 3))
          have HSX := Lib.hid ((Blk.mk (heap_alloc_new w2 (.cells #[.int .i64 (5 * (k : Int))] 3)) : Blk _ _ 3 [.int .i64 (5 * (k : Int))]).sees (size := 1) (n := 1) (xs := ints [5 * (k : Int)]) rfl (List.prefix_refl _))
          go_wp2_with (at_builtin; refine wpList_append_sees rfl (.tmp 26) (.tmp 28) 26 rfl B 3 i0 (.int .i64 0) 1 8 Try.underlying26 hi hz0 hz1 hz2 rfl (by decide) _ at_.length (ints at_) rfl HX.out _ _ 1 1 (ints [5 * (k : Int)]) rfl HSX.out (ints_one _) (by unfold maxLen; omega) (by omega) (by simp; omega) ?_)
          intro v7 w7 hown7 hgr7
          have HG7 := Lib.hid ((HG2.out.below ((Below.refl _ _).alloc (Nat.le_refl _) (.cells #[.int .i64 (5 * (k : Int))] 3))).row HX.out hgr7 (by decide) (by decide))
          have HB7 := Lib.hid ((HB2.out.alloc HB2.out.size (.cells #[.int .i64 (5 * (k : Int))] 3)).grown hgr7 (by simp; omega) (fun y hy => by have := (HX.out.lt y hy).1; omega))
          have hsz7 : B ≤ w7.heap.size := by have := hgr7.size; simp at this; omega
          have HO7 := Lib.hid hown7
          clear hown7 hgr7 HX HSX HG2 HB2 HO2
          go_wp2_with fail
          go_roundg g2
          case measure => omega
          case rel => exact ⟨k + 1, by omega, by rw [HNX.out], by rw [HR.out]; simpa [ints] using HO7.out, by rw [HR.out]; exact HG7.out, HB7.out, hsz7⟩
end Go.Proofs.Ytjcbigkmmjcmdaa
