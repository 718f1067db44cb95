/- expr: sign, word, kindOfWord, between. -/
import Derived.Test.YtnkbpcenkbihpaaDoorRead2
import Derived.Deep.QuietTactic
import Derived.BigQuiet
namespace Go.Proofs.YtnkbpcenkbihpaaDoor
open Go.ChangeShapes Go.WideShapes Go.ChangeAt Go.RowKit
set_option linter.unusedVariables false
set_option linter.unusedSimpArgs false
set_option maxRecDepth 100000
/-- What an expression of two has between its kids. -/
def signX (k : Int) : ByteArray := if k = 3 then ⟨#[43]⟩ else if k = 4 then ⟨#[45]⟩ else if k = 5 then ⟨#[42]⟩ else if k = 6 then ⟨#[47]⟩ else if k = 7 then ⟨#[37]⟩ else if k = 8 then ⟨#[61, 61]⟩ else if k = 9 then ⟨#[33, 61]⟩ else if k = 10 then ⟨#[60]⟩ else if k = 11 then ⟨#[60, 61]⟩ else if k = 12 then ⟨#[62]⟩ else if k = 13 then ⟨#[62, 61]⟩ else if k = 14 then ⟨#[97, 110, 100]⟩ else if k = 15 then ⟨#[111, 114]⟩ else if k = 16 then ⟨#[117, 110, 108, 101, 115, 115]⟩ else ⟨#[]⟩
/-- What an expression of one begins with. -/
def wordX (k : Int) : ByteArray := if k = 17 then ⟨#[115, 117, 109]⟩ else if k = 18 then ⟨#[109, 105, 110]⟩ else if k = 19 then ⟨#[109, 97, 120]⟩ else if k = 20 then ⟨#[99, 111, 117, 110, 116]⟩ else ⟨#[]⟩
set_option maxHeartbeats 2000000 in
theorem sign_x (k : Int) (w : World) : Calls Tryd.prog 28 #[.int .i64 k] w fun e w' => e = .returned (.string (signX k)) ∧ w = w' := by
  by_cases h3 : k = 3
  · subst h3; go_enter Tryd.func28, Tryd.ntmps28
    go_wp2_with fail
    go_ret
    exact ⟨rfl, rfl⟩
  by_cases h4 : k = 4
  · subst h4; go_enter Tryd.func28, Tryd.ntmps28
    go_wp2_with fail
    go_ret
    exact ⟨rfl, rfl⟩
  by_cases h5 : k = 5
  · subst h5; go_enter Tryd.func28, Tryd.ntmps28
    go_wp2_with fail
    go_ret
    exact ⟨rfl, rfl⟩
  by_cases h6 : k = 6
  · subst h6; go_enter Tryd.func28, Tryd.ntmps28
    go_wp2_with fail
    go_ret
    exact ⟨rfl, rfl⟩
  by_cases h7 : k = 7
  · subst h7; go_enter Tryd.func28, Tryd.ntmps28
    go_wp2_with fail
    go_ret
    exact ⟨rfl, rfl⟩
  by_cases h8 : k = 8
  · subst h8; go_enter Tryd.func28, Tryd.ntmps28
    go_wp2_with fail
    go_ret
    exact ⟨rfl, rfl⟩
  by_cases h9 : k = 9
  · subst h9; go_enter Tryd.func28, Tryd.ntmps28
    go_wp2_with fail
    go_ret
    exact ⟨rfl, rfl⟩
  by_cases h10 : k = 10
  · subst h10; go_enter Tryd.func28, Tryd.ntmps28
    go_wp2_with fail
    go_ret
    exact ⟨rfl, rfl⟩
  by_cases h11 : k = 11
  · subst h11; go_enter Tryd.func28, Tryd.ntmps28
    go_wp2_with fail
    go_ret
    exact ⟨rfl, rfl⟩
  by_cases h12 : k = 12
  · subst h12; go_enter Tryd.func28, Tryd.ntmps28
    go_wp2_with fail
    go_ret
    exact ⟨rfl, rfl⟩
  by_cases h13 : k = 13
  · subst h13; go_enter Tryd.func28, Tryd.ntmps28
    go_wp2_with fail
    go_ret
    exact ⟨rfl, rfl⟩
  by_cases h14 : k = 14
  · subst h14; go_enter Tryd.func28, Tryd.ntmps28
    go_wp2_with fail
    go_ret
    exact ⟨rfl, rfl⟩
  by_cases h15 : k = 15
  · subst h15; go_enter Tryd.func28, Tryd.ntmps28
    go_wp2_with fail
    go_ret
    exact ⟨rfl, rfl⟩
  by_cases h16 : k = 16
  · subst h16; go_enter Tryd.func28, Tryd.ntmps28
    go_wp2_with fail
    go_ret
    exact ⟨rfl, rfl⟩
  have t3 : (k == 3) = false := by rw [beq_eq_false_iff_ne]; exact h3
  have t4 : (k == 4) = false := by rw [beq_eq_false_iff_ne]; exact h4
  have t5 : (k == 5) = false := by rw [beq_eq_false_iff_ne]; exact h5
  have t6 : (k == 6) = false := by rw [beq_eq_false_iff_ne]; exact h6
  have t7 : (k == 7) = false := by rw [beq_eq_false_iff_ne]; exact h7
  have t8 : (k == 8) = false := by rw [beq_eq_false_iff_ne]; exact h8
  have t9 : (k == 9) = false := by rw [beq_eq_false_iff_ne]; exact h9
  have t10 : (k == 10) = false := by rw [beq_eq_false_iff_ne]; exact h10
  have t11 : (k == 11) = false := by rw [beq_eq_false_iff_ne]; exact h11
  have t12 : (k == 12) = false := by rw [beq_eq_false_iff_ne]; exact h12
  have t13 : (k == 13) = false := by rw [beq_eq_false_iff_ne]; exact h13
  have t14 : (k == 14) = false := by rw [beq_eq_false_iff_ne]; exact h14
  have t15 : (k == 15) = false := by rw [beq_eq_false_iff_ne]; exact h15
  have t16 : (k == 16) = false := by rw [beq_eq_false_iff_ne]; exact h16
  have HE := Lib.hid (show signX k = ⟨#[]⟩ by unfold signX; simp only [h3, h4, h5, h6, h7, h8, h9, h10, h11, h12, h13, h14, h15, h16, if_false])
  clear h3 h4 h5 h6 h7 h8 h9 h10 h11 h12 h13 h14 h15 h16
  go_enter Tryd.func28, Tryd.ntmps28
  go_wp2_with fail
  go_ret
  exact ⟨by rw [HE.out]; rfl, rfl⟩
set_option maxHeartbeats 2000000 in
theorem word_x (k : Int) (w : World) : Calls Tryd.prog 26 #[.int .i64 k] w fun e w' => e = .returned (.string (wordX k)) ∧ w = w' := by
  by_cases h17 : k = 17
  · subst h17; go_enter Tryd.func26, Tryd.ntmps26
    go_wp2_with fail
    go_ret
    exact ⟨rfl, rfl⟩
  by_cases h18 : k = 18
  · subst h18; go_enter Tryd.func26, Tryd.ntmps26
    go_wp2_with fail
    go_ret
    exact ⟨rfl, rfl⟩
  by_cases h19 : k = 19
  · subst h19; go_enter Tryd.func26, Tryd.ntmps26
    go_wp2_with fail
    go_ret
    exact ⟨rfl, rfl⟩
  by_cases h20 : k = 20
  · subst h20; go_enter Tryd.func26, Tryd.ntmps26
    go_wp2_with fail
    go_ret
    exact ⟨rfl, rfl⟩
  have t17 : (k == 17) = false := by rw [beq_eq_false_iff_ne]; exact h17
  have t18 : (k == 18) = false := by rw [beq_eq_false_iff_ne]; exact h18
  have t19 : (k == 19) = false := by rw [beq_eq_false_iff_ne]; exact h19
  have t20 : (k == 20) = false := by rw [beq_eq_false_iff_ne]; exact h20
  have HE := Lib.hid (show wordX k = ⟨#[]⟩ by unfold wordX; simp only [h17, h18, h19, h20, if_false])
  clear h17 h18 h19 h20
  go_enter Tryd.func26, Tryd.ntmps26
  go_wp2_with fail
  go_ret
  exact ⟨by rw [HE.out]; rfl, rfl⟩
/-- The first of these kinds that may be. -/
def firstK (p : Int → Bool) : Nat → Int → Option Int
  | 0, _ => none
  | f + 1, k => if p k = true then some k else firstK p f (k + 1)
def kindF (t : Tok) : Int := if t.kd = 2 then (firstK (fun k => decide (t.tx = wordX k)) 4 17).getD 0 else 0
set_option maxHeartbeats 2000000 in
theorem kind_any (t : Tok) (w : World) : Calls Tryd.prog 67 #[t.val] w fun e w' => e = .returned (.int .i64 (kindF t)) ∧ Below w.heap.size w w' := by
  have HB := Lib.hid ((Below.refl w.heap.size w).alloc (Nat.le_refl _) (.cells #[.int .i64 t.kd, .int .i64 t.n, .int .i64 t.at_, .string t.tx] 43))
  have HK := Lib.hid (Blk.mk (heap_alloc_new w (.cells #[.int .i64 t.kd, .int .i64 t.n, .int .i64 t.at_, .string t.tx] 43)) : Blk _ w.heap.size 43 [.int .i64 t.kd, .int .i64 t.n, .int .i64 t.at_, .string t.tx])
  have HG := Lib.hid (show ∃ g, w.heap.size = g from ⟨_, rfl⟩)
  unfold Tok.val
  go_enter Tryd.func67, Tryd.ntmps67
  go_upto_region 1 with fail
  obtain ⟨g1, hg1⟩ := HG.out
  rw [hg1]
  have HGE := Lib.hid hg1
  clear HG hg1
  generalize w.alloc (.cells #[.int .i64 t.kd, .int .i64 t.n, .int .i64 t.at_, .string t.tx] 43) = W1 at *
  rw [HGE.out] at HK
  by_cases hk : t.kd = 2
  · have t1 : (t.kd == 2) = true := by rw [hk]; rfl
    have HE := Lib.hid (show kindF t = (firstK (fun k => decide (t.tx = wordX k)) 4 17).getD 0 by unfold kindF; rw [if_pos hk])
    clear hk
    go_wp2_with fail
    go_loopg [3] 4 (fun g x3 wr => ∃ kk : Int, kk + g = 21 ∧ 17 ≤ kk ∧ x3 = .int .i64 kk ∧ kindF t = (firstK (fun k => decide (t.tx = wordX k)) g kk).getD 0 ∧ Blk wr g1 43 [.int .i64 t.kd, .int .i64 t.n, .int .i64 t.at_, .string t.tx] ∧ Below w.heap.size w wr)
    case atStart => exact ⟨17, by omega, by omega, rfl, HE.out, HK.out, HB.out⟩
    case round =>
      obtain ⟨kk, hkg, hk0, rfl, hkf, hblk, hbel⟩ := hrel
      have HKF := Lib.hid hkf; have HK2 := Lib.hid hblk; have HB2 := Lib.hid hbel
      clear hkf hblk hbel HK HB HE
      obtain ⟨e0, e1, e2, e3⟩ := blk_cells4 HK2.out
      cases gk with
      | zero =>
        have hno : ¬ kk ≤ 20 := by omega
        go_wp2_with fail
        go_ret
        exact ⟨by rw [HKF.out]; rfl, HB2.out⟩
      | succ g =>
        have hle : kk ≤ 20 := by omega
        have HST := Lib.hid (show firstK (fun k => decide (t.tx = wordX k)) (g + 1) kk = if decide (t.tx = wordX kk) = true then some kk else firstK (fun k => decide (t.tx = wordX k)) g (kk + 1) from rfl)
        have hwx := fun (W : World) => (word_x kk W).mono (fun e w' hh => show e = .returned (.string (wordX kk)) ∧ Below W.heap.size W w' from ⟨hh.1, hh.2 ▸ Below.refl _ _⟩)
        obtain ⟨wx, hwx2⟩ : ∃ x, wordX kk = x := ⟨_, rfl⟩
        rw [hwx2] at hwx HST
        have HWX := Lib.hid hwx
        clear hwx hwx2
        obtain ⟨eb, hgb⟩ : ∃ b, (t.tx.toList == wx.toList) = b := ⟨_, rfl⟩
        have HEB := Lib.hid (show decide (t.tx = wx) = eb by
          rw [← hgb]
          by_cases hx : t.tx = wx
          · rw [hx]; simp
          · rw [decide_eq_false hx]; exact (beq_eq_false_iff_ne.2 (fun h => hx (by apply ByteArray.ext; apply Array.toList_inj.1; simpa [ByteArray.toList_eq] using h))).symm)
        rw [HEB.out] at HST
        go_upto_region 4 with fail
        clear e0 e1 e2 e3
        refine wp_region_facts (R := fun a b => Below a.heap.size a b) (G := (fun W => Blk W g1 43 [.int .i64 t.kd, .int .i64 t.n, .int .i64 t.at_, .string t.tx] ∧ Below w.heap.size w W)) (V := fun i' u' W => match i' with | 0 => u' = .pointer (some ⟨g1, 3, none⟩) | 1 => u' = .string t.tx | 2 => u' = .int .i64 kk | 3 => u' = .string wx | 4 => u' = .bool eb | _ => True) (by kernel_rfl) (fun w => Below.refl _ _) (fun a b c h1 h2 => h1.trans (h2.mono h1.size)) (by kernel_rfl) (by kernel_rfl) ?hG ⟨?o0, ?o1, ?o2, ?o3, ?o4, trivial⟩ ?hend
        case o0 =>
          intro a w hfr hG hd
          refine ⟨fun hw => ?_, fun hw => absurd hw (by simp [Region.wanted])⟩
          have s1 : a.tmps.getD 1 undef = .pointer (some ⟨g1, 0, none⟩) := hfr.at 1 (by kernel_rfl)
          refine op_yields (.pointer (some ⟨g1, 3, none⟩)) ?_ ?_ ?_
          · simp only [execOp, resolve, List.map_toArray, List.map_cons, List.map_nil, Act.eval, s1]; simp [go_sem, -Array.getD_eq_getD_getElem?, s1]
          · exact Below.refl _ _
          · exact (fun _ _ => rfl)
        case o1 =>
          intro a w hfr hG hd
          obtain ⟨d0, _⟩ := hd
          refine ⟨fun hw => ?_, fun hw => absurd hw (by simp [Region.wanted])⟩
          have s13 : a.tmps.getD 13 undef = .pointer (some ⟨g1, 3, none⟩) := (d0 rfl).now
          have e3 := hG.now.1.cell 3; simp only [List.getElem?_cons_zero, List.getElem?_cons_succ] at e3
          refine op_yields (.string t.tx) ?_ ?_ ?_
          · simp only [execOp, resolve, List.map_toArray, List.map_cons, List.map_nil, Act.eval, s13]; simp [go_sem, -Array.getD_eq_getD_getElem?, s13, e3, e3]
          · exact Below.refl _ _
          · exact (fun _ _ => rfl)
        case o2 =>
          intro a w hfr hG hd
          refine ⟨fun hw => ?_, fun hw => absurd hw (by simp [Region.wanted])⟩
          have s3 : a.tmps.getD 3 undef = .int .i64 kk := hfr.at 3 (by kernel_rfl)
          refine op_yields (.int .i64 kk) ?_ ?_ ?_
          · simp only [execOp, resolve, List.map_toArray, List.map_cons, List.map_nil, Act.eval, s3]; simp [go_sem, -Array.getD_eq_getD_getElem?, s3]
          · exact Below.refl _ _
          · exact (fun _ _ => rfl)
        case o3 =>
          intro a w hfr hG hd
          obtain ⟨d0, _⟩ := hd
          refine ⟨fun hw => ?_, fun hw => absurd hw (by simp [Region.wanted])⟩
          have s15 : a.tmps.getD 15 undef = .int .i64 kk := (d0 rfl).now
          refine op_calls2 ((HWX.out w).mono fun e' w' hh => ⟨_, hh.1, hh.2, (fun _ _ => rfl)⟩) ?_
          simp only [execOp, resolve, List.map_toArray, List.map_cons, List.map_nil, Act.eval, s15]; simp [go_sem, -Array.getD_eq_getD_getElem?, s15]
        case o4 =>
          intro a w hfr hG hd
          obtain ⟨d0, d1, _⟩ := hd
          refine ⟨fun hw => ?_, fun hw => absurd hw (by simp [Region.wanted])⟩
          have s14 : a.tmps.getD 14 undef = .string t.tx := (d0 rfl).now
          have s16 : a.tmps.getD 16 undef = .string wx := (d1 rfl).now
          refine op_yields (.bool eb) ?_ ?_ ?_
          · simp only [execOp, resolve, List.map_toArray, List.map_cons, List.map_nil, Act.eval, s14, s16]; simp [go_sem, -Array.getD_eq_getD_getElem?, s14, s16, hgb]
          · exact Below.refl _ _
          · exact (fun _ _ => rfl)
        case hG => exact fun w' hb => ⟨HK2.out.below ((Below.refl _ _).drew.trans (hb.mono (by simp))) HK2.out.lt, HB2.out.trans ((Below.refl _ _).drew.trans (hb.mono (by simp; exact HB2.out.size)))⟩
        case hend =>
          intro vs w' hG hv
          have key : vs 4 = .bool eb := by
            obtain ⟨_, _, _, _, h4, _⟩ := hv
            exact h4.now
          obtain ⟨hk3, hb3⟩ := hG.now
          have HK3 := Lib.hid hk3; have HB3 := Lib.hid hb3
          clear hv hG hk3 hb3 HK2 HB2 HWX hgb
          simp only [putAll, Act.put, key]
          clear key
          go_simp
          cases eb with
          | true =>
            have HE := Lib.hid (show kindF t = kk by rw [HKF.out, HST.out, if_pos rfl]; rfl)
            go_wp2_with fail
            go_ret
            exact ⟨by rw [HE.out]; rfl, HB3.out⟩
          | false =>
            have HE := Lib.hid (show kindF t = (firstK (fun k => decide (t.tx = wordX k)) g (kk + 1)).getD 0 by rw [HKF.out, HST.out, if_neg (by simp)])
            have i1 : IntKind.i64.wrap (kk + 1) = kk + 1 := by rw [IntKind.wrap_i64]; omega
            go_wp2_with fail
            go_roundg g
            case measure => omega
            case rel => exact ⟨kk + 1, by omega, by omega, rfl, HE.out, HK3.out, HB3.out⟩
  · have t1 : (t.kd == 2) = false := by rw [beq_eq_false_iff_ne]; exact hk
    have HE := Lib.hid (show kindF t = 0 by unfold kindF; rw [if_neg hk])
    obtain ⟨e0, e1, e2, e3⟩ := blk_cells4 HK.out
    clear hk
    go_wp2_with fail
    go_loopg [3] 1 (fun g x3 wr => W1 = wr ∧ x3 = .int .i64 17)
    case atStart => exact ⟨rfl, rfl⟩
    case round =>
      obtain ⟨rfl, rfl⟩ := hrel
      go_wp2_with fail
      go_ret
      exact ⟨by rw [HE.out]; rfl, HB.out⟩
/-- The sign's kind between two kids, and where the reader is then. -/
def betweenF (ts : List Tok) (en : Int) (s : PS) : Int × PS := match firstK (fun k => isF ts s (if 14 ≤ k then 2 else 4) (signX k)) 14 3 with | some k => (k, nextF s) | none => (0, failF ts en s 1)
set_option maxHeartbeats 4000000 in
theorem between_any (b : Nat) (A : Option Addr) (n c : Nat) (ts : List Tok) (en : Int) (s : PS) (w : World) (h : RdAt b A n c ts en s w) (hn : n ≤ 1000000) :
    Calls Tryd.prog 88 #[.pointer (some ⟨b, 0, none⟩)] w fun e w' => e = .returned (.int .i64 (betweenF ts en s).1) ∧ Moved b A n c ts en (betweenF ts en s).2 w w' := by
  have HR := Lib.hid (show Moved b A n c ts en s w w from ⟨h, Only.refl _ _⟩)
  clear h
  have HE : Hid (∃ o, firstK (fun k => isF ts s (if 14 ≤ k then 2 else 4) (signX k)) 14 3 = o ∧ betweenF ts en s = match o with | some k => (k, nextF s) | none => (0, failF ts en s 1)) := Lib.hid ⟨_, rfl, rfl⟩
  obtain ⟨o, ho, hbo⟩ := HE.out
  have HBO := Lib.hid hbo
  have HO := Lib.hid ho
  clear ho hbo HE
  go_enter Tryd.func88, Tryd.ntmps88
  go_wp2_with fail
  go_loopg [3, 4] 14 (fun g x3 x4 wr => ∃ kk : Int, kk + g = 17 ∧ 3 ≤ kk ∧ x3 = .int .i64 kk ∧ firstK (fun k => isF ts s (if 14 ≤ k then 2 else 4) (signX k)) g kk = o ∧ Moved b A n c ts en s w wr)
  case atStart => exact ⟨3, by omega, by omega, rfl, HO.out, HR.out⟩
  case round =>
    obtain ⟨kk, hkg, hk0, rfl, hkf, hmv⟩ := hrel
    have HKF := Lib.hid hkf; have HM := Lib.hid hmv
    clear hkf hmv HR HO
    cases gk with
    | zero =>
      have hno : ¬ kk ≤ 16 := by omega
      have HE2 := Lib.hid (show betweenF ts en s = (0, failF ts en s 1) by
        have h1 : o = none := by rw [← HKF.out]; rfl
        rw [HBO.out, h1])
      have HF := Lib.hid (fail_any b A n c ts en s 1 wr HM.out.rd)
      go_wp2_with fail
      (with_reducible refine HF.out.mono ?_); rintro e w2 ⟨rfl, hm⟩
      have HX := Lib.hid (show Moved b A n c ts en (betweenF ts en s).2 w w2 from ⟨by rw [HE2.out]; exact hm.rd, HM.out.only.trans hm.only⟩)
      clear hm
      go_wp2_with fail
      go_ret
      exact ⟨by rw [HE2.out]; rfl, HX.out⟩
    | succ g =>
      have hle : kk ≤ 16 := by omega
      have HST := Lib.hid (show firstK (fun k => isF ts s (if 14 ≤ k then 2 else 4) (signX k)) (g + 1) kk = if isF ts s (if 14 ≤ kk then 2 else 4) (signX kk) = true then some kk else firstK (fun k => isF ts s (if 14 ≤ k then 2 else 4) (signX k)) g (kk + 1) from rfl)
      obtain ⟨tk, htk⟩ : ∃ z : Int, (if 14 ≤ kk then 2 else 4) = z := ⟨_, rfl⟩
      have htk0 : tk ≠ 0 := by rw [← htk]; split <;> decide
      have HSK := Lib.hid (fun W (h : RdAt b A n c ts en s W) => skip_any b A n c ts en s tk (signX kk) W h htk0 hn)
      have HSD : Hid (skipF ts s tk (signX kk) = if isF ts s tk (signX kk) = true then (true, nextF s) else (false, s)) := Lib.hid rfl
      rw [htk] at HST
      have HSX := Lib.hid (fun (W : World) => sign_x kk W)
      obtain ⟨q, hq⟩ : ∃ q, isF ts s tk (signX kk) = q := ⟨_, rfl⟩
      rw [hq] at HST HSD
      obtain ⟨sx, hsx⟩ : ∃ x, signX kk = x := ⟨_, rfl⟩
      rw [hsx] at HSX HSK HSD
      have HQ := Lib.hid hq
      clear hq hsx htk0
      have hskp : (skipF ts s tk sx).1 = q := by rw [HSD.out]; cases q <;> rfl
      have HSKP := Lib.hid hskp
      clear hskp
      by_cases h14 : 14 ≤ kk
      · obtain rfl : (2 : Int) = tk := by rw [← htk, if_pos h14]
        have HTK := Lib.hid htk
        clear htk
        go_wp2_with fail
        (with_reducible refine (HSX.out _).mono ?_); rintro e w2 ⟨rfl, rfl⟩
        go_wp2_with fail
        (with_reducible refine (HSK.out _ HM.out.rd).mono ?_); rintro e w2 ⟨rfl, hm⟩
        rw [HSKP.out]
        have HM2 := Lib.hid hm
        have HO2 := Lib.hid (HM.out.only.trans hm.only)
        clear hm
        cases q with
        | true =>
          have HE2 := Lib.hid (show betweenF ts en s = (kk, nextF s) by
            have h1 : o = some kk := by rw [← HKF.out, HST.out, if_pos rfl]
            rw [HBO.out, h1])
          have HX := Lib.hid (show Moved b A n c ts en (betweenF ts en s).2 w w2 from ⟨by rw [HE2.out]; have h := HM2.out.rd; rw [HSD.out, if_pos rfl] at h; exact h, HO2.out⟩)
          go_wp2_with fail
          go_ret
          exact ⟨by rw [HE2.out]; rfl, HX.out⟩
        | false =>
          have HN := Lib.hid (show firstK (fun k => isF ts s (if 14 ≤ k then 2 else 4) (signX k)) g (kk + 1) = o by rw [← HKF.out, HST.out, if_neg (by simp)])
          have HX := Lib.hid (show Moved b A n c ts en s w w2 from ⟨by have h := HM2.out.rd; rw [HSD.out, if_neg (by simp)] at h; exact h, HO2.out⟩)
          have i1 : IntKind.i64.wrap (kk + 1) = kk + 1 := by rw [IntKind.wrap_i64]; omega
          go_wp2_with fail
          go_roundg g
          case measure => omega
          case rel => exact ⟨kk + 1, by omega, by omega, rfl, HN.out, HX.out⟩
      · obtain rfl : (4 : Int) = tk := by rw [← htk, if_neg h14]
        have HTK := Lib.hid htk
        clear htk
        go_wp2_with fail
        (with_reducible refine (HSX.out _).mono ?_); rintro e w2 ⟨rfl, rfl⟩
        go_wp2_with fail
        (with_reducible refine (HSK.out _ HM.out.rd).mono ?_); rintro e w2 ⟨rfl, hm⟩
        rw [HSKP.out]
        have HM2 := Lib.hid hm
        have HO2 := Lib.hid (HM.out.only.trans hm.only)
        clear hm
        cases q with
        | true =>
          have HE2 := Lib.hid (show betweenF ts en s = (kk, nextF s) by
            have h1 : o = some kk := by rw [← HKF.out, HST.out, if_pos rfl]
            rw [HBO.out, h1])
          have HX := Lib.hid (show Moved b A n c ts en (betweenF ts en s).2 w w2 from ⟨by rw [HE2.out]; have h := HM2.out.rd; rw [HSD.out, if_pos rfl] at h; exact h, HO2.out⟩)
          go_wp2_with fail
          go_ret
          exact ⟨by rw [HE2.out]; rfl, HX.out⟩
        | false =>
          have HN := Lib.hid (show firstK (fun k => isF ts s (if 14 ≤ k then 2 else 4) (signX k)) g (kk + 1) = o by rw [← HKF.out, HST.out, if_neg (by simp)])
          have HX := Lib.hid (show Moved b A n c ts en s w w2 from ⟨by have h := HM2.out.rd; rw [HSD.out, if_neg (by simp)] at h; exact h, HO2.out⟩)
          have i1 : IntKind.i64.wrap (kk + 1) = kk + 1 := by rw [IntKind.wrap_i64]; omega
          go_wp2_with fail
          go_roundg g
          case measure => omega
          case rel => exact ⟨kk + 1, by omega, by omega, rfl, HN.out, HX.out⟩
end Go.Proofs.YtnkbpcenkbihpaaDoor
