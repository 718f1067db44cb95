/- lex.first. -/
import Derived.Test.YtnkbpcenkbihpaaDoorBase
namespace Go.Proofs.YtnkbpcenkbihpaaDoor
open Go.ChangeShapes Go.WideShapes Go.ChangeAt Go.RowKit
set_option linter.unusedVariables false
set_option linter.unusedSimpArgs false
set_option maxRecDepth 100000
/-- Does a number begin here. -/
def isNum (l : List UInt8) : Bool := digitN (l.headD 0).toNat || ((l.headD 0).toNat == 45 && (decide (1 < l.length) && digitN ((l.drop 1).headD 0).toNat))
/-- A text's first token, and its bytes. -/
def firstT (s : ByteArray) : Option (Tok × Nat) := if isNum s.data.toList = true then numT (numF s.data.toList) else if smallN (s.data.toList.headD 0).toNat = true then wordT s else if ((s.data.toList.headD 0).toNat == 34) = true then quotedT s.data.toList else signIn s.data.toList signsL
theorem FirstAns.form {r : Option (Tok × Nat)} {w w' : World} {e : Ending} (h : FirstAns r w e w') : ∃ (t : Tok) (u : Nat), e = .returned (.tuple #[.agg #[.int .i64 t.kd, .int .i64 t.n, .int .i64 t.at_, .string t.tx], .int .i64 u]) ∧ Below w.heap.size w w' ∧ ∀ w0 w1 : World, Below w0.heap.size w0 w1 → FirstAns r w0 (.returned (.tuple #[.agg #[.int .i64 t.kd, .int .i64 t.n, .int .i64 t.at_, .string t.tx], .int .i64 u])) w1 := by
  cases r with
  | none =>
    obtain ⟨hb, he⟩ := h
    exact ⟨⟨0, 0, 0, ⟨#[]⟩⟩, 0, he, hb, fun w0 w1 h1 => ⟨h1, rfl⟩⟩
  | some p =>
    obtain ⟨t, u⟩ := p
    obtain ⟨hb, he⟩ := h
    exact ⟨t, u, he, hb, fun w0 w1 h1 => ⟨h1, rfl⟩⟩
set_option maxHeartbeats 8000000 in
theorem lfirst_any (s : ByteArray) (w : World) (h0 : 0 < s.size) (hs : s.size ≤ 35184372088832) :
    Calls Tryd.prog 38 #[.string s] w (FirstAns (firstT s) w) := by
  have HB0 := Lib.hid ((Below.refl w.heap.size w).alloc (Nat.le_refl _) (.cells #[.int .i64 0, .int .i64 0, .int .i64 0, .string ⟨#[]⟩] 43))
  have HK0 := Lib.hid (Blk.mk (heap_alloc_new w (.cells #[.int .i64 0, .int .i64 0, .int .i64 0, .string ⟨#[]⟩] 43)) : Blk _ w.heap.size 43 [.int .i64 0, .int .i64 0, .int .i64 0, .string ⟨#[]⟩])
  have hhd : s.data.toList.headD 0 = s[0]'h0 := by
    rw [List.headD_eq_head?_getD, List.head?_eq_getElem?, List.getElem?_eq_getElem (by simpa using h0)]; rfl
  have HF : Hid (firstT s = if isNum s.data.toList = true then numT (numF s.data.toList) else if smallN (s[0]'h0).toNat = true then wordT s else if ((s[0]'h0).toNat == 34) = true then quotedT s.data.toList else signIn s.data.toList signsL) := Lib.hid (by unfold firstT; rw [hhd])
  have HN : Hid (isNum s.data.toList = (digitN (s[0]'h0).toNat || ((s[0]'h0).toNat == 45 && (decide (1 < s.size) && digitN ((s.data.toList.drop 1).headD 0).toNat)))) := Lib.hid (by unfold isNum; rw [hhd]; simp)
  clear hhd
  obtain ⟨b2, hb2⟩ : ∃ b, w.heap.size = b := ⟨_, rfl⟩
  obtain ⟨W1, hW1⟩ : ∃ W, w.alloc (.cells #[.int .i64 0, .int .i64 0, .int .i64 0, .string ⟨#[]⟩] 43) = W := ⟨_, rfl⟩
  rw [hW1] at HB0 HK0
  rw [hb2] at HK0
  have HB2 := Lib.hid hb2; have HW1 := Lib.hid hW1
  have hb2le : w.heap.size ≤ b2 := by rw [hb2]; exact Nat.le_refl _
  clear hb2 hW1
  have hd0 := digit_any (s[0]'h0).toNat W1
  have hsm := small_any (s[0]'h0).toNat W1
  obtain ⟨d0, hd0e⟩ : ∃ d, digitN (s[0]'h0).toNat = d := ⟨_, rfl⟩
  obtain ⟨sm, hsme⟩ : ∃ d, smallN (s[0]'h0).toNat = d := ⟨_, rfl⟩
  rw [hd0e] at hd0 HN
  rw [hsme] at hsm HF
  have HD0 := Lib.hid hd0; have HSM := Lib.hid hsm
  clear hd0 hsm hd0e hsme
  go_enter Tryd.func38, Tryd.ntmps38
  go_upto_region 1 with fail
  rw [HW1.out, HB2.out]
  cases d0 with
  | true =>
    have HE := Lib.hid (show firstT s = numT (numF s.data.toList) by rw [HF.out, HN.out, Bool.true_or, if_pos rfl])
    go_wp2_with fail
    (with_reducible refine HD0.out.mono ?_); rintro e w' ⟨rfl, rfl⟩
    go_wp2_with fail
    (with_reducible refine (lnumber_any s _ h0 hs).mono ?_); rintro e w5 hfa
    obtain ⟨t, u, rfl, hb5, hall⟩ := hfa.form
    have HB := Lib.hid (HB0.out.trans (hb5.mono HB0.out.size))
    have HK := Lib.hid (HK0.out.below hb5 HK0.out.lt)
    have HALL := Lib.hid hall
    clear hfa hb5 hall
    have HBZ := Lib.hid (set4W_below HB.out hb2le (.int .i64 t.kd) (.int .i64 t.n) (.int .i64 t.at_) (.string t.tx))
    have HKZ := Lib.hid (set4W_blk HK.out (.int .i64 t.kd) (.int .i64 t.n) (.int .i64 t.at_) (.string t.tx))
    obtain ⟨f0, f1, f2, f3⟩ : w5.frozen? ⟨b2, 0, none⟩ = false ∧ w5.frozen? ⟨b2, 1, none⟩ = false ∧ w5.frozen? ⟨b2, 2, none⟩ = false ∧ w5.frozen? ⟨b2, 3, none⟩ = false := ⟨HK.out.frozen 0, HK.out.frozen 1, HK.out.frozen 2, HK.out.frozen 3⟩
    obtain ⟨c0, c1, c2, c3⟩ := blk_cells4 HK.out
    go_wp2_with fail
    obtain ⟨q0, q1, q2, q3⟩ := blk_cells4 HKZ.out
    unfold set4W at q0 q1 q2 q3 HBZ
    refine bodyPost_ret (v := .tuple #[.agg #[.int .i64 t.kd, .int .i64 t.n, .int .i64 t.at_, .string t.tx], .int .i64 u]) (by simp [results, Tryd.results38, go_sem, q0, q1, q2, q3]) rfl ?_
    rw [HE.out]
    exact HALL.out _ _ HBZ.out
  | false =>
    by_cases h45 : (s[0]'h0).toNat = 45
    · have t45 : (((s[0]'h0).toNat : Int) == 45) = true := by rw [h45]; rfl
      by_cases h1 : 1 < s.size
      · have hh1 : (s.data.toList.drop 1).headD 0 = s[1] := by
          rw [List.headD_eq_head?_getD, List.head?_eq_getElem?, List.getElem?_drop, List.getElem?_eq_getElem (by simpa using h1)]; rfl
        have hd1 := digit_any (s[1]).toNat W1
        obtain ⟨d1, hd1e⟩ : ∃ d, digitN (s[1]).toNat = d := ⟨_, rfl⟩
        rw [hd1e] at hd1
        have HD1 := Lib.hid hd1
        have HN1 := Lib.hid (show isNum s.data.toList = d1 by rw [HN.out, hh1, hd1e, h45, decide_eq_true h1]; rfl)
        have h1i : (1 : Int) < s.size := by omega
        clear hh1 hd1 hd1e h45 HN
        cases d1 with
        | true =>
          have HE := Lib.hid (show firstT s = numT (numF s.data.toList) by rw [HF.out, HN1.out, if_pos rfl])
          go_wp2_with fail
          (with_reducible refine HD0.out.mono ?_); rintro e w' ⟨rfl, rfl⟩
          go_wp2_with fail
          (with_reducible refine HD1.out.mono ?_); rintro e w' ⟨rfl, rfl⟩
          go_wp2_with fail
          (with_reducible refine (lnumber_any s _ h0 hs).mono ?_); rintro e w5 hfa
          obtain ⟨t, u, rfl, hb5, hall⟩ := hfa.form
          have HB := Lib.hid (HB0.out.trans (hb5.mono HB0.out.size))
          have HK := Lib.hid (HK0.out.below hb5 HK0.out.lt)
          have HALL := Lib.hid hall
          clear hfa hb5 hall
          have HBZ := Lib.hid (set4W_below HB.out hb2le (.int .i64 t.kd) (.int .i64 t.n) (.int .i64 t.at_) (.string t.tx))
          have HKZ := Lib.hid (set4W_blk HK.out (.int .i64 t.kd) (.int .i64 t.n) (.int .i64 t.at_) (.string t.tx))
          obtain ⟨f0, f1, f2, f3⟩ : w5.frozen? ⟨b2, 0, none⟩ = false ∧ w5.frozen? ⟨b2, 1, none⟩ = false ∧ w5.frozen? ⟨b2, 2, none⟩ = false ∧ w5.frozen? ⟨b2, 3, none⟩ = false := ⟨HK.out.frozen 0, HK.out.frozen 1, HK.out.frozen 2, HK.out.frozen 3⟩
          obtain ⟨c0, c1, c2, c3⟩ := blk_cells4 HK.out
          go_wp2_with fail
          obtain ⟨q0, q1, q2, q3⟩ := blk_cells4 HKZ.out
          unfold set4W at q0 q1 q2 q3 HBZ
          refine bodyPost_ret (v := .tuple #[.agg #[.int .i64 t.kd, .int .i64 t.n, .int .i64 t.at_, .string t.tx], .int .i64 u]) (by simp [results, Tryd.results38, go_sem, q0, q1, q2, q3]) rfl ?_
          rw [HE.out]
          exact HALL.out _ _ HBZ.out
        | false =>
          have HNU := HN1
          clear HN1
          cases sm with
          | true =>
            have HE := Lib.hid (show firstT s = wordT s by rw [HF.out, HNU.out, if_neg (by simp), if_pos rfl])
            go_wp2_with fail
            (with_reducible refine HD0.out.mono ?_); rintro e w' ⟨rfl, rfl⟩
            go_wp2_with fail
            (with_reducible refine HD1.out.mono ?_); rintro e w' ⟨rfl, rfl⟩
            go_wp2_with fail
            (with_reducible refine HSM.out.mono ?_); rintro e w' ⟨rfl, rfl⟩
            go_wp2_with fail
            (with_reducible refine (lword_any s _ h0 hs).mono ?_); rintro e w5 hfa
            obtain ⟨t, u, rfl, hb5, hall⟩ := hfa.form
            have HB := Lib.hid (HB0.out.trans (hb5.mono HB0.out.size))
            have HK := Lib.hid (HK0.out.below hb5 HK0.out.lt)
            have HALL := Lib.hid hall
            clear hfa hb5 hall
            have HBZ := Lib.hid (set4W_below HB.out hb2le (.int .i64 t.kd) (.int .i64 t.n) (.int .i64 t.at_) (.string t.tx))
            have HKZ := Lib.hid (set4W_blk HK.out (.int .i64 t.kd) (.int .i64 t.n) (.int .i64 t.at_) (.string t.tx))
            obtain ⟨f0, f1, f2, f3⟩ : w5.frozen? ⟨b2, 0, none⟩ = false ∧ w5.frozen? ⟨b2, 1, none⟩ = false ∧ w5.frozen? ⟨b2, 2, none⟩ = false ∧ w5.frozen? ⟨b2, 3, none⟩ = false := ⟨HK.out.frozen 0, HK.out.frozen 1, HK.out.frozen 2, HK.out.frozen 3⟩
            obtain ⟨c0, c1, c2, c3⟩ := blk_cells4 HK.out
            go_wp2_with fail
            obtain ⟨q0, q1, q2, q3⟩ := blk_cells4 HKZ.out
            unfold set4W at q0 q1 q2 q3 HBZ
            refine bodyPost_ret (v := .tuple #[.agg #[.int .i64 t.kd, .int .i64 t.n, .int .i64 t.at_, .string t.tx], .int .i64 u]) (by simp [results, Tryd.results38, go_sem, q0, q1, q2, q3]) rfl ?_
            rw [HE.out]
            exact HALL.out _ _ HBZ.out
          | false =>
            by_cases h34 : (s[0]'h0).toNat = 34
            · have HE := Lib.hid (show firstT s = quotedT s.data.toList by rw [HF.out, HNU.out, if_neg (by simp), if_neg (by simp), if_pos (by rw [h34]; rfl)])
              have t34 : (((s[0]'h0).toNat : Int) == 34) = true := by rw [h34]; rfl
              clear h34
              go_wp2_with fail
              (with_reducible refine HD0.out.mono ?_); rintro e w' ⟨rfl, rfl⟩
              go_wp2_with fail
              (with_reducible refine HD1.out.mono ?_); rintro e w' ⟨rfl, rfl⟩
              go_wp2_with fail
              (with_reducible refine HSM.out.mono ?_); rintro e w' ⟨rfl, rfl⟩
              go_wp2_with fail
              (with_reducible refine (lquoted_any s _ h0 hs).mono ?_); rintro e w5 hfa
              obtain ⟨t, u, rfl, hb5, hall⟩ := hfa.form
              have HB := Lib.hid (HB0.out.trans (hb5.mono HB0.out.size))
              have HK := Lib.hid (HK0.out.below hb5 HK0.out.lt)
              have HALL := Lib.hid hall
              clear hfa hb5 hall
              have HBZ := Lib.hid (set4W_below HB.out hb2le (.int .i64 t.kd) (.int .i64 t.n) (.int .i64 t.at_) (.string t.tx))
              have HKZ := Lib.hid (set4W_blk HK.out (.int .i64 t.kd) (.int .i64 t.n) (.int .i64 t.at_) (.string t.tx))
              obtain ⟨f0, f1, f2, f3⟩ : w5.frozen? ⟨b2, 0, none⟩ = false ∧ w5.frozen? ⟨b2, 1, none⟩ = false ∧ w5.frozen? ⟨b2, 2, none⟩ = false ∧ w5.frozen? ⟨b2, 3, none⟩ = false := ⟨HK.out.frozen 0, HK.out.frozen 1, HK.out.frozen 2, HK.out.frozen 3⟩
              obtain ⟨c0, c1, c2, c3⟩ := blk_cells4 HK.out
              go_wp2_with fail
              obtain ⟨q0, q1, q2, q3⟩ := blk_cells4 HKZ.out
              unfold set4W at q0 q1 q2 q3 HBZ
              refine bodyPost_ret (v := .tuple #[.agg #[.int .i64 t.kd, .int .i64 t.n, .int .i64 t.at_, .string t.tx], .int .i64 u]) (by simp [results, Tryd.results38, go_sem, q0, q1, q2, q3]) rfl ?_
              rw [HE.out]
              exact HALL.out _ _ HBZ.out
            · have HE := Lib.hid (show firstT s = signIn s.data.toList signsL by rw [HF.out, HNU.out, if_neg (by simp), if_neg (by simp), if_neg (by simpa using h34)])
              have t34 : (((s[0]'h0).toNat : Int) == 34) = false := by rw [beq_eq_false_iff_ne]; omega
              clear h34
              go_wp2_with fail
              (with_reducible refine HD0.out.mono ?_); rintro e w' ⟨rfl, rfl⟩
              go_wp2_with fail
              (with_reducible refine HD1.out.mono ?_); rintro e w' ⟨rfl, rfl⟩
              go_wp2_with fail
              (with_reducible refine HSM.out.mono ?_); rintro e w' ⟨rfl, rfl⟩
              go_wp2_with fail
              (with_reducible refine (lsign_any s _ hs).mono ?_); rintro e w5 hfa
              obtain ⟨t, u, rfl, hb5, hall⟩ := hfa.form
              have HB := Lib.hid (HB0.out.trans (hb5.mono HB0.out.size))
              have HK := Lib.hid (HK0.out.below hb5 HK0.out.lt)
              have HALL := Lib.hid hall
              clear hfa hb5 hall
              have HBZ := Lib.hid (set4W_below HB.out hb2le (.int .i64 t.kd) (.int .i64 t.n) (.int .i64 t.at_) (.string t.tx))
              have HKZ := Lib.hid (set4W_blk HK.out (.int .i64 t.kd) (.int .i64 t.n) (.int .i64 t.at_) (.string t.tx))
              obtain ⟨f0, f1, f2, f3⟩ : w5.frozen? ⟨b2, 0, none⟩ = false ∧ w5.frozen? ⟨b2, 1, none⟩ = false ∧ w5.frozen? ⟨b2, 2, none⟩ = false ∧ w5.frozen? ⟨b2, 3, none⟩ = false := ⟨HK.out.frozen 0, HK.out.frozen 1, HK.out.frozen 2, HK.out.frozen 3⟩
              obtain ⟨c0, c1, c2, c3⟩ := blk_cells4 HK.out
              go_wp2_with fail
              obtain ⟨q0, q1, q2, q3⟩ := blk_cells4 HKZ.out
              unfold set4W at q0 q1 q2 q3 HBZ
              refine bodyPost_ret (v := .tuple #[.agg #[.int .i64 t.kd, .int .i64 t.n, .int .i64 t.at_, .string t.tx], .int .i64 u]) (by simp [results, Tryd.results38, go_sem, q0, q1, q2, q3]) rfl ?_
              rw [HE.out]
              exact HALL.out _ _ HBZ.out
      · have HNU := Lib.hid (show isNum s.data.toList = false by rw [HN.out, decide_eq_false h1]; simp)
        have h1i : (s.size : Int) ≤ 1 := by omega
        clear h45 HN
        cases sm with
        | true =>
          have HE := Lib.hid (show firstT s = wordT s by rw [HF.out, HNU.out, if_neg (by simp), if_pos rfl])
          go_wp2_with fail
          (with_reducible refine HD0.out.mono ?_); rintro e w' ⟨rfl, rfl⟩
          go_wp2_with fail
          (with_reducible refine HSM.out.mono ?_); rintro e w' ⟨rfl, rfl⟩
          go_wp2_with fail
          (with_reducible refine (lword_any s _ h0 hs).mono ?_); rintro e w5 hfa
          obtain ⟨t, u, rfl, hb5, hall⟩ := hfa.form
          have HB := Lib.hid (HB0.out.trans (hb5.mono HB0.out.size))
          have HK := Lib.hid (HK0.out.below hb5 HK0.out.lt)
          have HALL := Lib.hid hall
          clear hfa hb5 hall
          have HBZ := Lib.hid (set4W_below HB.out hb2le (.int .i64 t.kd) (.int .i64 t.n) (.int .i64 t.at_) (.string t.tx))
          have HKZ := Lib.hid (set4W_blk HK.out (.int .i64 t.kd) (.int .i64 t.n) (.int .i64 t.at_) (.string t.tx))
          obtain ⟨f0, f1, f2, f3⟩ : w5.frozen? ⟨b2, 0, none⟩ = false ∧ w5.frozen? ⟨b2, 1, none⟩ = false ∧ w5.frozen? ⟨b2, 2, none⟩ = false ∧ w5.frozen? ⟨b2, 3, none⟩ = false := ⟨HK.out.frozen 0, HK.out.frozen 1, HK.out.frozen 2, HK.out.frozen 3⟩
          obtain ⟨c0, c1, c2, c3⟩ := blk_cells4 HK.out
          go_wp2_with fail
          obtain ⟨q0, q1, q2, q3⟩ := blk_cells4 HKZ.out
          unfold set4W at q0 q1 q2 q3 HBZ
          refine bodyPost_ret (v := .tuple #[.agg #[.int .i64 t.kd, .int .i64 t.n, .int .i64 t.at_, .string t.tx], .int .i64 u]) (by simp [results, Tryd.results38, go_sem, q0, q1, q2, q3]) rfl ?_
          rw [HE.out]
          exact HALL.out _ _ HBZ.out
        | false =>
          by_cases h34 : (s[0]'h0).toNat = 34
          · have HE := Lib.hid (show firstT s = quotedT s.data.toList by rw [HF.out, HNU.out, if_neg (by simp), if_neg (by simp), if_pos (by rw [h34]; rfl)])
            have t34 : (((s[0]'h0).toNat : Int) == 34) = true := by rw [h34]; rfl
            clear h34
            go_wp2_with fail
            (with_reducible refine HD0.out.mono ?_); rintro e w' ⟨rfl, rfl⟩
            go_wp2_with fail
            (with_reducible refine HSM.out.mono ?_); rintro e w' ⟨rfl, rfl⟩
            go_wp2_with fail
            (with_reducible refine (lquoted_any s _ h0 hs).mono ?_); rintro e w5 hfa
            obtain ⟨t, u, rfl, hb5, hall⟩ := hfa.form
            have HB := Lib.hid (HB0.out.trans (hb5.mono HB0.out.size))
            have HK := Lib.hid (HK0.out.below hb5 HK0.out.lt)
            have HALL := Lib.hid hall
            clear hfa hb5 hall
            have HBZ := Lib.hid (set4W_below HB.out hb2le (.int .i64 t.kd) (.int .i64 t.n) (.int .i64 t.at_) (.string t.tx))
            have HKZ := Lib.hid (set4W_blk HK.out (.int .i64 t.kd) (.int .i64 t.n) (.int .i64 t.at_) (.string t.tx))
            obtain ⟨f0, f1, f2, f3⟩ : w5.frozen? ⟨b2, 0, none⟩ = false ∧ w5.frozen? ⟨b2, 1, none⟩ = false ∧ w5.frozen? ⟨b2, 2, none⟩ = false ∧ w5.frozen? ⟨b2, 3, none⟩ = false := ⟨HK.out.frozen 0, HK.out.frozen 1, HK.out.frozen 2, HK.out.frozen 3⟩
            obtain ⟨c0, c1, c2, c3⟩ := blk_cells4 HK.out
            go_wp2_with fail
            obtain ⟨q0, q1, q2, q3⟩ := blk_cells4 HKZ.out
            unfold set4W at q0 q1 q2 q3 HBZ
            refine bodyPost_ret (v := .tuple #[.agg #[.int .i64 t.kd, .int .i64 t.n, .int .i64 t.at_, .string t.tx], .int .i64 u]) (by simp [results, Tryd.results38, go_sem, q0, q1, q2, q3]) rfl ?_
            rw [HE.out]
            exact HALL.out _ _ HBZ.out
          · have HE := Lib.hid (show firstT s = signIn s.data.toList signsL by rw [HF.out, HNU.out, if_neg (by simp), if_neg (by simp), if_neg (by simpa using h34)])
            have t34 : (((s[0]'h0).toNat : Int) == 34) = false := by rw [beq_eq_false_iff_ne]; omega
            clear h34
            go_wp2_with fail
            (with_reducible refine HD0.out.mono ?_); rintro e w' ⟨rfl, rfl⟩
            go_wp2_with fail
            (with_reducible refine HSM.out.mono ?_); rintro e w' ⟨rfl, rfl⟩
            go_wp2_with fail
            (with_reducible refine (lsign_any s _ hs).mono ?_); rintro e w5 hfa
            obtain ⟨t, u, rfl, hb5, hall⟩ := hfa.form
            have HB := Lib.hid (HB0.out.trans (hb5.mono HB0.out.size))
            have HK := Lib.hid (HK0.out.below hb5 HK0.out.lt)
            have HALL := Lib.hid hall
            clear hfa hb5 hall
            have HBZ := Lib.hid (set4W_below HB.out hb2le (.int .i64 t.kd) (.int .i64 t.n) (.int .i64 t.at_) (.string t.tx))
            have HKZ := Lib.hid (set4W_blk HK.out (.int .i64 t.kd) (.int .i64 t.n) (.int .i64 t.at_) (.string t.tx))
            obtain ⟨f0, f1, f2, f3⟩ : w5.frozen? ⟨b2, 0, none⟩ = false ∧ w5.frozen? ⟨b2, 1, none⟩ = false ∧ w5.frozen? ⟨b2, 2, none⟩ = false ∧ w5.frozen? ⟨b2, 3, none⟩ = false := ⟨HK.out.frozen 0, HK.out.frozen 1, HK.out.frozen 2, HK.out.frozen 3⟩
            obtain ⟨c0, c1, c2, c3⟩ := blk_cells4 HK.out
            go_wp2_with fail
            obtain ⟨q0, q1, q2, q3⟩ := blk_cells4 HKZ.out
            unfold set4W at q0 q1 q2 q3 HBZ
            refine bodyPost_ret (v := .tuple #[.agg #[.int .i64 t.kd, .int .i64 t.n, .int .i64 t.at_, .string t.tx], .int .i64 u]) (by simp [results, Tryd.results38, go_sem, q0, q1, q2, q3]) rfl ?_
            rw [HE.out]
            exact HALL.out _ _ HBZ.out
    · have t45 : (((s[0]'h0).toNat : Int) == 45) = false := by rw [beq_eq_false_iff_ne]; omega
      have HNU := Lib.hid (show isNum s.data.toList = false by rw [HN.out, beq_eq_false_iff_ne.2 h45]; rfl)
      clear h45 HN
      cases sm with
      | true =>
        have HE := Lib.hid (show firstT s = wordT s by rw [HF.out, HNU.out, if_neg (by simp), if_pos rfl])
        go_wp2_with fail
        (with_reducible refine HD0.out.mono ?_); rintro e w' ⟨rfl, rfl⟩
        go_wp2_with fail
        (with_reducible refine HSM.out.mono ?_); rintro e w' ⟨rfl, rfl⟩
        go_wp2_with fail
        (with_reducible refine (lword_any s _ h0 hs).mono ?_); rintro e w5 hfa
        obtain ⟨t, u, rfl, hb5, hall⟩ := hfa.form
        have HB := Lib.hid (HB0.out.trans (hb5.mono HB0.out.size))
        have HK := Lib.hid (HK0.out.below hb5 HK0.out.lt)
        have HALL := Lib.hid hall
        clear hfa hb5 hall
        have HBZ := Lib.hid (set4W_below HB.out hb2le (.int .i64 t.kd) (.int .i64 t.n) (.int .i64 t.at_) (.string t.tx))
        have HKZ := Lib.hid (set4W_blk HK.out (.int .i64 t.kd) (.int .i64 t.n) (.int .i64 t.at_) (.string t.tx))
        obtain ⟨f0, f1, f2, f3⟩ : w5.frozen? ⟨b2, 0, none⟩ = false ∧ w5.frozen? ⟨b2, 1, none⟩ = false ∧ w5.frozen? ⟨b2, 2, none⟩ = false ∧ w5.frozen? ⟨b2, 3, none⟩ = false := ⟨HK.out.frozen 0, HK.out.frozen 1, HK.out.frozen 2, HK.out.frozen 3⟩
        obtain ⟨c0, c1, c2, c3⟩ := blk_cells4 HK.out
        go_wp2_with fail
        obtain ⟨q0, q1, q2, q3⟩ := blk_cells4 HKZ.out
        unfold set4W at q0 q1 q2 q3 HBZ
        refine bodyPost_ret (v := .tuple #[.agg #[.int .i64 t.kd, .int .i64 t.n, .int .i64 t.at_, .string t.tx], .int .i64 u]) (by simp [results, Tryd.results38, go_sem, q0, q1, q2, q3]) rfl ?_
        rw [HE.out]
        exact HALL.out _ _ HBZ.out
      | false =>
        by_cases h34 : (s[0]'h0).toNat = 34
        · have HE := Lib.hid (show firstT s = quotedT s.data.toList by rw [HF.out, HNU.out, if_neg (by simp), if_neg (by simp), if_pos (by rw [h34]; rfl)])
          have t34 : (((s[0]'h0).toNat : Int) == 34) = true := by rw [h34]; rfl
          clear h34
          go_wp2_with fail
          (with_reducible refine HD0.out.mono ?_); rintro e w' ⟨rfl, rfl⟩
          go_wp2_with fail
          (with_reducible refine HSM.out.mono ?_); rintro e w' ⟨rfl, rfl⟩
          go_wp2_with fail
          (with_reducible refine (lquoted_any s _ h0 hs).mono ?_); rintro e w5 hfa
          obtain ⟨t, u, rfl, hb5, hall⟩ := hfa.form
          have HB := Lib.hid (HB0.out.trans (hb5.mono HB0.out.size))
          have HK := Lib.hid (HK0.out.below hb5 HK0.out.lt)
          have HALL := Lib.hid hall
          clear hfa hb5 hall
          have HBZ := Lib.hid (set4W_below HB.out hb2le (.int .i64 t.kd) (.int .i64 t.n) (.int .i64 t.at_) (.string t.tx))
          have HKZ := Lib.hid (set4W_blk HK.out (.int .i64 t.kd) (.int .i64 t.n) (.int .i64 t.at_) (.string t.tx))
          obtain ⟨f0, f1, f2, f3⟩ : w5.frozen? ⟨b2, 0, none⟩ = false ∧ w5.frozen? ⟨b2, 1, none⟩ = false ∧ w5.frozen? ⟨b2, 2, none⟩ = false ∧ w5.frozen? ⟨b2, 3, none⟩ = false := ⟨HK.out.frozen 0, HK.out.frozen 1, HK.out.frozen 2, HK.out.frozen 3⟩
          obtain ⟨c0, c1, c2, c3⟩ := blk_cells4 HK.out
          go_wp2_with fail
          obtain ⟨q0, q1, q2, q3⟩ := blk_cells4 HKZ.out
          unfold set4W at q0 q1 q2 q3 HBZ
          refine bodyPost_ret (v := .tuple #[.agg #[.int .i64 t.kd, .int .i64 t.n, .int .i64 t.at_, .string t.tx], .int .i64 u]) (by simp [results, Tryd.results38, go_sem, q0, q1, q2, q3]) rfl ?_
          rw [HE.out]
          exact HALL.out _ _ HBZ.out
        · have HE := Lib.hid (show firstT s = signIn s.data.toList signsL by rw [HF.out, HNU.out, if_neg (by simp), if_neg (by simp), if_neg (by simpa using h34)])
          have t34 : (((s[0]'h0).toNat : Int) == 34) = false := by rw [beq_eq_false_iff_ne]; omega
          clear h34
          go_wp2_with fail
          (with_reducible refine HD0.out.mono ?_); rintro e w' ⟨rfl, rfl⟩
          go_wp2_with fail
          (with_reducible refine HSM.out.mono ?_); rintro e w' ⟨rfl, rfl⟩
          go_wp2_with fail
          (with_reducible refine (lsign_any s _ hs).mono ?_); rintro e w5 hfa
          obtain ⟨t, u, rfl, hb5, hall⟩ := hfa.form
          have HB := Lib.hid (HB0.out.trans (hb5.mono HB0.out.size))
          have HK := Lib.hid (HK0.out.below hb5 HK0.out.lt)
          have HALL := Lib.hid hall
          clear hfa hb5 hall
          have HBZ := Lib.hid (set4W_below HB.out hb2le (.int .i64 t.kd) (.int .i64 t.n) (.int .i64 t.at_) (.string t.tx))
          have HKZ := Lib.hid (set4W_blk HK.out (.int .i64 t.kd) (.int .i64 t.n) (.int .i64 t.at_) (.string t.tx))
          obtain ⟨f0, f1, f2, f3⟩ : w5.frozen? ⟨b2, 0, none⟩ = false ∧ w5.frozen? ⟨b2, 1, none⟩ = false ∧ w5.frozen? ⟨b2, 2, none⟩ = false ∧ w5.frozen? ⟨b2, 3, none⟩ = false := ⟨HK.out.frozen 0, HK.out.frozen 1, HK.out.frozen 2, HK.out.frozen 3⟩
          obtain ⟨c0, c1, c2, c3⟩ := blk_cells4 HK.out
          go_wp2_with fail
          obtain ⟨q0, q1, q2, q3⟩ := blk_cells4 HKZ.out
          unfold set4W at q0 q1 q2 q3 HBZ
          refine bodyPost_ret (v := .tuple #[.agg #[.int .i64 t.kd, .int .i64 t.n, .int .i64 t.at_, .string t.tx], .int .i64 u]) (by simp [results, Tryd.results38, go_sem, q0, q1, q2, q3]) rfl ?_
          rw [HE.out]
          exact HALL.out _ _ HBZ.out
end Go.Proofs.YtnkbpcenkbihpaaDoor
