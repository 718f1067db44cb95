/- The walk of SpanTurns, out of the contracts. -/
import Derived.Test.YtakgkggkfdbejaaSpanRef
import Derived.Deep.CutBlock
namespace Go.Proofs.Ytakgkggkfdbejaa
open Go.ChangeShapes Go.WideShapes Go.ChangeAt Go.RowKit
set_option linter.unusedVariables false
set_option maxRecDepth 100000
theorem rise_mem {lo : Int} {l : List (Int × Int)} (h : Rise lo l) {y : Int × Int} (hy : y ∈ l) : lo ≤ y.1 ∧ y.1 ≤ y.2 := by
  induction l generalizing lo with
  | nil => cases hy
  | cons x r ih =>
    rcases List.mem_cons.1 hy with rfl | hy
    · exact ⟨h.1, h.2.1⟩
    · have := ih h.2.2 hy; have := h.1; have := h.2.1; omega
theorem inL_mem {l : List (Int × Int)} {y : Int × Int} (hy : y ∈ l) {t : Int} (h1 : y.1 ≤ t) (h2 : t ≤ y.2) : InL l t := by
  induction l with
  | nil => cases hy
  | cons x r ih =>
    rcases List.mem_cons.1 hy with rfl | hy
    · exact .inl ⟨h1, h2⟩
    · exact .inr (ih hy)
theorem clip_id {l : List (Int × Int)} (h : ∀ y ∈ l, 0 ≤ y.1 ∧ y.1 ≤ y.2 ∧ y.2 ≤ 199) : clip l = l := by
  induction l with
  | nil => rfl
  | cons x r ih =>
    have hx := h x (by simp)
    have h1 : clip (x :: r) = clip [x] ++ clip r := by simp [clip]
    rw [h1, ih fun y hy => h y (by simp [hy]), show x = (x.1, x.2) from rfl, clip_one hx.1 hx.2.1 hx.2.2]; rfl
theorem spK_bnd (bs : List Bool) {k : Nat} (hk : k ≤ 200) : ∀ y ∈ spK bs k, 0 ≤ y.1 ∧ y.1 ≤ y.2 ∧ y.2 ≤ 199 := fun y hy => by
  have h1 := rise_mem (spK_spec bs k).2.1 hy
  have h2 := (spK_spec bs k).2.2 y hy
  omega
theorem spK_has (bs : List Bool) (k i : Nat) (hi : i < k) : hasF (spK bs k) i = bs.getD i false := by
  have h := (spK_spec bs k).1 i
  cases hb : bs.getD i false with
  | true => exact (inL_iff _ _).2 (h.2 ⟨i, hi, rfl, hb⟩)
  | false =>
    cases hh : hasF (spK bs k) i with
    | false => rfl
    | true =>
      obtain ⟨j, h1, h2, h3⟩ := h.1 ((inL_iff _ _).1 hh)
      obtain rfl : i = j := by omega
      rw [hb] at h3; cases h3
theorem less_sp (x y : List Bool) : lessT (spK y 60) (spK x 60) = lessF (spK y 60) (spK x 60) := by
  unfold lessT
  rw [clip_id (spK_bnd y (by omega)), clip_id (spK_bnd x (by omega))]
theorem less_sp_bnd (x y : List Bool) : ∀ z ∈ lessF (spK y 60) (spK x 60), 0 ≤ z.1 ∧ z.1 ≤ z.2 ∧ z.2 ≤ 199 := fun z hz => by
  obtain ⟨h1, h2⟩ := lessF_spec (spK y 60) 0 (spK_spec y 60).2.1 (spK x 60) 0 (spK_spec x 60).2.1
  have h3 := rise_mem h2 hz
  obtain ⟨⟩ := h1 z.2
  have h4 := ((h1 z.2).1 (inL_mem hz h3.2 (Int.le_refl _))).1
  obtain ⟨j, h5, h6, _⟩ := ((spK_spec y 60).1 z.2).1 h4
  omega
theorem less_sp_not (x y : List Bool) {t : Int} (h : hasF (lessF (spK y 60) (spK x 60)) t = true) : hasF (spK x 60) t = false := by
  obtain ⟨h1, _⟩ := lessF_spec (spK y 60) 0 (spK_spec y 60).2.1 (spK x 60) 0 (spK_spec x 60).2.1
  have h2 := ((h1 t).1 ((inL_iff _ _).1 h)).2
  cases hh : hasF (spK x 60) t with
  | false => rfl
  | true => exact (h2 ((inL_iff _ _).1 hh)).elim
theorem state_pend_is (p f : List (Int × Int)) (t : Int) : (stateF p f t == 1) = hasF p t := by
  unfold stateF
  cases h1 : hasF p t <;> cases h2 : hasF f t <;> simp
theorem state_fire_is (p f : List (Int × Int)) (t : Int) (h : hasF f t = true → hasF p t = false) : (stateF p f t == 2) = hasF f t := by
  unfold stateF
  cases h2 : hasF f t with
  | true => rw [h h2]; simp
  | false => cases h1 : hasF p t <;> simp
theorem turnsG_ge (p f : List (Int × Int)) : ∀ (n : Nat) (a t : Int), ∀ z ∈ turnsG p f a t n, t ≤ z.1
  | 0, _, _, z, hz => by cases hz
  | n + 1, a, t, z, hz => by
    rw [turnsG] at hz
    rcases List.mem_append.1 hz with hz | hz
    · split at hz
      · cases hz
      · rw [List.mem_singleton] at hz; subst hz; exact Int.le_refl _
    · have := turnsG_ge p f n _ (t + 1) z hz; omega
theorem turnsG_len (p f : List (Int × Int)) : ∀ (n : Nat) (a t : Int), (turnsG p f a t n).length ≤ n
  | 0, _, _ => by simp [turnsG]
  | n + 1, a, t => by
    have := turnsG_len p f n (stateF p f t) (t + 1)
    rw [turnsG, List.length_append]
    split
    · simp; omega
    · simp; omega
theorem rise_len {lo hi : Int} {l : List (Int × Int)} (h : Rise lo l) (hh : ∀ y ∈ l, y.2 ≤ hi) : l = [] ∨ lo + 2 * (l.length : Int) ≤ hi + 2 := by
  induction l generalizing lo with
  | nil => exact .inl rfl
  | cons x r ih =>
    have h1 := h.1; have h2 := h.2.1
    have h3 := hh x (by simp)
    rcases ih h.2.2 (fun y hy => hh y (by simp [hy])) with rfl | h4
    · right; simp; omega
    · right; rw [List.length_cons]; omega
theorem less_sp_len (x y : List Bool) : (lessF (spK y 60) (spK x 60)).length ≤ 1000 := by
  obtain ⟨_, h2⟩ := lessF_spec (spK y 60) 0 (spK_spec y 60).2.1 (spK x 60) 0 (spK_spec x 60).2.1
  rcases rise_len h2 (hi := 199) (fun z hz => (less_sp_bnd x y z hz).2.2) with h | h
  · rw [h]; simp
  · omega
set_option maxHeartbeats 8000000 in
theorem span_turns (A A2 : Option Addr) (n c n2 c2 : Nat) (za zb : List Int) (n0 : Int) (w : World) (ha : Sees w w.heap.size 1 A n (ints za)) (hb : Sees w w.heap.size 1 A2 n2 (ints zb)) (wa : ∀ z ∈ za, I64 z) (wb : ∀ z ∈ zb, I64 z) (hn : n ≤ 9223372036854775807) (hn2 : n2 ≤ 9223372036854775807) (wn : I64 n0) :
    Calls Try.prog 6 #[.slice A n c, .slice A2 n2 c2, .int .i64 n0] w fun e w' => e = .returned (.bool true) ∧ Below w.heap.size w w' := by
  have WN := Lib.hid wn; have HSB := Lib.hid hb; have WB := Lib.hid wb
  have HF1 := Lib.hid (flags_any A n c za _ w ha wa (Nat.le_refl _) hn)
  obtain ⟨hk1, hk2⟩ := nWithin_in n0 (lo := 0) (hi := 60) (by omega)
  have hxl := flagsL_len za
  clear wn ha hb wa wb
  generalize flagsL za = x at *
  go_enter Try.func6, Try.ntmps6
  go_wp2_with fail
  refine HF1.out.mono ?_; rintro e w1 ⟨AX, AP, cp, rfl, hx1, hp1, hb1, hcp, _⟩
  have HX1 := Lib.hid hx1; have HP1 := Lib.hid hp1; have HB1 := Lib.hid hb1
  have HF2 := Lib.hid (flags_any A2 n2 c2 zb _ w1 (HSB.out.below hb1) WB.out hb1.size hn2)
  have hs1 := hb1.size
  have hpl := spK_len x 60
  generalize flagsL zb = y at *
  clear hx1 hp1 hb1 HF1 HSB WB
  go_wp2_with fail
  refine HF2.out.mono ?_; rintro e w2 ⟨AY, AQ, cq, rfl, hy2, hq2, hb2, hcq, _⟩
  have HX2 := Lib.hid (HX1.out.below hb2); have HP2 := Lib.hid (HP1.out.below hb2); have HQ2 := Lib.hid hq2
  have HB2 := Lib.hid (HB1.out.trans (hb2.mono hs1))
  have hs12 := hb2.size
  have hql := spK_len y 60
  clear hy2 hq2 hb2 HX1 HP1 HB1 HF2
  go_wp2_with fail
  refine (less_any AQ AP _ cq _ cp (spK y 60) (spK x 60) w2.heap.size w2 HQ2.out (HP2.out.more hs12) (Nat.le_refl _) (by omega) (by omega)).mono ?_; rintro e w3 ⟨AF, cf, rfl, hown3, hbel3, hcf, _⟩
  rw [less_sp] at hown3 hcf
  rw [less_sp]
  have HF3 := Lib.hid (Sees.of_own hown3)
  have HX3 := Lib.hid (HX2.out.below (hbel3.mono hs12)); have HP3 := Lib.hid (HP2.out.below (hbel3.mono hs12))
  have HB3 := Lib.hid (HB2.out.trans (hbel3.mono HB2.out.size))
  have hs23 := hbel3.size
  have HCF := Lib.hid (clip_id (less_sp_bnd x y))
  have HCP := Lib.hid (clip_id (spK_bnd x (k := 60) (by omega)))
  have HNOT := Lib.hid (fun t h => less_sp_not x y (t := t) h)
  have HPB := Lib.hid (fun i h => spK_has x 60 i h)
  have hfl : (lessF (spK y 60) (spK x 60)).length ≤ 1000 := less_sp_len x y
  clear hown3 hbel3 HX2 HP2 HQ2 HB2
  generalize lessF (spK y 60) (spK x 60) = f at *
  generalize spK x 60 = p at *
  go_wp2_with fail
  refine (within_any n0 0 60 _ WN.out (by omega) (by omega) (by omega)).mono ?_; rintro e w' ⟨rfl, rfl⟩
  generalize nWithin n0 0 60 = k at *
  obtain ⟨K, rfl⟩ := Int.eq_ofNat_of_zero_le hk1
  have hKN : turnsN K = K := by have := turnsN_of hk1 (by omega : (K : Int) ≤ 200); omega
  go_wp2_with fail
  refine (turns_any AP AF _ cp _ cf p f (K : Int) w3.heap.size w3 (HP3.out.more (by omega)) HF3.out (Nat.le_refl _) (by omega) (by omega)).mono ?_; rintro e w4 ⟨AL, cl, rfl, hown4, hbel4, hcl, _⟩
  rw [HCP.out, HCF.out, hKN] at hown4 hcl
  rw [HCP.out, HCF.out, hKN]
  have HL4 := Lib.hid (Sees.of_own hown4)
  have HF4 := Lib.hid (HF3.out.below hbel4); have HX4 := Lib.hid (HX3.out.below (hbel4.mono (by omega)))
  have HB4 := Lib.hid (HB3.out.trans (hbel4.mono HB3.out.size))
  have hs34 := hbel4.size
  have hll := turnsG_len p f K 0 0
  have HTL := Lib.hid (show turnsG p f 0 0 K = turnsG p f 0 0 K from rfl)
  clear hown4 hbel4 HX3 HP3 HF3 HB3 hKN HCP HCF
  generalize htl : turnsG p f 0 0 K = tl at *
  have HTT := Lib.hid htl; clear htl HTL
  generalize hL : tl.length = L at *
  have HLL := Lib.hid hL; clear hL
  generalize hf' : f.length = nf at *
  have HNF := Lib.hid hf'; clear hf'
  go_wp2_with fail
  go_loopg [14, 15, 16] K (fun g x14 x15 x16 wr => ∃ (i at_ : Nat) (s : Int), i + g = K ∧ x16 = .int .i64 i ∧ x14 = .int .i64 s ∧ x15 = .int .i64 at_ ∧ at_ ≤ L ∧ tl.drop at_ = turnsG p f s i g ∧ Below w4.heap.size w4 wr)
  case atStart => exact ⟨0, 0, 0, by omega, rfl, rfl, rfl, Nat.zero_le _, by simpa using HTT.out.symm, Below.refl _ _⟩
  case round =>
    obtain ⟨i, at_, s, hig, rfl, rfl, rfl, hatL, hdr, hbel⟩ := hrel
    have HD := Lib.hid hdr; have HB := Lib.hid hbel
    have hsr := hbel.size
    clear hdr hbel
    cases gk with
    | zero =>
      have hat : at_ = L := by
        have h := HD.out
        rw [turnsG] at h
        have h2 := List.drop_eq_nil_iff.1 h
        have := HLL.out
        omega
      obtain rfl : i = K := by omega
      subst hat
      have hb : ((at_ : Int) == at_) = true := by simp
      have HBZ := Lib.hid (HB4.out.trans (HB.out.mono (Nat.le_trans HB4.out.size (Nat.le_refl _))))
      clear HB HB4
      go_wp2_with fail
      refine (span_runs _).mono ?_; rintro e w9 ⟨rfl, hb9⟩
      have HB9 := Lib.hid (HBZ.out.trans (hb9.mono HBZ.out.size))
      clear hb9 HBZ
      go_wp2_with fail
      go_ret
      exact ⟨rfl, HB9.out⟩
    | succ g =>
      have hiK : (i : Int) < K := by omega
      have hi60 : i < 60 := by omega
      obtain ⟨adx, hxi, rfl, hcx⟩ := (HX4.out.below (HB.out.mono (by omega))).bool hi60
      have hbx : hasF p i = x[i] := by rw [HPB.out i hi60]; simp [List.getD_eq_getElem?_getD, List.getElem?_eq_getElem hxi]
      have hax := World.block_lt_of_cell? wr _ hcx
      obtain ⟨s2, hs2⟩ : ∃ s2, stateF p f i = s2 := ⟨_, rfl⟩
      have HE1 := state_pend_is p f i
      have HE2 := state_fire_is p f i (HNOT.out i)
      rw [hs2] at HE1 HE2
      rw [hbx] at HE1
      have HSTEP := Lib.hid (show tl.drop at_ = (if s2 = s then [] else [((i : Int), s2)]) ++ turnsG p f s2 (i + 1) g by rw [HD.out, turnsG, hs2])
      have HH := Lib.hid (fun W (h : Below wr.heap.size wr W) => has_any AF nf cf f (i : Int) w3.heap.size W ((HF4.out.below (HB.out.mono (by omega))).below (h.mono (by omega))) (by have := h.size; omega) (by omega))
      generalize x[i] = bx at *
      generalize hasF f i = fx at *
      have he1 : (s2 == 1) = bx := HE1
      have he2 : (s2 == 2) = fx := HE2
      have he3 : (bx != bx) = false := by simp
      have he4 : (fx != fx) = false := by simp
      clear HE1 HE2 hbx hs2 HD
      go_upto_region 10 with fail
      go_cut [53] (fun t wx => t = .bool (decide (s2 ≠ s)) ∧ wr = wx)
      case first =>
        clear he1 he2 he3 he4 hcx
        by_cases hss : s2 = s
        · have hd : decide (s2 ≠ s) = false := by simp [hss]
          have HD0 := Lib.hid hd
          rw [if_pos hss, List.nil_append] at HSTEP
          clear hd hss
          by_cases hlt : at_ < L
          · obtain ⟨adl, hl2, rfl, l0, l1, _⟩ := (HL4.out.below HB.out).turn hlt
            have hge := turnsG_ge p f g s2 (i + 1) tl[at_] (by rw [← HSTEP.out, List.drop_eq_getElem_cons hl2]; exact List.mem_cons_self)
            generalize tl[at_] = z at *
            have hne : (z.1 == (i : Int)) = false := by simp; omega
            generalize z.1 = z1 at *
            generalize z.2 = z2 at *
            go_wp2_with fail
            go_meet
            exact ⟨by rw [HD0.out], rfl⟩
          · have hno : ¬ (at_ : Int) < L := by omega
            go_wp2_with fail
            go_meet
            exact ⟨by rw [HD0.out], rfl⟩
        · have hd : decide (s2 ≠ s) = true := by simp [hss]
          have HD0 := Lib.hid hd
          rw [if_neg hss] at HSTEP
          clear hd hss
          have hlt : at_ < L := by
            have h := HSTEP.out
            have h2 : (tl.drop at_).length ≠ 0 := by rw [h]; simp
            rw [List.length_drop] at h2
            have := HLL.out
            omega
          obtain ⟨adl, hl2, rfl, l0, l1, _⟩ := (HL4.out.below HB.out).turn hlt
          have hz : tl[at_] = ((i : Int), s2) := by
            have h := HSTEP.out
            rw [List.drop_eq_getElem_cons hl2] at h
            injection h
          rw [hz] at l0 l1
          have hne : ((i : Int) == (i : Int)) = true := by simp
          clear hz
          go_wp2_with fail
          go_meet
          exact ⟨by rw [HD0.out], rfl⟩
      case rest =>
        obtain ⟨rfl, rfl⟩ := hcut
        go_upto_if 53 with fail
        go_cut [14, 15] (fun x14 x15 wx => ∃ at2 : Nat, x14 = .int .i64 s2 ∧ x15 = .int .i64 at2 ∧ at2 ≤ L ∧ tl.drop at2 = turnsG p f s2 (i + 1) g ∧ wr = wx)
        case first =>
          clear he1 he2 he3 he4 hcx
          by_cases hss : s2 = s
          · have hd : decide (s2 ≠ s) = false := by simp [hss]
            rw [hd]
            rw [if_pos hss, List.nil_append] at HSTEP
            subst hss
            clear hd
            go_wp2_with fail
            go_meet
            exact ⟨at_, rfl, rfl, hatL, HSTEP.out, rfl⟩
          · have hd : decide (s2 ≠ s) = true := by simp [hss]
            rw [hd]
            rw [if_neg hss] at HSTEP
            have hlt : at_ < L := by
              have h := HSTEP.out
              have h2 : (tl.drop at_).length ≠ 0 := by rw [h]; simp
              rw [List.length_drop] at h2
              have := HLL.out
              omega
            obtain ⟨adl, hl2, rfl, l0, l1, _⟩ := (HL4.out.below HB.out).turn hlt
            have hz : tl[at_] = ((i : Int), s2) ∧ tl.drop (at_ + 1) = turnsG p f s2 (i + 1) g := by
              have h := HSTEP.out
              rw [List.drop_eq_getElem_cons hl2] at h
              injection h with h1 h2
              exact ⟨h1, h2⟩
            rw [hz.1] at l0 l1
            have HZ2 := Lib.hid hz.2
            have hsb : (s2 == s) = false := by simpa using hss
            have hatb : at_ < 100 := by omega
            clear hd hss hz
            go_wp2_with fail
            go_meet
            exact ⟨at_ + 1, rfl, by go_num, by omega, HZ2.out, rfl⟩
        case rest =>
          obtain ⟨at2, rfl, rfl, hat2, hdr2, rfl⟩ := hcut
          have HD2 := Lib.hid hdr2
          clear hdr2 HSTEP
          cases bx with
          | true =>
            go_wp2_with fail
            refine (HH.out _ (Below.refl _ _)).mono ?_; rintro e w6 ⟨rfl, hb6⟩
            have HB6 := Lib.hid (HB.out.trans (hb6.mono hsr))
            clear hb6
            go_wp2_with fail
            go_roundg g
            case measure => omega
            case rel => exact ⟨i + 1, at2, s2, by omega, by go_num, rfl, rfl, hat2, by rw [HD2.out]; rfl, HB6.out⟩
          | false =>
            go_wp2_with fail
            refine (HH.out _ (Below.refl _ _)).mono ?_; rintro e w6 ⟨rfl, hb6⟩
            have HB6 := Lib.hid (HB.out.trans (hb6.mono hsr))
            clear hb6
            go_wp2_with fail
            go_roundg g
            case measure => omega
            case rel => exact ⟨i + 1, at2, s2, by omega, by go_num, rfl, rfl, hat2, by rw [HD2.out]; rfl, HB6.out⟩
end Go.Proofs.Ytakgkggkfdbejaa
