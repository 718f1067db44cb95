/- klaxonlaw5.BlockTells: the walk. -/
import Derived.Test.YthnnbbhoelhmbaaBlockOnly
namespace Go.Proofs.Ythnnbbhoelhmbaa
open Go.ChangeShapes Go.WideShapes Go.ChangeAt Go.RowKit
set_option linter.unusedVariables false
set_option maxRecDepth 100000
theorem own_set {w : World} {base g i : Nat} {e : TypeId} {size n c : Nat} {xs : List Value} (h : w.ownsRow base e size (.slice (some ⟨g, 0, none⟩) n c) n xs) (hi : i < xs.length) (u : Value) :
    (w.setCell ⟨g, i, none⟩ u).ownsRow base e size (.slice (some ⟨g, 0, none⟩) n c) n (xs.set i u) := by
  refine ⟨by rw [List.length_set]; exact h.1, ?_⟩
  rcases h.2 with ⟨he, _⟩ | ⟨g', cap, cur, hv, hbg, hh, hnc, hcm, hcs, htake⟩
  · cases he
  · injection hv with h1 h2 h3
    injection h1 with h1; injection h1 with h1; subst h1; subst h3
    refine .inr ⟨g, c, cur.setIfInBounds i u, rfl, hbg, ?_, hnc, hcm, by simpa using hcs, ?_⟩
    · simp [World.setCell, Array.getElem?_modify, hh]
    · have hl : i < n * size := by rw [← h.1]; exact hi
      rw [Array.toList_setIfInBounds, List.take_set, htake]
theorem own_form {w : World} {base : Nat} {e : TypeId} {size n : Nat} {v : Value} {xs : List Value} (h : w.ownsRow base e size v n xs) (hn : 0 < n) (hs : 0 < size) : ∃ g c, v = .slice (some ⟨g, 0, none⟩) n c ∧ base ≤ g ∧ g < w.heap.size ∧ ∀ o, w.frozen? ⟨g, o, none⟩ = false := by
  rcases h.2 with ⟨rfl, hx⟩ | ⟨g, cap, cur, hv, hbg, hh, hnc, hcm, hcs, htake⟩
  · have := h.1; rw [hx] at this; simp at this; omega
  · exact ⟨g, cap, hv, hbg, (Array.getElem?_eq_some_iff.1 hh).1, fun o => by simp [World.frozen?, hh]⟩
theorem smps_set (xs : List (Int × Int)) (j : Nat) (hj : j < xs.length) (v : Int) : (smps xs).set (j * 2 + 1) (.int .i64 v) = smps (xs.set j (xs[j].1, v)) := by
  induction xs generalizing j with
  | nil => simp at hj
  | cons x xs ih =>
    cases j with
    | zero => rfl
    | succ j =>
      have := ih j (by simpa using hj)
      simp only [smps, List.flatMap_cons] at this ⊢
      rw [show (j + 1) * 2 + 1 = (j * 2 + 1) + 1 + 1 by omega]
      simp only [List.cons_append, List.nil_append, List.set_cons_succ, this, List.getElem_cons_succ]
      rfl
/-- Some samples of the call's own. -/
def SomeSmp (W : World) (v : Value) (w : World) : Prop :=
  ∃ (k : Nat) (xs : List (Int × Int)), k ≤ 20 ∧ w.ownsRow W.heap.size 25 2 v k (smps xs) ∧ (∀ x ∈ xs, I64 x.1 ∧ I64 x.2) ∧ Below W.heap.size W w
theorem heldF_snoc (a : Int) (xs : List (Int × Int)) (x : Int × Int) : heldF a (xs ++ [x]) = (heldF a xs && !(decide (x.1 ≤ (xs.getLast?.map (·.1)).getD a) || decide (1099511627776 < x.1))) := by
  induction xs generalizing a with
  | nil => simp only [List.nil_append, heldF, List.getLast?_nil, Option.map_none, Option.getD_none, Bool.true_and]
           by_cases h : x.1 ≤ a <;> by_cases h2 : 1099511627776 < x.1 <;> simp [h, h2]
  | cons y ys ih =>
    rw [List.cons_append, heldF, heldF]
    split
    · simp
    · rw [ih]
      cases ys with
      | nil => simp; rfl
      | cons z zs => simp [List.getLast?_cons]
theorem heldF_last (a : Int) (xs : List (Int × Int)) (h : heldF a xs = true) : a ≤ (xs.getLast?.map (·.1)).getD a := by
  induction xs generalizing a with
  | nil => simp
  | cons y ys ih =>
    rw [heldF] at h
    split at h
    · cases h
    · rename_i hy
      cases ys with
      | nil => simp; omega
      | cons z zs =>
        have := ih y.1 h
        rw [List.getLast?_cons_cons]
        cases hq : (z :: zs).getLast? with
        | none => simp at hq
        | some q => rw [hq] at this; simp at this ⊢; omega
theorem take_last (xs : List (Int × Int)) (q : Nat) (hq : q < xs.length) : (((xs.take (q + 1)).getLast?.map (·.1)).getD (-1) : Int) = xs[q].1 := by
  rw [List.take_succ_eq_append_getElem hq, List.getLast?_concat]; rfl
set_option maxHeartbeats 8000000 in
theorem block_tells (A B : Option Addr) (n0 c0 n1 c1 : Nat) (ra : List (Int × Int)) (ks : List Int) (own : Bool) (n m : Int) (w : World) (ha : Sees w w.heap.size 2 A n0 (smps ra)) (hb : Sees w w.heap.size 1 B n1 (ints ks)) (hra : ∀ x ∈ ra, I64 x.1 ∧ I64 x.2) (hks : ∀ z ∈ ks, I64 z)
    (hn0 : n0 ≤ c0) (hc0 : c0 ≤ 9223372036854775807) (hn1 : n1 ≤ 9223372036854775807) (wn : I64 n) (wm : I64 m) :
    Calls Try.prog 4 #[.slice A n0 c0, .slice B n1 c1, .bool own, .int .i64 n, .int .i64 m] w fun e w' => e = .returned (.bool true) ∧ Below w.heap.size w w' := by
  obtain ⟨k, hk, hk1, hk2⟩ : ∃ k : Nat, min (n0 : Int) 20 = (k : Int) ∧ k ≤ n0 ∧ k ≤ 20 := ⟨min n0 20, by omega, by omega, by omega⟩
  have hT := ha.take hk1
  have e0 : (smps ra).take (k * 2) = smps (ra.take k) := by
    have e1 := smps_append (ra.take k) (ra.drop k)
    rw [List.take_append_drop] at e1
    have hl := ha.smp_len
    rw [e1, List.take_append_of_le_length (by rw [smps_length, List.length_take]; omega), List.take_of_length_le (by rw [smps_length, List.length_take]; omega)]
  rw [e0] at hT
  have HT := Lib.hid (hT.alloc (Nat.le_refl _) (.cells #[] 25))
  have HWN := Lib.hid wn; have HWM := Lib.hid wm
  have HKB := Lib.hid hb; have HKS := Lib.hid hks
  have HRA := Lib.hid (fun x (hx : x ∈ ra.take k) => hra x (List.mem_of_mem_take hx))
  have HOE := Lib.hid (show (w.alloc (.cells #[] 25)).ownsRow w.heap.size 25 2 (.slice (some ⟨w.heap.size, 0, none⟩) 0 0) 0 [] from World.ownsRow_made w #[] 0 (Nat.le_refl _) (by unfold maxLen; omega) rfl)
  have HBE := Lib.hid ((Below.refl w.heap.size w).alloc (Nat.le_refl _) (.cells #[] 25))
  clear ha hb hra hks wn wm hT e0
  have hk3 : (k : Int) ≤ c0 := by omega
  have hk4 : (0 : Int) ≤ k := by omega
  obtain ⟨i0, hi, hz0, hz1, hz2⟩ := info_parts Try.infoSmp
  obtain ⟨iu, hu, hu0, hu1, hu2⟩ := info_parts Try.infoU8
  go_enter Try.func4, Try.ntmps4
  go_wp2_with (at_builtin; refine wpList_append_sees rfl (.tmp 25) (.tmp 30) 26 rfl w.heap.size 25 i0 (.agg #[.int .i64 0, .int .i64 0]) 2 16 Try.underlying26 hi hz0 hz1 hz2 rfl (by decide) _ 0 [] rfl HOE.out _ A k _ (smps (ra.take k)) rfl HT.out (smps_one _) (by unfold maxLen; omega) (by omega) (by simp) ?_)
  intro v1 w1 hown1 hg1
  have HB1 := Lib.hid (HBE.out.grown hg1 HBE.out.size (fun b hb => (HOE.out.lt b hb).1))
  try simp only [Nat.zero_add, List.nil_append] at hown1
  have HO1 := Lib.hid hown1
  clear hown1 hg1 HOE HBE HT hk
  have hs1 := HB1.out.size
  go_upto_if 32 with fail
  go_cut [11] (fun v wx => SomeSmp w v wx)
  case first =>
    cases own with
    | false =>
      go_wp2_with fail
      go_meet
      exact ⟨k, ra.take k, hk2, HO1.out, HRA.out, HB1.out⟩
    | true =>
      have HCS := Lib.hid (samples_any B n1 c1 ks w1 ((HKB.out.below HB1.out).more hs1) HKS.out hn1)
      have HLS := Lib.hid (show (samplesOf 0 (ks.take 20)).length = min n1 20 by rw [samplesOf_length, List.length_take, HKB.out.int_len]; omega)
      have HIS := Lib.hid (samples20 ks)
      obtain ⟨q, hq⟩ : ∃ q, min n1 20 = q := ⟨_, rfl⟩
      have hq20 : q ≤ 20 := by omega
      rw [hq] at HCS HLS
      clear hq HRA HO1
      generalize samplesOf 0 (ks.take 20) = X at *
      go_wp2_with fail
      refine HCS.out.mono ?_; rintro e w2 ⟨A2, c2, rfl, hown2, hb2, h21, h22⟩
      have HB2 := Lib.hid (HB1.out.trans (hb2.mono hs1))
      have HO2 := Lib.hid (own_mono hown2 hs1)
      clear hown2 hb2 HCS HB1
      go_wp2_with fail
      go_loopg [37] q (fun g x37 wr => ∃ (j : Nat) (xs : List (Int × Int)), j + g = q ∧ x37 = .int .i64 j ∧ wr.ownsRow w.heap.size 25 2 (.slice A2 q c2) q (smps xs) ∧ (∀ x ∈ xs, I64 x.1 ∧ I64 x.2) ∧ xs.length = q ∧ Below w.heap.size w wr)
      case atStart => exact ⟨0, X, by omega, rfl, HO2.out, HIS.out, HLS.out, HB2.out⟩
      case round =>
        clear HO2 HB2
        obtain ⟨j, xs, hjg, rfl, hown, hix, hxl, hbel⟩ := hrel
        have HO := Lib.hid hown; have HIX := Lib.hid hix; have HXL := Lib.hid hxl; have HB := Lib.hid hbel
        clear hown hix hxl hbel
        cases gk with
        | zero =>
          obtain rfl : j = q := by omega
          go_wp2_with fail
          go_meet
          exact ⟨_, xs, hq20, HO.out, HIX.out, HB.out⟩
        | succ g =>
          have hlt : j < q := by omega
          obtain ⟨gb, c2', hv, hbg, hgl, hfz⟩ := own_form HO.out (by omega) (by omega)
          injection hv with hv1 hv2 hv3
          subst hv1; subst hv3
          obtain ⟨r, hr⟩ : ∃ r, bits BinOp.and IntKind.i64 j 3 = r := ⟨_, rfl⟩
          by_cases hr1 : r = 1
          · have hb1 : (r == 1) = true := by simp [hr1]
            clear hr1
            have hjx : j < xs.length := by rw [HXL.out]; exact hlt
            have c1' : wr.cell? ⟨gb, j * 2 + 1, none⟩ = some (.int .i64 xs[j].2) := by
              have := HO.out.cells (g := gb) rfl (j * 2 + 1) _ (smps_get xs j hjx).2
              simpa [Addr.add] using this
            have HSET := Lib.hid (own_set HO.out (i := j * 2 + 1) (by rw [smps_length]; omega) (.int .i64 n))
            rw [smps_set xs j hjx] at HSET
            have HIN := Lib.hid (show ∀ x ∈ xs.set j (xs[j].1, n), I64 x.1 ∧ I64 x.2 from fun x hx => by
              rcases List.mem_or_eq_of_mem_set hx with h | h
              · exact HIX.out x h
              · subst h; exact ⟨(HIX.out _ (List.getElem_mem hjx)).1, HWN.out⟩)
            have HLN := Lib.hid (show (xs.set j (xs[j].1, n)).length = q by rw [List.length_set]; exact HXL.out)
            have HBS := Lib.hid (HB.out.setCell (p := ⟨gb, j * 2 + 1, none⟩) (show w.heap.size ≤ gb from hbg) (.int .i64 n))
            generalize xs.set j (xs[j].1, n) = xs' at *
            generalize xs[j].2 = z at *
            go_wp2_with fail
            go_roundg g
            case measure => omega
            case rel => exact ⟨j + 1, xs', by omega, by go_num, HSET.out, HIN.out, HLN.out, HBS.out⟩
          · have hb1 : (r == 1) = false := by simpa using hr1
            clear hr1
            go_wp2_with fail
            go_roundg g
            case measure => omega
            case rel => exact ⟨j + 1, xs, by omega, by go_num, HO.out, HIX.out, HXL.out, HB.out⟩
  case rest =>
    clear HO1 HB1 HRA HKB HKS hs1 hk1 hk2 hk3 hk4
    obtain ⟨k, xs, hk20, hown, hix, hbel⟩ := hcut
    have HO := Lib.hid hown; have HIX := Lib.hid hix; have HB := Lib.hid hbel
    have hsz := hbel.size
    obtain ⟨A1, c1', rfl, h11, h12⟩ := own_slice hown
    have HS := Lib.hid (Sees.of_own hown)
    have HXL := Lib.hid HS.out.smp_len
    clear hown hix hbel
    have HST := Lib.hid (show true = heldF (-1) (xs.take 0) from rfl)
    go_wp2_with fail
    go_loopg [13, 51] k (fun g x13 x51 wr => ∃ (j : Nat), j + g = k ∧ x51 = .int .i64 j ∧ x13 = .bool (heldF (-1) (xs.take j)) ∧ Below wc.heap.size wc wr)
    case atStart => exact ⟨0, by omega, rfl, by rw [← HST.out], Below.refl _ _⟩
    case round =>
      obtain ⟨j, hjg, rfl, rfl, hbel⟩ := hrel
      have HBL := Lib.hid hbel
      have hsw := hbel.size
      clear hbel
      cases gk with
      | zero =>
        obtain rfl : j = k := by omega
        have HTT := Lib.hid (show xs.take j = xs from List.take_of_length_le (by rw [HXL.out]; exact Nat.le_refl _))
        have HHF := Lib.hid (show held xs = heldF (-1) xs by unfold held; rw [HXL.out, decide_eq_true (by omega), Bool.true_and])
        rw [HTT.out, ← HHF.out]
        have HSr := Lib.hid (HS.out.below HBL.out)
        have HBT := Lib.hid (HB.out.trans (HBL.out.mono hsz))
        have hst := HBT.out.size
        have HRM := Lib.hid (roomy_smp A1 j c1' _ xs 7 0 wr HSr.out hsw (by omega))
        clear HTT HHF HST HO HB HBL HS
        clear hi hz0 hz1 hz2 i0
        go_wp2_with fail
        refine HRM.out.mono ?_; rintro e w4 ⟨gf, rfl, hgf, hblk, hb4⟩
        have HB4 := Lib.hid (HBT.out.trans (hb4.mono hst))
        have hs4 := hb4.size
        have HFU := Lib.hid (hblk.sees (size := 2) (n := j + 80) (xs := smps (xs ++ List.replicate 80 (7, 0))) (by rw [smps_length, List.length_append, List.length_replicate, HXL.out]) (List.prefix_refl _))
        have HL4 := Lib.hid ((HSr.out.below (hb4.mono hsw)).more (B' := w4.heap.size) (by omega))
        have hTK := HFU.out.take (show j ≤ j + 80 by omega)
        have e4 : (smps (xs ++ List.replicate 80 (7, 0))).take (j * 2) = smps xs := by
          rw [smps_append, List.take_append_of_le_length (by rw [smps_length, HXL.out]; exact Nat.le_refl _), List.take_of_length_le (by rw [smps_length, HXL.out]; exact Nat.le_refl _)]
        rw [e4] at hTK
        have HPU := Lib.hid (put_any (some ⟨gf, 0, none⟩) j (j + 80) _ xs w4 hTK (Nat.le_refl _) (by omega))
        have HPL := Lib.hid (putF_len xs (by rw [HXL.out]; omega))
        have hj0 : (0 : Int) ≤ j := by omega
        have hj8 : (j : Int) ≤ (j : Int) + 80 := by omega
        have hj9 : j ≤ j + 80 := by omega
        have HPB := Lib.hid (putF_byte xs)
        clear hblk hb4 hTK e4 HRM HBT HSr
        have HGR : Hid ((held xs = true ∧ getF (putF xs) = some xs ∧ putF xs = putB xs) ∨ (held xs = false ∧ getF (putF xs) = none ∧ putF xs = [])) := Lib.hid (by
          cases hh : held xs with
          | true => exact .inl ⟨rfl, getF_put hh HIX.out, putF_of hh⟩
          | false => have : putF xs = [] := by unfold putF; rw [hh]; rfl
                     exact .inr ⟨rfl, by rw [this]; rfl, this⟩)
        go_wp2_with fail
        refine HPU.out.mono ?_; rintro e w5 ⟨A5, c5, rfl, hown5, hb5, h51, h52⟩
        have HB5 := Lib.hid (HB4.out.trans (hb5.mono (by omega)))
        have hs5 := hb5.size
        have HFU5 := Lib.hid ((HFU.out.below hb5).more (B' := w5.heap.size) hs5)
        have HL5 := Lib.hid ((HL4.out.below hb5).more (B' := w5.heap.size) hs5)
        have HS5 := Lib.hid (Sees.of_own hown5)
        have hpl := HPL.out
        have HGE := Lib.hid (get_any A5 _ c5 _ w5 HS5.out (by omega) h51 h52 HPB.out)
        clear hown5 hb5 HPU HFU HL4 HB4
        generalize putF xs = P at *
        generalize held xs = R at *
        obtain ⟨pl, hpl2⟩ : ∃ pl, P.length = pl := ⟨_, rfl⟩
        rw [hpl2] at HGE hpl h51 HS5 ⊢
        have HPL2 := Lib.hid hpl2
        clear hpl2 HPL
        rcases HGR.out with ⟨hR, hgf2, hP⟩ | ⟨hR, hgf2, hP⟩
        · subst hR
          rw [hgf2] at HGE
          have HPE := Lib.hid hP
          clear hgf2 hP HGR
          go_wp2_with fail
          refine HGE.out.mono ?_; rintro e w6 ⟨hb6, A6, c6, rfl, hown6, h61, h62⟩
          have HB6 := Lib.hid (HB5.out.trans (hb6.mono (by omega)))
          have hs6 := hb6.size
          have HFU6 := Lib.hid ((HFU5.out.below hb6).more (B' := w6.heap.size) hs6)
          have HL6 := Lib.hid ((HL5.out.below hb6).more (B' := w6.heap.size) hs6)
          have HS6 := Lib.hid ((HS5.out.below hb6).more (B' := w6.heap.size) hs6)
          have HX6 := Lib.hid (Sees.of_own hown6)
          have HCI := Lib.hid (intact_smp (some ⟨gf, 0, none⟩) A1 j (j + 80) c1' xs 7 0 w6 HFU6.out HL6.out (by omega) (by omega))
          rw [HXL.out] at HX6 h61 ⊢
          clear hb6 hown6 HGE HB5 HFU5 HL5 HS5
          go_upto_region 19 with fail
          go_cut [138] (fun v wx => v = .bool false ∧ Below w.heap.size w wx)
          case first =>
            go_wp2_with fail
            refine HCI.out.mono ?_; rintro e w7 ⟨rfl, hb7⟩
            have HB7 := Lib.hid (HB6.out.trans (hb7.mono (by omega)))
            have hs7 := hb7.size
            have HL7 := Lib.hid ((HL6.out.below hb7).more (B' := w7.heap.size) hs7)
            have HS7 := Lib.hid ((HS6.out.below hb7).more (B' := w7.heap.size) hs7)
            have HX7 := Lib.hid ((HX6.out.below hb7).more (B' := w7.heap.size) hs7)
            have HRB := Lib.hid (refblock_any A1 j c1' _ xs w7 HL7.out (Nat.le_refl _) (by omega))
            rw [← HPE.out] at HRB
            clear hb7 HCI
            go_wp2_with fail
            refine HRB.out.mono ?_; rintro e w8 ⟨A8, c8, rfl, hown8, hb8, h81, h82⟩
            have HB8 := Lib.hid (HB7.out.trans (hb8.mono (by omega)))
            have hs8 := hb8.size
            have HL8 := Lib.hid ((HL7.out.below hb8).more (B' := w8.heap.size) hs8)
            have HX8 := Lib.hid ((HX7.out.below hb8).more (B' := w8.heap.size) hs8)
            have HCS := Lib.hid (same_u8 A5 A8 pl c5 _ c8 _ _ P P w8 (HS7.out.below hb8) (Sees.of_own hown8) (by omega) (by rw [HPL2.out]; omega))
            rw [decide_eq_true (rfl : P = P)] at HCS
            rw [HPL2.out] at HCS ⊢
            clear hb8 hown8 HRB HB7 HL7 HS7 HX7
            go_wp2_with fail
            refine HCS.out.mono ?_; rintro e w9 ⟨rfl, m9, hw9⟩
            have HB9 := Lib.hid (show Below w.heap.size w w9 by rw [hw9]; exact below_drewN3 HB8.out m9)
            have HC9 := Lib.hid (same_smp A6 A1 j c6 j c1' _ _ xs xs w9 (by rw [hw9]; exact HX8.out.drewN m9) (by rw [hw9]; exact HL8.out.drewN m9) (by omega) (by omega))
            rw [decide_eq_true (rfl : xs = xs)] at HC9
            clear hw9 HCS HB8 HL8 HX8
            go_wp2_with fail
            refine HC9.out.mono ?_; rintro e w10 ⟨rfl, m10, hw10⟩
            have HB10 := Lib.hid (show Below w.heap.size w w10 by rw [hw10]; exact below_drewN3 HB9.out m10)
            clear hw10 HC9 HB9
            go_wp2_with fail
            go_meet
            exact ⟨rfl, HB10.out⟩
          case rest =>
            obtain ⟨rfl, hb7⟩ := hcut
            have HB7 := Lib.hid hb7; clear hb7
            have hs7 := HB7.out.size
            have HN1 := Lib.hid (refnum_any n wc HWN.out)
            have hln := num_len n; have hln1 := num_pos n; have hlm := num_len m
            go_wp2_with fail
            refine HN1.out.mono ?_; rintro e y1 ⟨B1, d1, rfl, hown1, hb1, g1, g2⟩
            have HB8 := Lib.hid (HB7.out.trans (hb1.mono hs7))
            have HO1 := Lib.hid hown1
            have hs8 := hb1.size
            have HN2 := Lib.hid (refnum_any m y1 HWM.out)
            clear hown1 hb1 HN1 HB7
            go_wp2_with fail
            refine HN2.out.mono ?_; rintro e y2 ⟨B2, d2, rfl, hown2, hb2, g3, g4⟩
            have HB9 := Lib.hid (HB8.out.trans (hb2.mono (by omega)))
            have HO2 := Lib.hid (own_below HO1.out hb2 (Nat.le_refl _))
            have HSV := Lib.hid (Sees.of_own hown2)
            have hs9 := hb2.size
            clear hown2 hb2 HN2 HB8 HO1
            go_wp2_with (at_builtin; refine wpList_append_sees rfl (.tmp 140) (.tmp 142) 22 rfl wc.heap.size 5 iu (.int .u8 0) 1 1 Try.underlying22 hu hu0 hu1 hu2 rfl (by decide) _ (num n).length (u8s (num n)) rfl HO2.out _ _ _ _ (u8s (num m)) rfl HSV.out (u8s_one _) (by unfold maxLen; omega) (by omega) (by omega) ?_)
            intro v3 y3 hown3 hg3
            have HB10 := Lib.hid (HB9.out.grown hg3 HB9.out.size (fun b hb => Nat.le_trans hs7 (HO2.out.lt b hb).1))
            have hs10 := hg3.size
            rw [← u8s_append, ← List.length_append] at hown3
            have HLA := Lib.hid (show (num n ++ num m).length = (num n).length + (num m).length from List.length_append ..)
            obtain ⟨B3, d3, rfl, g5, g6⟩ := own_slice hown3
            have HTW := Lib.hid (Sees.of_own hown3)
            clear hown3 hg3 HB9 HO2 HSV
            have HBY := Lib.hid (show ∀ z ∈ num n ++ num m, 0 ≤ z ∧ z < 256 from fun z hz => (List.mem_append.1 hz).elim (num_byte HWN.out z) (num_byte HWM.out z))
            have HNX := Lib.hid (next_num HWN.out (num m))
            have HX1 := Lib.hid (next_any B3 _ d3 _ _ y3 HTW.out (by rw [HLA.out]; omega) HBY.out)
            rw [show nextV (num n ++ num m) = n by (unfold nextV; rw [HNX.out]; exact zag_zig n), show nextK (num n ++ num m) = (num n).length by (unfold nextK; rw [HNX.out])] at HX1
            obtain ⟨nl, hnl⟩ : ∃ nl, (num n).length = nl := ⟨_, rfl⟩
            obtain ⟨tl, htl⟩ : ∃ tl, (num n ++ num m).length = tl := ⟨_, rfl⟩
            have htk := HTW.out.take (show nl - 1 ≤ (num n ++ num m).length by rw [HLA.out]; omega)
            rw [Nat.mul_one, u8s_take, List.take_append_of_le_length (by omega)] at htk
            have HTK := Lib.hid htk
            have HSH := Lib.hid (next_short (n := n) (m := nl - 1) (by omega))
            have HN3 : Hid (∀ w, Calls Try.prog 17 #[.int .i64 n] w (OwnAns 5 1 nl (u8s (num n)) w)) := Lib.hid fun w => by
              have := refnum_any n w HWN.out
              rw [hnl] at this; exact this
            have HBYT := Lib.hid (show ∀ z ∈ (num n).take (nl - 1), 0 ≤ z ∧ z < 256 from fun z hz => num_byte HWN.out z (List.mem_of_mem_take hz))
            have hla := HLA.out
            rw [hnl] at HX1 hln hln1 hla
            rw [htl] at HX1 HTW g5 hla ⊢
            have hla1 : tl ≤ 20 := by omega
            have hla2 : nl ≤ tl := by omega
            have HTL := Lib.hid htl
            clear htk hnl htl HNX HLA hla
            have hnl0 : (0 : Int) ≤ (nl : Int) - 1 := by omega
            have hnl1 : (nl : Int) - 1 ≤ d3 := by omega
            have hnl2 : (nl : Int) - 1 = ((nl - 1 : Nat) : Int) := by omega
            obtain ⟨ns, hns⟩ : ∃ ns, nl - 1 = ns := ⟨_, rfl⟩
            rw [hns] at HTK HSH hnl2 HBYT
            clear hns hnl0 hnl1
            have hns0 : (0 : Int) ≤ ns := by omega
            have hns1 : (ns : Int) ≤ d3 := by omega
            have hns2 : ns ≤ 20 := by omega
            go_wp2_with fail
            refine HX1.out.mono ?_; rintro e y4 ⟨rfl, q4, hy4⟩
            have HB11 := Lib.hid (show Below w.heap.size w y4 by rw [hy4]; exact below_drewN3 HB10.out q4)
            have hs11 := HB11.out.size
            have HTK4 := Lib.hid (show Sees y4 y4.heap.size 1 B3 ns (u8s ((num n).take ns)) by rw [hy4]; exact HTK.out.drewN q4)
            have HTW4 := Lib.hid (show Sees y4 y4.heap.size 1 B3 tl (u8s (num n ++ num m)) by rw [hy4]; exact HTW.out.drewN q4)
            clear hy4 HX1 HB10 HTK HTW
            go_wp2_with fail
            refine (HN3.out _).mono ?_; rintro e y5 ⟨B5, d5, rfl, hown5, hb5, g7, g8⟩
            have HB12 := Lib.hid (HB11.out.trans (hb5.mono hs11))
            have hs12 := hb5.size
            have HX2 := Lib.hid (next_any B3 ns d3 _ _ y5 (HTK4.out.below hb5) (by omega) HBYT.out)
            rw [show nextV ((num n).take ns) = 0 by (unfold nextV; rw [HSH.out]), show nextK ((num n).take ns) = 0 by (unfold nextK; rw [HSH.out])] at HX2
            have HTW5 := Lib.hid (HTW4.out.below hb5)
            clear hown5 hb5 HB11 HTK4 HTW4 HSH HBYT
            go_wp2_with fail
            refine HX2.out.mono ?_; rintro e y6 ⟨rfl, q6, hy6⟩
            have HB13 := Lib.hid (show Below w.heap.size w y6 by rw [hy6]; exact below_drewN3 HB12.out q6)
            have hs13 := HB13.out.size
            have HTW6 := Lib.hid (show Sees y6 y6.heap.size 1 B3 tl (u8s (num n ++ num m)) by rw [hy6]; exact (HTW5.out.more hs12).drewN q6)
            clear hy6 HX2 HB12 HTW5
            have HSN := Lib.hid (new_sees y6 3 (ints [n, m]) 1 2 rfl)
            have HN4 := Lib.hid (number_any (some ⟨y6.heap.size, 0, none⟩) 2 2 _ [n, m] _ HSN.out (by simp) (by omega) (by intro z hz; simp at hz; rcases hz with rfl | rfl; exact HWN.out; exact HWM.out))
            rw [show nums [n, m] = num n ++ num m by simp [nums], HTL.out] at HN4
            have HBA := Lib.hid (HB13.out.alloc hs13 (.cells (ints [n, m]).toArray 3))
            have HTWA := Lib.hid (HTW6.out.alloc (Nat.le_refl _) (.cells (ints [n, m]).toArray 3))
            clear HSN HB13 HTW6
            go_wp2_with fail
            refine HN4.out.mono ?_; rintro e y7 ⟨B7, d7, rfl, hown7, hb7, g9, g10⟩
            have HB14 := Lib.hid (HBA.out.trans (hb7.mono (by simp; omega)))
            have HCS := Lib.hid (same_u8 B7 B3 _ d7 tl d3 _ _ _ _ y7 (Sees.of_own hown7) (HTWA.out.below (hb7.mono (by simp))) (by omega) (by omega))
            rw [decide_eq_true (rfl : num n ++ num m = num n ++ num m)] at HCS
            clear hown7 hb7 HN4 HBA HTWA
            have hnn : (n == n) = true := by simp
            have hll : ((nl : Int) == nl) = true := by simp
            go_wp2_with fail
            refine HCS.out.mono ?_; rintro e y8 ⟨rfl, q8, hy8⟩
            have HB15 := Lib.hid (show Below w.heap.size w y8 by rw [hy8]; exact below_drewN3 HB14.out q8)
            have hs15 := HB15.out.size
            clear hy8 HCS HB14
            go_wp2_with fail
            refine (HN3.out _).mono ?_; rintro e y9 ⟨B9, d9, rfl, hown9, hb9, g11, g12⟩
            have HB16 := Lib.hid (HB15.out.trans (hb9.mono hs15))
            have hs16 := HB16.out.size
            clear hown9 hb9 HB15
            go_wp2_with fail
            refine (block_runs y9).mono ?_; rintro e y10 ⟨rfl, hb10⟩
            have HB17 := Lib.hid (HB16.out.trans (hb10.mono hs16))
            clear hb10 HB16
            go_wp2_with fail
            go_ret
            exact ⟨rfl, HB17.out⟩
        · subst hR
          subst hP
          obtain rfl : pl = 0 := by have := HPL2.out; simpa using this.symm
          rw [hgf2] at HGE
          clear hgf2 HGR
          go_wp2_with fail
          refine HGE.out.mono ?_; rintro e w6 ⟨hb6, rfl⟩
          have HB6 := Lib.hid (HB5.out.trans (hb6.mono (by omega)))
          have hs6 := hb6.size
          have HFU6 := Lib.hid ((HFU5.out.below hb6).more (B' := w6.heap.size) hs6)
          have HL6 := Lib.hid ((HL5.out.below hb6).more (B' := w6.heap.size) hs6)
          have HCI := Lib.hid (intact_smp (some ⟨gf, 0, none⟩) A1 j (j + 80) c1' xs 7 0 w6 HFU6.out HL6.out (by omega) (by omega))
          clear hb6 HGE HB5 HFU5 HL5 HS5
          go_upto_region 19 with fail
          go_cut [138] (fun v wx => v = .bool false ∧ Below w.heap.size w wx)
          case first =>
            go_wp2_with fail
            refine HCI.out.mono ?_; rintro e w7 ⟨rfl, hb7⟩
            have HB7 := Lib.hid (HB6.out.trans (hb7.mono (by omega)))
            clear hb7 HCI
            go_wp2_with fail
            go_meet
            exact ⟨rfl, HB7.out⟩
          case rest =>
            obtain ⟨rfl, hb7⟩ := hcut
            have HB7 := Lib.hid hb7; clear hb7
            have hs7 := HB7.out.size
            have HN1 := Lib.hid (refnum_any n wc HWN.out)
            have hln := num_len n; have hln1 := num_pos n; have hlm := num_len m
            go_wp2_with fail
            refine HN1.out.mono ?_; rintro e y1 ⟨B1, d1, rfl, hown1, hb1, g1, g2⟩
            have HB8 := Lib.hid (HB7.out.trans (hb1.mono hs7))
            have HO1 := Lib.hid hown1
            have hs8 := hb1.size
            have HN2 := Lib.hid (refnum_any m y1 HWM.out)
            clear hown1 hb1 HN1 HB7
            go_wp2_with fail
            refine HN2.out.mono ?_; rintro e y2 ⟨B2, d2, rfl, hown2, hb2, g3, g4⟩
            have HB9 := Lib.hid (HB8.out.trans (hb2.mono (by omega)))
            have HO2 := Lib.hid (own_below HO1.out hb2 (Nat.le_refl _))
            have HSV := Lib.hid (Sees.of_own hown2)
            have hs9 := hb2.size
            clear hown2 hb2 HN2 HB8 HO1
            go_wp2_with (at_builtin; refine wpList_append_sees rfl (.tmp 140) (.tmp 142) 22 rfl wc.heap.size 5 iu (.int .u8 0) 1 1 Try.underlying22 hu hu0 hu1 hu2 rfl (by decide) _ (num n).length (u8s (num n)) rfl HO2.out _ _ _ _ (u8s (num m)) rfl HSV.out (u8s_one _) (by unfold maxLen; omega) (by omega) (by omega) ?_)
            intro v3 y3 hown3 hg3
            have HB10 := Lib.hid (HB9.out.grown hg3 HB9.out.size (fun b hb => Nat.le_trans hs7 (HO2.out.lt b hb).1))
            have hs10 := hg3.size
            rw [← u8s_append, ← List.length_append] at hown3
            have HLA := Lib.hid (show (num n ++ num m).length = (num n).length + (num m).length from List.length_append ..)
            obtain ⟨B3, d3, rfl, g5, g6⟩ := own_slice hown3
            have HTW := Lib.hid (Sees.of_own hown3)
            clear hown3 hg3 HB9 HO2 HSV
            have HBY := Lib.hid (show ∀ z ∈ num n ++ num m, 0 ≤ z ∧ z < 256 from fun z hz => (List.mem_append.1 hz).elim (num_byte HWN.out z) (num_byte HWM.out z))
            have HNX := Lib.hid (next_num HWN.out (num m))
            have HX1 := Lib.hid (next_any B3 _ d3 _ _ y3 HTW.out (by rw [HLA.out]; omega) HBY.out)
            rw [show nextV (num n ++ num m) = n by (unfold nextV; rw [HNX.out]; exact zag_zig n), show nextK (num n ++ num m) = (num n).length by (unfold nextK; rw [HNX.out])] at HX1
            obtain ⟨nl, hnl⟩ : ∃ nl, (num n).length = nl := ⟨_, rfl⟩
            obtain ⟨tl, htl⟩ : ∃ tl, (num n ++ num m).length = tl := ⟨_, rfl⟩
            have htk := HTW.out.take (show nl - 1 ≤ (num n ++ num m).length by rw [HLA.out]; omega)
            rw [Nat.mul_one, u8s_take, List.take_append_of_le_length (by omega)] at htk
            have HTK := Lib.hid htk
            have HSH := Lib.hid (next_short (n := n) (m := nl - 1) (by omega))
            have HN3 : Hid (∀ w, Calls Try.prog 17 #[.int .i64 n] w (OwnAns 5 1 nl (u8s (num n)) w)) := Lib.hid fun w => by
              have := refnum_any n w HWN.out
              rw [hnl] at this; exact this
            have HBYT := Lib.hid (show ∀ z ∈ (num n).take (nl - 1), 0 ≤ z ∧ z < 256 from fun z hz => num_byte HWN.out z (List.mem_of_mem_take hz))
            have hla := HLA.out
            rw [hnl] at HX1 hln hln1 hla
            rw [htl] at HX1 HTW g5 hla ⊢
            have hla1 : tl ≤ 20 := by omega
            have hla2 : nl ≤ tl := by omega
            have HTL := Lib.hid htl
            clear htk hnl htl HNX HLA hla
            have hnl0 : (0 : Int) ≤ (nl : Int) - 1 := by omega
            have hnl1 : (nl : Int) - 1 ≤ d3 := by omega
            have hnl2 : (nl : Int) - 1 = ((nl - 1 : Nat) : Int) := by omega
            obtain ⟨ns, hns⟩ : ∃ ns, nl - 1 = ns := ⟨_, rfl⟩
            rw [hns] at HTK HSH hnl2 HBYT
            clear hns hnl0 hnl1
            have hns0 : (0 : Int) ≤ ns := by omega
            have hns1 : (ns : Int) ≤ d3 := by omega
            have hns2 : ns ≤ 20 := by omega
            go_wp2_with fail
            refine HX1.out.mono ?_; rintro e y4 ⟨rfl, q4, hy4⟩
            have HB11 := Lib.hid (show Below w.heap.size w y4 by rw [hy4]; exact below_drewN3 HB10.out q4)
            have hs11 := HB11.out.size
            have HTK4 := Lib.hid (show Sees y4 y4.heap.size 1 B3 ns (u8s ((num n).take ns)) by rw [hy4]; exact HTK.out.drewN q4)
            have HTW4 := Lib.hid (show Sees y4 y4.heap.size 1 B3 tl (u8s (num n ++ num m)) by rw [hy4]; exact HTW.out.drewN q4)
            clear hy4 HX1 HB10 HTK HTW
            go_wp2_with fail
            refine (HN3.out _).mono ?_; rintro e y5 ⟨B5, d5, rfl, hown5, hb5, g7, g8⟩
            have HB12 := Lib.hid (HB11.out.trans (hb5.mono hs11))
            have hs12 := hb5.size
            have HX2 := Lib.hid (next_any B3 ns d3 _ _ y5 (HTK4.out.below hb5) (by omega) HBYT.out)
            rw [show nextV ((num n).take ns) = 0 by (unfold nextV; rw [HSH.out]), show nextK ((num n).take ns) = 0 by (unfold nextK; rw [HSH.out])] at HX2
            have HTW5 := Lib.hid (HTW4.out.below hb5)
            clear hown5 hb5 HB11 HTK4 HTW4 HSH HBYT
            go_wp2_with fail
            refine HX2.out.mono ?_; rintro e y6 ⟨rfl, q6, hy6⟩
            have HB13 := Lib.hid (show Below w.heap.size w y6 by rw [hy6]; exact below_drewN3 HB12.out q6)
            have hs13 := HB13.out.size
            have HTW6 := Lib.hid (show Sees y6 y6.heap.size 1 B3 tl (u8s (num n ++ num m)) by rw [hy6]; exact (HTW5.out.more hs12).drewN q6)
            clear hy6 HX2 HB12 HTW5
            have HSN := Lib.hid (new_sees y6 3 (ints [n, m]) 1 2 rfl)
            have HN4 := Lib.hid (number_any (some ⟨y6.heap.size, 0, none⟩) 2 2 _ [n, m] _ HSN.out (by simp) (by omega) (by intro z hz; simp at hz; rcases hz with rfl | rfl; exact HWN.out; exact HWM.out))
            rw [show nums [n, m] = num n ++ num m by simp [nums], HTL.out] at HN4
            have HBA := Lib.hid (HB13.out.alloc hs13 (.cells (ints [n, m]).toArray 3))
            have HTWA := Lib.hid (HTW6.out.alloc (Nat.le_refl _) (.cells (ints [n, m]).toArray 3))
            clear HSN HB13 HTW6
            go_wp2_with fail
            refine HN4.out.mono ?_; rintro e y7 ⟨B7, d7, rfl, hown7, hb7, g9, g10⟩
            have HB14 := Lib.hid (HBA.out.trans (hb7.mono (by simp; omega)))
            have HCS := Lib.hid (same_u8 B7 B3 _ d7 tl d3 _ _ _ _ y7 (Sees.of_own hown7) (HTWA.out.below (hb7.mono (by simp))) (by omega) (by omega))
            rw [decide_eq_true (rfl : num n ++ num m = num n ++ num m)] at HCS
            clear hown7 hb7 HN4 HBA HTWA
            have hnn : (n == n) = true := by simp
            have hll : ((nl : Int) == nl) = true := by simp
            go_wp2_with fail
            refine HCS.out.mono ?_; rintro e y8 ⟨rfl, q8, hy8⟩
            have HB15 := Lib.hid (show Below w.heap.size w y8 by rw [hy8]; exact below_drewN3 HB14.out q8)
            have hs15 := HB15.out.size
            clear hy8 HCS HB14
            go_wp2_with fail
            refine (HN3.out _).mono ?_; rintro e y9 ⟨B9, d9, rfl, hown9, hb9, g11, g12⟩
            have HB16 := Lib.hid (HB15.out.trans (hb9.mono hs15))
            have hs16 := HB16.out.size
            clear hown9 hb9 HB15
            go_wp2_with fail
            refine (block_runs y9).mono ?_; rintro e y10 ⟨rfl, hb10⟩
            have HB17 := Lib.hid (HB16.out.trans (hb10.mono hs16))
            clear hb10 HB16
            go_wp2_with fail
            go_ret
            exact ⟨rfl, HB17.out⟩
      | succ g =>
        have hlt : j < k := by omega
        have hsx := HS.out.below HBL.out
        obtain ⟨ad, hjl, rfl, c0', c1''⟩ := hsx.smp hlt
        have hal := World.block_lt_of_cell? wr _ c0'
        have HTK := Lib.hid (List.take_succ_eq_append_getElem hjl)
        have HBA := Lib.hid (HBL.out.alloc hsw (.cells #[.int .i64 xs[j].1, .int .i64 xs[j].2] 25))
        obtain ⟨p, hp⟩ : ∃ p, heldF (-1) (xs.take j) = p := ⟨_, rfl⟩
        have HNX : Hid (heldF (-1) (xs.take (j + 1)) = (p && !(decide (xs[j].1 ≤ ((xs.take j).getLast?.map (·.1)).getD (-1)) || decide (1099511627776 < xs[j].1)))) := Lib.hid (by rw [HTK.out, heldF_snoc, hp])
        rw [hp]
        have HLA : Hid (p = true → -1 ≤ ((xs.take j).getLast?.map (·.1)).getD (-1)) := Lib.hid fun h => heldF_last _ _ (hp.trans h)
        have HPV : Hid (∀ (q : Nat) (h : q < xs.length), q + 1 = j → ((xs.take j).getLast?.map (·.1)).getD (-1) = xs[q].1) := Lib.hid fun q h e => by subst e; exact take_last xs q h
        have HZ : Hid (j = 0 → ((xs.take j).getLast?.map (·.1)).getD (-1) = -1) := Lib.hid fun e => by subst e; rfl
        have HSX := Lib.hid hsx
        clear hp hsx
        generalize ((xs.take j).getLast?.map (·.1)).getD (-1) = la at *
        generalize xs[j].1 = t at *
        generalize xs[j].2 = v at *
        cases p with
        | false =>
          have HF := Lib.hid (show false = heldF (-1) (xs.take (j + 1)) by rw [HNX.out]; rfl)
          go_wp2_with fail
          go_quiet (fail)
          go_wp2_with fail
          go_roundg g
          case measure => omega
          case rel => exact ⟨j + 1, by omega, by go_num, by rw [← HF.out], by first | exact HBA.out | exact below_drewN3 HBA.out _⟩
        | true =>
          have hla := HLA.out rfl
          by_cases h1 : 0 ≤ t
          · have hd1 : decide (0 ≤ t) = true := by simpa using h1
            by_cases h2 : t ≤ 1099511627776
            · have hd2 : decide (t ≤ 1099511627776) = true := by simpa using h2
              by_cases hj0 : j = 0
              · have hlz := HZ.out hj0
                have HF := Lib.hid (show true = heldF (-1) (xs.take (j + 1)) by
                  rw [HNX.out, hlz]
                  have e1 : decide (t ≤ -1) = false := by simp; omega
                  have e2 : decide (1099511627776 < t) = false := by simp; omega
                  rw [e1, e2]; rfl)
                have hd3 : ((j : Int) == 0) = true := by simp [hj0]
                have HJ := Lib.hid hj0
                clear hj0 hlz HNX HZ HPV
                go_wp2_with fail
                go_quiet (fail)
                go_wp2_with fail
                go_roundg g
                case measure => omega
                case rel => exact ⟨j + 1, by omega, by first | go_num | (have := HJ.out; subst this; rfl), by first | rw [← HF.out] | (have := HF.out; have e := HJ.out; subst e; rw [← this]), by first | exact HBA.out | exact below_drewN3 HBA.out _⟩
              · obtain ⟨q, hq⟩ : ∃ q, q + 1 = j := ⟨j - 1, by omega⟩
                have hqx : q < xs.length := by rw [HXL.out]; omega
                have hlq := HPV.out q hqx hq
                obtain ⟨ad2, hql, had2, d0, d1⟩ := HSX.out.smp (show q < k by omega)
                injection had2 with had2; subst had2
                have hd3 : ((j : Int) == 0) = false := by simp; omega
                have hqi : (j : Int) - 1 = q := by omega
                have hqw : IntKind.i64.wrap ((j : Int) - 1) = q := by rw [IntKind.wrap_i64]; omega
                have hal2 := World.block_lt_of_cell? wr _ d0
                have hq0 : (0 : Int) ≤ q := by omega
                have hqk : (q : Int) < k := by omega
                by_cases h4 : xs[q].1 < t
                · have hd4 : decide (xs[q].1 < t) = true := by simpa using h4
                  have HF := Lib.hid (show true = heldF (-1) (xs.take (j + 1)) by
                    rw [HNX.out, hlq]
                    have e1 : decide (t ≤ xs[q].1) = false := by simp; omega
                    have e2 : decide (1099511627776 < t) = false := by simp; omega
                    rw [e1, e2]; rfl)
                  generalize xs[q].1 = pv at *
                  generalize xs[q].2 = pw at *
                  clear hlq hq hj0 HNX HZ HPV
                  go_wp2_with fail
                  go_quiet (fail)
                  go_wp2_with fail
                  go_roundg g
                  case measure => omega
                  case rel => exact ⟨j + 1, by omega, by go_num, by rw [← HF.out], by first | exact HBA.out | exact below_drewN3 HBA.out _⟩
                · have hd4 : decide (xs[q].1 < t) = false := by simpa using h4
                  have HF := Lib.hid (show false = heldF (-1) (xs.take (j + 1)) by
                    rw [HNX.out, hlq]
                    have e1 : decide (t ≤ xs[q].1) = true := by simp; omega
                    rw [e1]; rfl)
                  generalize xs[q].1 = pv at *
                  generalize xs[q].2 = pw at *
                  clear hlq hq hj0 HNX HZ HPV
                  go_wp2_with fail
                  go_quiet (fail)
                  go_wp2_with fail
                  go_roundg g
                  case measure => omega
                  case rel => exact ⟨j + 1, by omega, by go_num, by rw [← HF.out], by first | exact HBA.out | exact below_drewN3 HBA.out _⟩
            · have hd2 : decide (t ≤ 1099511627776) = false := by simpa using h2
              have HF := Lib.hid (show false = heldF (-1) (xs.take (j + 1)) by
                rw [HNX.out]
                have e2 : decide (1099511627776 < t) = true := by simp; omega
                rw [e2]; simp)
              clear HNX HZ HPV
              go_wp2_with fail
              go_quiet (fail)
              go_wp2_with fail
              go_roundg g
              case measure => omega
              case rel => exact ⟨j + 1, by omega, by go_num, by rw [← HF.out], by first | exact HBA.out | exact below_drewN3 HBA.out _⟩
          · have hd1 : decide (0 ≤ t) = false := by simpa using h1
            have HF := Lib.hid (show false = heldF (-1) (xs.take (j + 1)) by
              rw [HNX.out]
              have e1 : decide (t ≤ la) = true := by simp; omega
              rw [e1]; rfl)
            clear HNX HZ HPV
            go_wp2_with fail
            go_quiet (fail)
            go_wp2_with fail
            go_roundg g
            case measure => omega
            case rel => exact ⟨j + 1, by omega, by go_num, by rw [← HF.out], by first | exact HBA.out | exact below_drewN3 HBA.out _⟩
end Go.Proofs.Ythnnbbhoelhmbaa
