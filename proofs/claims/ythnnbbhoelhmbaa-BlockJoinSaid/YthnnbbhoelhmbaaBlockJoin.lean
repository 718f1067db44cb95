/- klaxonlaw5.BlockJoin: the walk. -/
import Derived.Test.YthnnbbhoelhmbaaBlockLawMath
namespace Go.Proofs.Ythnnbbhoelhmbaa
open Go.ChangeShapes Go.WideShapes Go.ChangeAt Go.RowKit
set_option linter.unusedVariables false
set_option maxRecDepth 100000
theorem near_one {a : Int} (h1 : -64 ≤ a) (h2 : a ≤ 63) : (nums [a]).length = 1 := by
  show (num a ++ []).length = 1
  rw [List.append_nil]
  unfold num enc
  have : zig a ≤ 127 := by unfold zig; split <;> omega
  rw [encF, if_neg (by omega)]; rfl
theorem num_inj {a b : Int} (ha : I64 a) (hb : I64 b) (h : num a = num b) : a = b := by
  have h1 := next_num ha []
  have h2 := next_num hb []
  rw [h, h2] at h1
  injection h1 with h1; injection h1 with h1 _
  exact (zig_inj h1).symm
theorem take_same {l : List (Int × Int)} {c : Nat} (h : held l = true) (hl : ∀ x ∈ l, I64 x.1 ∧ I64 x.2) (hc : c ≤ l.length) : decide (putF (l.take c) = putF l) = decide ((c : Int) = l.length) := by
  rw [decide_eq_decide]
  constructor
  · intro he
    have := putF_inj (held_take c h) h (fun x hx => hl x (List.mem_of_mem_take hx)) hl he
    have := congrArg List.length this
    rw [List.length_take] at this; omega
  · intro he
    rw [List.take_of_length_le (by omega)]
set_option maxHeartbeats 4000000 in
theorem block_join (A B : Option Addr) (n c n2 c2 : Nat) (za zb : List Int) (x y cut : Int) (w : World) (ha : Sees w w.heap.size 1 A n (ints za)) (hb : Sees w w.heap.size 1 B n2 (ints zb)) (hza : ∀ z ∈ za, I64 z) (hzb : ∀ z ∈ zb, I64 z)
    (hn : n ≤ 9223372036854775807) (hn2 : n2 ≤ 9223372036854775807) (wx : I64 x) (wy : I64 y) (wc : I64 cut) :
    Calls Try.prog 7 #[.slice A n c, .slice B n2 c2, .int .i64 x, .int .i64 y, .int .i64 cut] w fun e w' => e = .returned (.bool true) ∧ Below w.heap.size w w' := by
  have HS1 := Lib.hid (samples_any A n c za w ha hza hn)
  have HB := Lib.hid hb
  have HZB := Lib.hid hzb
  have HL1 := Lib.hid (show (samplesOf 0 (za.take 20)).length = min n 20 by rw [samplesOf_length, List.length_take, ha.int_len]; omega)
  have HL2 := Lib.hid (show (samplesOf 0 (zb.take 20)).length = min n2 20 by rw [samplesOf_length, List.length_take, hb.int_len]; omega)
  have HH1 := Lib.hid (held_samples za)
  have HH2 := Lib.hid (held_samples zb)
  have HI1 := Lib.hid (samples20 za)
  have HI2 := Lib.hid (samples20 zb)
  have HWX := Lib.hid wx; have HWY := Lib.hid wy; have HWC := Lib.hid wc
  have HSB : Hid (∀ w', Below w.heap.size w w' → Calls Try.prog 12 #[.slice B n2 c2] w' (OwnAns 25 2 (min n2 20) (smps (samplesOf 0 (zb.take 20))) w')) := Lib.hid fun w' h => samples_any B n2 c2 zb w' ((HB.out.below h).more h.size) hzb hn2
  clear ha hb hza hzb wx wy wc HB HZB
  generalize samplesOf 0 (za.take 20) = X at *
  generalize samplesOf 0 (zb.take 20) = Y at *
  obtain ⟨m1, hm1⟩ : ∃ m1, min n 20 = m1 := ⟨_, rfl⟩
  obtain ⟨m2, hm2⟩ : ∃ m2, min n2 20 = m2 := ⟨_, rfl⟩
  have hm1' : m1 ≤ 20 := by omega
  have hm2' : m2 ≤ 20 := by omega
  rw [hm1] at HS1 HL1
  rw [hm2] at HSB HL2
  clear hm1 hm2
  have HPX := Lib.hid (putF_of HH1.out)
  have HPL1 := Lib.hid (putF_len X (by rw [HL1.out]; omega))
  have HPL2 := Lib.hid (putF_len Y (by rw [HL2.out]; omega))
  have HP1 := Lib.hid (show 1 ≤ (putF X).length by rw [putF_of HH1.out]; exact putB_pos X)
  have HP2 := Lib.hid (show 1 ≤ (putF Y).length by rw [putF_of HH2.out]; exact putB_pos Y)
  have HEQ := Lib.hid (show decide (putF X = putF Y) = decide (X = Y) by
    rw [decide_eq_decide]; exact ⟨fun h => putF_inj HH1.out HH2.out HI1.out HI2.out h, fun h => by rw [h]⟩)
  obtain ⟨i0, hi, hz0, hz1, hz2⟩ := info_parts Try.infoU8
  go_enter Try.func7, Try.ntmps7
  go_wp2_with fail
  refine HS1.out.mono ?_; rintro e w1 ⟨A1, c1, rfl, hown1, hb1, h1, h2⟩
  have HO1 := Lib.hid hown1; have HB1 := Lib.hid hb1
  have hs1 := hb1.size
  clear hown1 hb1 HS1
  go_wp2_with fail
  refine (HSB.out _ HB1.out).mono ?_; rintro e w2 ⟨A2, c2', rfl, hown2, hb2, h3, h4⟩
  have HSX := Lib.hid (Sees.of_own (own_below HO1.out hb2 (Nat.le_refl _)))
  have HSY := Lib.hid (Sees.of_own hown2)
  have HB2 := Lib.hid (HB1.out.trans (hb2.mono hs1))
  have hs2 := HB2.out.size
  have HC1 := Lib.hid (put_any A1 m1 c1 _ X w2 HSX.out (Nat.le_refl _) (by omega))
  clear hown2 hb2 HSB HO1 HB1
  go_wp2_with fail
  refine HC1.out.mono ?_; rintro e w3 ⟨A3, c3, rfl, hown3, hb3, h5, h6⟩
  have HB3 := Lib.hid (HB2.out.trans (hb3.mono hs2))
  have hs3 := hb3.size
  have HB23 := Lib.hid hb3
  have HO3 := Lib.hid hown3
  have HC2 := Lib.hid (put_any A2 m2 c2' _ Y w3 (HSY.out.below hb3) hs3 (by omega))
  clear hown3 hb3 HC1
  go_wp2_with fail
  refine HC2.out.mono ?_; rintro e w4 ⟨A4, c4, rfl, hown4, hb4, h7, h8⟩
  have HB4 := Lib.hid (HB3.out.trans (hb4.mono (by omega)))
  have HB24 := Lib.hid (HB23.out.trans (hb4.mono hs3))
  have HSP := Lib.hid (Sees.of_own (own_below HO3.out hb4 (Nat.le_refl _)))
  have HSQ := Lib.hid (Sees.of_own hown4)
  have hs4 := HB4.out.size
  have hs24 := HB24.out.size
  have HC3 := Lib.hid (same_u8 A3 A4 _ c3 _ c4 _ _ _ _ w4 HSP.out HSQ.out (by have := HPL1.out; omega) (by have := HPL2.out; omega))
  have hl1 := HPL1.out; have hl2 := HPL2.out; have hl3 := HP1.out; have hl4 := HP2.out
  rw [HEQ.out] at HC3
  clear hown4 hb4 HC2 HO3 HB3 HB2 HB23
  have HCX : Hid (∀ w', Below w2.heap.size w2 w' → ∀ c, c ≤ m1 → Calls Try.prog 8 #[.slice A1 c c1] w' (OwnAns 5 1 (putF (X.take c)).length (u8s (putF (X.take c))) w')) := Lib.hid fun w' hb c hc => by
    have := (HSX.out.below hb).take hc
    have e : (smps X).take (c * 2) = smps (X.take c) := by
      have e1 := smps_append (X.take c) (X.drop c)
      rw [List.take_append_drop] at e1
      rw [e1, List.take_append_of_le_length (by rw [smps_length, List.length_take]; have := HL1.out; omega), List.take_of_length_le (by rw [smps_length, List.length_take]; omega)]
    rw [e] at this
    exact put_any A1 c c1 _ _ w' this hb.size (by omega)
  have HTS : Hid (∀ c : Nat, c ≤ m1 → decide (putF (X.take c) = putF X) = decide ((c : Int) = m1)) := Lib.hid fun c hc => by
    have := take_same HH1.out HI1.out (show c ≤ X.length by rw [HL1.out]; exact hc)
    rw [HL1.out] at this; exact this
  have HTL : Hid (∀ c : Nat, (putF (X.take c)).length ≤ 20010) := Lib.hid fun c => putF_len _ (by rw [List.length_take, HL1.out]; omega)
  go_wp2_with fail
  refine HC3.out.mono ?_; rintro e w5 ⟨rfl, m5, rfl⟩
  have HC4 := Lib.hid (same_smp A1 A2 m1 c1 m2 c2' _ _ X Y (w4.drewN m5) ((HSX.out.below HB24.out).drewN m5) ((HSY.out.below HB24.out).drewN m5) (by omega) (by omega))
  generalize hdx : decide (X = Y) = dx at *
  clear hdx HC3
  have hdd : (dx != dx) = false := by simp
  have hx0 : (((putF X).length : Int) == 0) = false := beq_eq_false_iff_ne.2 (by omega)
  have hy0 : (((putF Y).length : Int) == 0) = false := beq_eq_false_iff_ne.2 (by omega)
  obtain ⟨p1, hp1⟩ : ∃ p1, (putF X).length = p1 := ⟨_, rfl⟩
  obtain ⟨p2, hp2⟩ : ∃ p2, (putF Y).length = p2 := ⟨_, rfl⟩
  rw [hp1] at hl1 hl3 hx0 h5 HSP ⊢
  rw [hp2] at hl2 hl4 hy0 h7 HSQ ⊢
  clear hp1 hp2 HPL1 HPL2 HP1 HP2 HPX
  go_wp2_with fail
  refine HC4.out.mono ?_; rintro e w6 ⟨rfl, m6, hw6⟩
  have HB6 := Lib.hid (show Below w.heap.size w w6 by rw [hw6]; exact below_drewN3 (below_drewN3 HB4.out m5) m6)
  have HB26 := Lib.hid (show Below w2.heap.size w2 w6 by rw [hw6]; exact below_drewN3 (below_drewN3 HB24.out m5) m6)
  have HSP6 := Lib.hid (show Sees w6 w4.heap.size 1 A3 p1 (u8s (putF X)) by rw [hw6]; exact (HSP.out.drewN m5).drewN m6)
  have hs46 : w4.heap.size ≤ w6.heap.size := by rw [hw6]; exact Nat.le_refl _
  clear hw6 HC4 HB4 HB24 HSP HSQ
  obtain ⟨cn, hcn⟩ : ∃ cn : Nat, nWithin cut 0 m1 = (cn : Int) := ⟨(nWithin cut 0 m1).toNat, by have := nWithin_in cut (lo := 0) (hi := (m1 : Int)) (by omega); omega⟩
  have hcm : cn ≤ m1 := by have := nWithin_in cut (lo := 0) (hi := (m1 : Int)) (by omega); omega
  have HCW := Lib.hid (within_any cut 0 m1 w6 HWC.out (by omega) (by omega) (by omega))
  rw [hcn] at HCW
  clear hcn
  go_wp2_with fail
  refine HCW.out.mono ?_; rintro e w' ⟨rfl, rfl⟩
  have HP7 := Lib.hid (HCX.out w6 HB26.out cn hcm)
  have HTS7 := HTS.out cn hcm
  have htl := HTL.out cn
  clear HCX HTS HTL HCW
  go_wp2_with fail
  refine HP7.out.mono ?_; rintro e w7 ⟨A7, c7, rfl, hown7, hb7, h9, h10⟩
  have HB7 := Lib.hid (HB6.out.trans (hb7.mono (HB6.out.size)))
  have HC7 := Lib.hid (same_u8 A7 A3 _ c7 p1 c3 _ _ _ _ w7 (Sees.of_own hown7) (HSP6.out.below (hb7.mono hs46)) (by omega) (by omega))
  rw [HTS7] at HC7
  obtain ⟨db, hdb⟩ : ∃ db, decide ((cn : Int) = m1) = db := ⟨_, rfl⟩
  have hbe : ((cn : Int) == m1) = db := by rw [← hdb]; by_cases h : (cn : Int) = m1 <;> simp [h]
  have hbb : (db != db) = false := by simp
  rw [hdb] at HC7
  clear hdb
  clear HTS7 hown7 hb7 HP7 HB6 HB26 HSP6
  generalize (putF (X.take cn)).length = p3 at *
  go_wp2_with fail
  refine HC7.out.mono ?_; rintro e w8 ⟨rfl, m8, hw8⟩
  have HB8 := Lib.hid (show Below w.heap.size w w8 by rw [hw8]; exact below_drewN3 HB7.out m8)
  clear hw8 HC7 HB7
  have hs8 := HB8.out.size
  have HSN := Lib.hid (new_sees w8 3 (ints [x]) 1 1 rfl)
  have HN1 := Lib.hid (number_any (some ⟨w8.heap.size, 0, none⟩) 1 1 _ [x] _ HSN.out (by simp) (by omega) (by intro z hz; simp at hz; subst hz; exact HWX.out))
  rw [show nums [x] = num x by simp [nums]] at HN1
  have HB9 := Lib.hid (HB8.out.alloc hs8 (.cells (ints [x]).toArray 3))
  clear HSN HB8
  go_wp2_with fail
  refine HN1.out.mono ?_; rintro e w9 ⟨A9, c9, rfl, hown9, hb9, h11, h12⟩
  have HB10 := Lib.hid (HB9.out.trans (hb9.mono (by simp; omega)))
  have hs9 := HB10.out.size
  have HO9 := Lib.hid hown9
  have HSN := Lib.hid (new_sees w9 3 (ints [y]) 1 1 rfl)
  have HN2 := Lib.hid (number_any (some ⟨w9.heap.size, 0, none⟩) 1 1 _ [y] _ HSN.out (by simp) (by omega) (by intro z hz; simp at hz; subst hz; exact HWY.out))
  rw [show nums [y] = num y by simp [nums]] at HN2
  have HB11 := Lib.hid (HB10.out.alloc hs9 (.cells (ints [y]).toArray 3))
  have hlx := num_len x; have hly := num_len y; have hlx1 := num_pos x
  clear HSN HB10 HB9 HN1 hown9 hb9
  go_wp2_with fail
  refine HN2.out.mono ?_; rintro e w10 ⟨A10, c10, rfl, hown10, hb10, h13, h14⟩
  have HB12 := Lib.hid (HB11.out.trans (hb10.mono (by simp; omega)))
  have hs10 := HB12.out.size
  have HSU := Lib.hid (Sees.of_own (own_below (HO9.out.alloc (.cells (ints [y]).toArray 3)) hb10 (Nat.le_refl _)))
  have HSV := Lib.hid (Sees.of_own hown10)
  clear HN2 HB11 HO9 hown10 hb10
  have HNX := Lib.hid (next_num HWX.out (num y))
  have HNB := Lib.hid (show ∀ z ∈ num x ++ num y, 0 ≤ z ∧ z < 256 from fun z hz => (List.mem_append.1 hz).elim (num_byte HWX.out z) (num_byte HWY.out z))
  have HIJ := Lib.hid (show decide (num x = num y) = decide (x = y) by rw [decide_eq_decide]; exact ⟨num_inj HWX.out HWY.out, fun h => by rw [h]⟩)
  have HLX := Lib.hid (show (num x ++ num y).length = (num x).length + (num y).length from List.length_append ..)
  have HZX := Lib.hid (zag_zig x)
  have hle : (num x ++ num y).length ≤ 20 := by have := HLX.out; omega
  generalize hnx : num x = NX at *
  generalize hny : num y = NY at *
  clear hnx hny
  have HNV := Lib.hid (show nextV (NX ++ NY) = x by unfold nextV; rw [HNX.out]; exact HZX.out)
  have HNK := Lib.hid (show nextK (NX ++ NY) = NX.length by unfold nextK; rw [HNX.out])
  have HOE := Lib.hid (show (w10.alloc (.cells #[] 5)).ownsRow w10.heap.size 5 1 (.slice (some ⟨w10.heap.size, 0, none⟩) 0 0) 0 [] from World.ownsRow_made w10 #[] 0 (Nat.le_refl _) (by unfold maxLen; omega) rfl)
  have HBE := Lib.hid ((Below.refl w10.heap.size w10).alloc (Nat.le_refl _) (.cells #[] 5))
  have HSU2 := Lib.hid (HSU.out.alloc (Nat.le_refl _) (.cells #[] 5))
  go_wp2_with (at_builtin; refine wpList_append_sees rfl (.tmp 68) (.tmp 69) 22 rfl w10.heap.size 5 i0 (.int .u8 0) 1 1 Try.underlying22 hi hz0 hz1 hz2 rfl (by decide) _ 0 [] rfl HOE.out _ _ _ _ (u8s NX) rfl HSU2.out (u8s_one _) (by unfold maxLen; omega) (by omega) (by simp) ?_)
  intro v11 w11 hown11 hg11
  have HB13 := Lib.hid (HBE.out.grown hg11 HBE.out.size (fun b hb => (HOE.out.lt b hb).1))
  have HO11 := Lib.hid hown11
  have HSV2 := Lib.hid (HSV.out.below HB13.out)
  have hs11 := HB13.out.size
  clear hown11 hg11 HOE HBE HSU2
  go_wp2_with (at_builtin; refine wpList_append_sees rfl (.tmp 70) (.tmp 71) 22 rfl w10.heap.size 5 i0 (.int .u8 0) 1 1 Try.underlying22 hi hz0 hz1 hz2 rfl (by decide) _ NX.length (u8s NX) rfl HO11.out _ _ _ _ (u8s NY) rfl HSV2.out (u8s_one _) (by unfold maxLen; omega) (by omega) hs11 ?_)
  intro v12 w12 hown12 hg12
  have HB14 := Lib.hid (HB13.out.grown hg12 hs11 (fun b hb => (HO11.out.lt b hb).1))
  rw [← u8s_append, ← HLX.out] at hown12
  obtain ⟨A12, c12, rfl, h15, h16⟩ := own_slice hown12
  have HN12 := Lib.hid (next_any A12 _ c12 _ _ w12 (Sees.of_own hown12) (by omega) HNB.out)
  rw [HNV.out, HNK.out] at HN12
  have HSU3 := Lib.hid (HSU.out.below HB14.out)
  have HSV3 := Lib.hid (HSV.out.below HB14.out)
  have HB15 := Lib.hid (HB12.out.trans (HB14.out.mono hs10))
  clear hown12 hg12 HO11 HSV2 HB13 HNV HNK HNB HNX HSU HSV HB12
  have hs14 := HB14.out.size
  clear HB14
  generalize (NX ++ NY).length = nn at *
  go_wp2_with fail
  refine HN12.out.mono ?_; rintro e w13 ⟨rfl, m13, hw13⟩
  have HB16 := Lib.hid (show Below w.heap.size w w13 by rw [hw13]; exact below_drewN3 HB15.out m13)
  have HSU4 := Lib.hid (show Sees w13 w10.heap.size 1 A9 NX.length (u8s NX) by rw [hw13]; exact HSU3.out.drewN m13)
  have HSV4 := Lib.hid (show Sees w13 w10.heap.size 1 A10 NY.length (u8s NY) by rw [hw13]; exact HSV3.out.drewN m13)
  have hs13 : w10.heap.size ≤ w13.heap.size := by rw [hw13]; exact hs14
  clear hw13 HN12 HB15 HSU3 HSV3 hs14
  obtain ⟨near, hnr⟩ : ∃ near, nWithin x (-64) 63 = near := ⟨_, rfl⟩
  have hnr2 := nWithin_in x (lo := -64) (hi := 63) (by omega)
  have HCW := Lib.hid (within_any x (-64) 63 w13 HWX.out (by omega) (by omega) (by omega))
  rw [hnr] at HCW hnr2
  clear hnr
  have HNE := Lib.hid (near_one hnr2.1 hnr2.2)
  have hs16 := HB16.out.size
  have HSN := Lib.hid (new_sees w13 3 (ints [near]) 1 1 rfl)
  have HN3 := Lib.hid (number_any (some ⟨w13.heap.size, 0, none⟩) 1 1 _ [near] _ HSN.out (by simp) (by omega) (by intro z hz; simp at hz; subst hz; unfold I64; omega))
  have HB17 := Lib.hid (HB16.out.alloc hs16 (.cells (ints [near]).toArray 3))
  rw [HNE.out] at HN3
  have HSU5 := Lib.hid (HSU4.out.alloc hs13 (.cells (ints [near]).toArray 3))
  have HSV5 := Lib.hid (HSV4.out.alloc hs13 (.cells (ints [near]).toArray 3))
  clear HSN HSU4 HSV4 HB16 hnr2
  obtain ⟨dxy, hdxy⟩ : ∃ dxy, decide (x = y) = dxy := ⟨_, rfl⟩
  have hxy : (x == y) = dxy := by rw [← hdxy]; by_cases h : x = y <;> simp [h]
  rw [hdxy] at HIJ
  clear hdxy
  have hxx : (x == x) = true := by simp
  have hdd2 : (dxy == dxy) = true := by simp
  have hnxl : ((NX.length : Int) == NX.length) = true := by simp
  obtain ⟨lx, hlxx⟩ : ∃ lx, NX.length = lx := ⟨_, rfl⟩
  rw [hlxx] at hlx hlx1 hnxl HSU5 ⊢
  have hlx2 : (1 : Int) ≤ lx := by omega
  have hlx3 : (lx : Int) ≤ 10 := by omega
  clear hlxx
  go_wp2_with fail
  refine HCW.out.mono ?_; rintro e w' ⟨rfl, rfl⟩
  go_wp2_with fail
  refine HN3.out.mono ?_; rintro e w14 ⟨A14, c14, rfl, hown14, hb14, h17, h18⟩
  have HB18 := Lib.hid (HB17.out.trans (hb14.mono (by simp; omega)))
  have HC9 := Lib.hid (same_u8 A9 A10 lx c9 _ c10 _ _ _ _ w14 (HSU5.out.below (hb14.mono (by simp; omega))) (HSV5.out.below (hb14.mono (by simp; omega))) (by omega) (by omega))
  rw [HIJ.out] at HC9
  clear hown14 hb14 HN3 HCW HB17 HSU5 HSV5
  go_wp2_with fail
  refine HC9.out.mono ?_; rintro e w15 ⟨rfl, m15, hw15⟩
  have HB19 := Lib.hid (show Below w.heap.size w w15 by rw [hw15]; exact below_drewN3 HB18.out m15)
  clear hw15 HC9 HB18
  have HN4 := Lib.hid (number_any none 0 0 0 [] w15 Sees.nil (Nat.zero_le _) (by omega) (by simp))
  rw [show nums [] = [] from rfl] at HN4
  go_wp2_with fail
  refine HN4.out.mono ?_; rintro e w16 ⟨A16, c16, rfl, hown16, hb16, h19, h20⟩
  have HB20 := Lib.hid (HB19.out.trans (hb16.mono HB19.out.size))
  have hs20 := HB20.out.size
  clear hown16 hb16 HN4 HB19
  go_wp2_with fail
  refine (block_runs w16).mono ?_; rintro e w17 ⟨rfl, hb17⟩
  have HB21 := Lib.hid (HB20.out.trans (hb17.mono hs20))
  clear hb17 HB20
  go_wp2_with fail
  go_ret
  exact ⟨rfl, HB21.out⟩
end Go.Proofs.Ythnnbbhoelhmbaa
