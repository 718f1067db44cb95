/- The walk of SpanLaws, out of the contracts (gen_slaws.py). -/
import Derived.Test.YtakgkggkfdbejaaSpanAns
namespace Go.Proofs.Ytakgkggkfdbejaa
open Go.ChangeShapes Go.WideShapes Go.ChangeAt Go.RowKit
set_option linter.unusedVariables false
set_option maxRecDepth 100000
theorem rightAt_bnd {p : Option Int} {x : Int × Int} (h : rightAt p x = true) : 0 ≤ x.1 ∧ x.1 ≤ x.2 ∧ x.2 < 200 := by
  obtain ⟨f, t⟩ := x
  by_cases hh : 0 ≤ f ∧ f ≤ t ∧ t < 200
  · exact hh
  · rw [rightAt_no hh] at h; cases h
theorem rightF_step {l : List (Int × Int)} {k : Nat} (h : k < l.length) : rightF none (l.take (k + 1)) = (rightF none (l.take k) && rightAt (match (l.take k).getLast? with | none => none | some y => some y.2) l[k]) := by
  rw [List.take_succ_eq_append_getElem h, rightF_snoc]; rfl
theorem last_take {l : List (Int × Int)} {j : Nat} (h : j < l.length) : (l.take (j + 1)).getLast? = some l[j] := by
  rw [List.take_succ_eq_append_getElem h]; exact List.getLast?_concat
set_option maxHeartbeats 16000000 in
theorem span_laws (A A2 A3 A4 : Option Addr) (n c n2 c2 n3 c3 n4 c4 k4 : Nat) (za zb zc : List Int) (zr : List (Int × Int)) (w : World) (ha : Sees w w.heap.size 1 A n (ints za)) (hb : Sees w w.heap.size 1 A2 n2 (ints zb)) (hc : Sees w w.heap.size 1 A3 n3 (ints zc)) (hr : Sees w w.heap.size 2 A4 k4 (smps zr))
    (wa : ∀ z ∈ za, I64 z) (wb : ∀ z ∈ zb, I64 z) (wc : ∀ z ∈ zc, I64 z) (hn : n ≤ 9223372036854775807) (hn2 : n2 ≤ 9223372036854775807) (hn3 : n3 ≤ 9223372036854775807) (hk4 : min (n4 : Int) 6 = k4) (hn4 : n4 ≤ c4) (hn4m : c4 ≤ 9223372036854775807) :
    Calls Try.prog 5 #[.slice A n c, .slice A2 n2 c2, .slice A3 n3 c3, .slice A4 n4 c4] w fun e w' => e = .returned (.bool true) ∧ Below w.heap.size w w' := by
  have HSB := Lib.hid hb; have WB := Lib.hid wb; have HSC := Lib.hid hc; have WC := Lib.hid wc
  have HF1 := Lib.hid (flags_any A n c za _ w ha wa (Nat.le_refl _) hn)
  have PR := Lib.hid (fun W (h : Below w.heap.size w W) => hr.below h)
  have HK4 := Lib.hid hk4
  have hk6 : k4 ≤ 6 := by omega
  have hk4c : k4 ≤ c4 := by omega
  clear ha hb hc hr wa wb wc hk4
  generalize flagsL za = fa at *
  go_enter Try.func5, Try.ntmps5
  go_wp2_with fail
  refine HF1.out.mono ?_; rintro e w1 ⟨AXb, Ax, cx, rfl, _, hp1, hb1, hcx, hmx⟩
  have HP1 := Lib.hid hp1; have HB1 := Lib.hid hb1
  have HF2 := Lib.hid (flags_any A2 n2 c2 zb _ w1 (HSB.out.below hb1) WB.out hb1.size hn2)
  have Sx := Lib.hid (spK_spl fa)
  generalize spK fa 60 = x at *
  generalize flagsL zb = fb at *
  clear hp1 hb1 HF1 HSB WB
  go_wp2_with fail
  refine HF2.out.mono ?_; rintro e w2 ⟨AYb, Ay, cy, rfl, _, hp2, hb2, hcy, hmy⟩
  have HP2 := Lib.hid hp2
  have HPX := Lib.hid ((HP1.out.below hb2).more hb2.size)
  have HB2 := Lib.hid (HB1.out.trans (hb2.mono HB1.out.size))
  have HF3 := Lib.hid (flags_any A3 n3 c3 zc _ w2 (HSC.out.below HB2.out) WC.out HB2.out.size hn3)
  have Sy := Lib.hid (spK_spl fb)
  generalize spK fb 60 = y at *
  generalize flagsL zc = fc at *
  clear hp2 hb2 HF2 HSC WC HP1 HB1
  go_wp2_with fail
  refine HF3.out.mono ?_; rintro e w3 ⟨AZb, Az, cz, rfl, _, hp3, hb3, hcz, hmz⟩
  have Sz := Lib.hid (spK_spl fc)
  generalize spK fc 60 = z at *
  have hsz := hb3.size
  have Px := Lib.hid (fun W (h : Below w3.heap.size w3 W) => ((HPX.out.below hb3).more hsz).below h)
  have Py := Lib.hid (fun W (h : Below w3.heap.size w3 W) => ((HP2.out.below hb3).more hsz).below h)
  have Pz := Lib.hid (fun W (h : Below w3.heap.size w3 W) => hp3.below h)
  have HBw0 := Lib.hid (HB2.out.trans (hb3.mono HB2.out.size))
  have HBx0 := Lib.hid (Below.refl w3.heap.size w3)
  have HBy0 := Lib.hid (Below.refl w3.heap.size w3)
  have HBz0 := Lib.hid (Below.refl w3.heap.size w3)
  clear hp3 hb3 hsz HF3 HPX HP2 HB2
  go_wp2_with fail
  refine (join_three Ax Ay Az _ cx _ cy _ cz x y z w3 ((Px.out _ HBx0.out).more HBx0.out.size) ((Py.out _ HBy0.out).more HBy0.out.size) ((Pz.out _ HBz0.out).more HBz0.out.size) Sx.out Sy.out Sz.out hcx hmx hcy hmy hcz hmz).mono ?_; rintro e w4 ⟨j, Aj, cj, rfl, sj, fj, hsee, hbel, hcj, hmj⟩
  have Pj := Lib.hid (fun W (h : Below w4.heap.size w4 W) => hsee.below h)
  have Sj := Lib.hid sj; have Fj := Lib.hid fj
  have hst1 : Below w3.heap.size w3 w4 := hbel
  have HBw1 := Lib.hid (HBw0.out.trans (hst1.mono HBw0.out.size))
  have HBx1 := Lib.hid (HBx0.out.trans (hst1.mono HBx0.out.size))
  have HBy1 := Lib.hid (HBy0.out.trans (hst1.mono HBy0.out.size))
  have HBz1 := Lib.hid (HBz0.out.trans (hst1.mono HBz0.out.size))
  clear hst1 HBw0 HBx0 HBy0 HBz0
  clear hbel hsee sj fj
  have HBj0 := Lib.hid (Below.refl w4.heap.size w4)
  go_wp2_with fail
  refine (join_two Ay Ax _ cy _ cx y x w4 ((Py.out _ HBy1.out).more HBy1.out.size) ((Px.out _ HBx1.out).more HBx1.out.size) Sy.out Sx.out hcy hmy hcx hmx).mono ?_; rintro e w5 ⟨q1, Aq1, cq1, rfl, sq1, fq1, hsee, hbel, hcq1, hmq1⟩
  have Pq1 := Lib.hid (fun W (h : Below w5.heap.size w5 W) => hsee.below h)
  have Sq1 := Lib.hid sq1; have Fq1 := Lib.hid fq1
  have hst2 : Below w4.heap.size w4 w5 := hbel
  have HBw2 := Lib.hid (HBw1.out.trans (hst2.mono HBw1.out.size))
  have HBx2 := Lib.hid (HBx1.out.trans (hst2.mono HBx1.out.size))
  have HBy2 := Lib.hid (HBy1.out.trans (hst2.mono HBy1.out.size))
  have HBz2 := Lib.hid (HBz1.out.trans (hst2.mono HBz1.out.size))
  have HBj2 := Lib.hid (HBj0.out.trans (hst2.mono HBj0.out.size))
  clear hst2 HBw1 HBx1 HBy1 HBz1 HBj0
  clear hbel hsee sq1 fq1
  have HBq10 := Lib.hid (Below.refl w5.heap.size w5)
  go_wp2_with fail
  refine (join_two Az Aq1 _ cz _ cq1 z q1 w5 ((Pz.out _ HBz2.out).more HBz2.out.size) ((Pq1.out _ HBq10.out).more HBq10.out.size) Sz.out Sq1.out hcz hmz hcq1 hmq1).mono ?_; rintro e w6 ⟨q2, Aq2, cq2, rfl, sq2, fq2, hsee, hbel, hcq2, hmq2⟩
  have Pq2 := Lib.hid (fun W (h : Below w6.heap.size w6 W) => hsee.below h)
  have Sq2 := Lib.hid sq2; have Fq2 := Lib.hid fq2
  have hst3 : Below w5.heap.size w5 w6 := hbel
  have HBw3 := Lib.hid (HBw2.out.trans (hst3.mono HBw2.out.size))
  have HBx3 := Lib.hid (HBx2.out.trans (hst3.mono HBx2.out.size))
  have HBy3 := Lib.hid (HBy2.out.trans (hst3.mono HBy2.out.size))
  have HBz3 := Lib.hid (HBz2.out.trans (hst3.mono HBz2.out.size))
  have HBj3 := Lib.hid (HBj2.out.trans (hst3.mono HBj2.out.size))
  have HBq13 := Lib.hid (HBq10.out.trans (hst3.mono HBq10.out.size))
  clear hst3 HBw2 HBx2 HBy2 HBz2 HBj2 HBq10
  clear hbel hsee sq2 fq2
  have HBq20 := Lib.hid (Below.refl w6.heap.size w6)
  clear HBq13
  have hq : j = q2 := Sj.out.eq Sq2.out fun t => by simp only [Fj.out t, Fq2.out t, Fq1.out t]; by_cases hx : InL x t <;> by_cases hy : InL y t <;> by_cases hz : InL z t <;> simp [hx, hy, hz]
  have HQ := Lib.hid hq; clear hq
  go_wp2_with fail
  refine (same_spn Aj Aq2 _ cj _ cq2 _ _ j q2 w6 ((Pj.out _ HBj3.out).more HBj3.out.size) ((Pq2.out _ HBq20.out).more HBq20.out.size) (by omega) (by omega)).mono ?_; rintro e w7 ⟨rfl, m, hwm⟩
  rw [decide_eq_true HQ.out]
  have hst4 : Below w6.heap.size w6 w7 := by rw [hwm]; exact below_drewN3 (Below.refl _ _) m
  have HBw4 := Lib.hid (HBw3.out.trans (hst4.mono HBw3.out.size))
  have HBx4 := Lib.hid (HBx3.out.trans (hst4.mono HBx3.out.size))
  have HBy4 := Lib.hid (HBy3.out.trans (hst4.mono HBy3.out.size))
  have HBz4 := Lib.hid (HBz3.out.trans (hst4.mono HBz3.out.size))
  have HBj4 := Lib.hid (HBj3.out.trans (hst4.mono HBj3.out.size))
  have HBq24 := Lib.hid (HBq20.out.trans (hst4.mono HBq20.out.size))
  clear hst4 HBw3 HBx3 HBy3 HBz3 HBj3 HBq20
  clear hwm HQ
  clear HBq24
  go_wp2_with fail
  refine (both_two Ax Ay _ cx _ cy x y w7 ((Px.out _ HBx4.out).more HBx4.out.size) ((Py.out _ HBy4.out).more HBy4.out.size) Sx.out Sy.out).mono ?_; rintro e w8 ⟨b1, Ab1, cb1, rfl, sb1, fb1, hsee, hbel, hcb1, hmb1⟩
  have Pb1 := Lib.hid (fun W (h : Below w8.heap.size w8 W) => hsee.below h)
  have Sb1 := Lib.hid sb1; have Fb1 := Lib.hid fb1
  have hst5 : Below w7.heap.size w7 w8 := hbel
  have HBw5 := Lib.hid (HBw4.out.trans (hst5.mono HBw4.out.size))
  have HBx5 := Lib.hid (HBx4.out.trans (hst5.mono HBx4.out.size))
  have HBy5 := Lib.hid (HBy4.out.trans (hst5.mono HBy4.out.size))
  have HBz5 := Lib.hid (HBz4.out.trans (hst5.mono HBz4.out.size))
  have HBj5 := Lib.hid (HBj4.out.trans (hst5.mono HBj4.out.size))
  clear hst5 HBw4 HBx4 HBy4 HBz4 HBj4
  clear hbel hsee sb1 fb1
  have HBb10 := Lib.hid (Below.refl w8.heap.size w8)
  go_wp2_with fail
  refine (both_two Ay Ax _ cy _ cx y x w8 ((Py.out _ HBy5.out).more HBy5.out.size) ((Px.out _ HBx5.out).more HBx5.out.size) Sy.out Sx.out).mono ?_; rintro e w9 ⟨b2, Ab2, cb2, rfl, sb2, fb2, hsee, hbel, hcb2, hmb2⟩
  have Pb2 := Lib.hid (fun W (h : Below w9.heap.size w9 W) => hsee.below h)
  have Sb2 := Lib.hid sb2; have Fb2 := Lib.hid fb2
  have hst6 : Below w8.heap.size w8 w9 := hbel
  have HBw6 := Lib.hid (HBw5.out.trans (hst6.mono HBw5.out.size))
  have HBx6 := Lib.hid (HBx5.out.trans (hst6.mono HBx5.out.size))
  have HBy6 := Lib.hid (HBy5.out.trans (hst6.mono HBy5.out.size))
  have HBz6 := Lib.hid (HBz5.out.trans (hst6.mono HBz5.out.size))
  have HBj6 := Lib.hid (HBj5.out.trans (hst6.mono HBj5.out.size))
  have HBb16 := Lib.hid (HBb10.out.trans (hst6.mono HBb10.out.size))
  clear hst6 HBw5 HBx5 HBy5 HBz5 HBj5 HBb10
  clear hbel hsee sb2 fb2
  have HBb20 := Lib.hid (Below.refl w9.heap.size w9)
  have hq : b1 = b2 := Sb1.out.eq Sb2.out fun t => by simp only [Fb1.out t, Fb2.out t]; by_cases hx : InL x t <;> by_cases hy : InL y t <;> simp [hx, hy]
  have HQ := Lib.hid hq; clear hq
  go_wp2_with fail
  refine (same_spn Ab1 Ab2 _ cb1 _ cb2 _ _ b1 b2 w9 ((Pb1.out _ HBb16.out).more HBb16.out.size) ((Pb2.out _ HBb20.out).more HBb20.out.size) (by omega) (by omega)).mono ?_; rintro e w10 ⟨rfl, m, hwm⟩
  rw [decide_eq_true HQ.out]
  have hst7 : Below w9.heap.size w9 w10 := by rw [hwm]; exact below_drewN3 (Below.refl _ _) m
  have HBw7 := Lib.hid (HBw6.out.trans (hst7.mono HBw6.out.size))
  have HBx7 := Lib.hid (HBx6.out.trans (hst7.mono HBx6.out.size))
  have HBy7 := Lib.hid (HBy6.out.trans (hst7.mono HBy6.out.size))
  have HBz7 := Lib.hid (HBz6.out.trans (hst7.mono HBz6.out.size))
  have HBj7 := Lib.hid (HBj6.out.trans (hst7.mono HBj6.out.size))
  have HBb17 := Lib.hid (HBb16.out.trans (hst7.mono HBb16.out.size))
  have HBb27 := Lib.hid (HBb20.out.trans (hst7.mono HBb20.out.size))
  clear hst7 HBw6 HBx6 HBy6 HBz6 HBj6 HBb16 HBb20
  clear hwm HQ
  clear HBb17
  clear HBb27
  go_wp2_with fail
  refine (both_two Ax Ay _ cx _ cy x y w10 ((Px.out _ HBx7.out).more HBx7.out.size) ((Py.out _ HBy7.out).more HBy7.out.size) Sx.out Sy.out).mono ?_; rintro e w11 ⟨b3, Ab3, cb3, rfl, sb3, fb3, hsee, hbel, hcb3, hmb3⟩
  have Pb3 := Lib.hid (fun W (h : Below w11.heap.size w11 W) => hsee.below h)
  have Sb3 := Lib.hid sb3; have Fb3 := Lib.hid fb3
  have hst8 : Below w10.heap.size w10 w11 := hbel
  have HBw8 := Lib.hid (HBw7.out.trans (hst8.mono HBw7.out.size))
  have HBx8 := Lib.hid (HBx7.out.trans (hst8.mono HBx7.out.size))
  have HBy8 := Lib.hid (HBy7.out.trans (hst8.mono HBy7.out.size))
  have HBz8 := Lib.hid (HBz7.out.trans (hst8.mono HBz7.out.size))
  have HBj8 := Lib.hid (HBj7.out.trans (hst8.mono HBj7.out.size))
  clear hst8 HBw7 HBx7 HBy7 HBz7 HBj7
  clear hbel hsee sb3 fb3
  have HBb30 := Lib.hid (Below.refl w11.heap.size w11)
  go_wp2_with fail
  refine (less_two Ax Ay _ cx _ cy x y w11 ((Px.out _ HBx8.out).more HBx8.out.size) ((Py.out _ HBy8.out).more HBy8.out.size) Sx.out Sy.out).mono ?_; rintro e w12 ⟨l1, Al1, cl1, rfl, sl1, fl1, hsee, hbel, hcl1, hml1⟩
  have Pl1 := Lib.hid (fun W (h : Below w12.heap.size w12 W) => hsee.below h)
  have Sl1 := Lib.hid sl1; have Fl1 := Lib.hid fl1
  have hst9 : Below w11.heap.size w11 w12 := hbel
  have HBw9 := Lib.hid (HBw8.out.trans (hst9.mono HBw8.out.size))
  have HBx9 := Lib.hid (HBx8.out.trans (hst9.mono HBx8.out.size))
  have HBy9 := Lib.hid (HBy8.out.trans (hst9.mono HBy8.out.size))
  have HBz9 := Lib.hid (HBz8.out.trans (hst9.mono HBz8.out.size))
  have HBj9 := Lib.hid (HBj8.out.trans (hst9.mono HBj8.out.size))
  have HBb39 := Lib.hid (HBb30.out.trans (hst9.mono HBb30.out.size))
  clear hst9 HBw8 HBx8 HBy8 HBz8 HBj8 HBb30
  clear hbel hsee sl1 fl1
  have HBl10 := Lib.hid (Below.refl w12.heap.size w12)
  go_wp2_with fail
  refine (join_two Ab3 Al1 _ cb3 _ cl1 b3 l1 w12 ((Pb3.out _ HBb39.out).more HBb39.out.size) ((Pl1.out _ HBl10.out).more HBl10.out.size) Sb3.out Sl1.out hcb3 hmb3 hcl1 hml1).mono ?_; rintro e w13 ⟨q3, Aq3, cq3, rfl, sq3, fq3, hsee, hbel, hcq3, hmq3⟩
  have Pq3 := Lib.hid (fun W (h : Below w13.heap.size w13 W) => hsee.below h)
  have Sq3 := Lib.hid sq3; have Fq3 := Lib.hid fq3
  have hst10 : Below w12.heap.size w12 w13 := hbel
  have HBw10 := Lib.hid (HBw9.out.trans (hst10.mono HBw9.out.size))
  have HBx10 := Lib.hid (HBx9.out.trans (hst10.mono HBx9.out.size))
  have HBy10 := Lib.hid (HBy9.out.trans (hst10.mono HBy9.out.size))
  have HBz10 := Lib.hid (HBz9.out.trans (hst10.mono HBz9.out.size))
  have HBj10 := Lib.hid (HBj9.out.trans (hst10.mono HBj9.out.size))
  have HBb310 := Lib.hid (HBb39.out.trans (hst10.mono HBb39.out.size))
  have HBl110 := Lib.hid (HBl10.out.trans (hst10.mono HBl10.out.size))
  clear hst10 HBw9 HBx9 HBy9 HBz9 HBj9 HBb39 HBl10
  clear hbel hsee sq3 fq3
  have HBq30 := Lib.hid (Below.refl w13.heap.size w13)
  clear HBb310
  clear HBl110
  have hq : q3 = x := Sq3.out.eq Sx.out fun t => by simp only [Fq3.out t, Fb3.out t, Fl1.out t]; by_cases hx : InL x t <;> by_cases hy : InL y t <;> simp [hx, hy]
  have HQ := Lib.hid hq; clear hq
  go_wp2_with fail
  refine (same_spn Aq3 Ax _ cq3 _ cx _ _ q3 x w13 ((Pq3.out _ HBq30.out).more HBq30.out.size) ((Px.out _ HBx10.out).more HBx10.out.size) (by omega) (by omega)).mono ?_; rintro e w14 ⟨rfl, m, hwm⟩
  rw [decide_eq_true HQ.out]
  have hst11 : Below w13.heap.size w13 w14 := by rw [hwm]; exact below_drewN3 (Below.refl _ _) m
  have HBw11 := Lib.hid (HBw10.out.trans (hst11.mono HBw10.out.size))
  have HBx11 := Lib.hid (HBx10.out.trans (hst11.mono HBx10.out.size))
  have HBy11 := Lib.hid (HBy10.out.trans (hst11.mono HBy10.out.size))
  have HBz11 := Lib.hid (HBz10.out.trans (hst11.mono HBz10.out.size))
  have HBj11 := Lib.hid (HBj10.out.trans (hst11.mono HBj10.out.size))
  have HBq311 := Lib.hid (HBq30.out.trans (hst11.mono HBq30.out.size))
  clear hst11 HBw10 HBx10 HBy10 HBz10 HBj10 HBq30
  clear hwm HQ
  clear HBq311
  go_wp2_with fail
  refine (less_two Ax Ay _ cx _ cy x y w14 ((Px.out _ HBx11.out).more HBx11.out.size) ((Py.out _ HBy11.out).more HBy11.out.size) Sx.out Sy.out).mono ?_; rintro e w15 ⟨l2, Al2, cl2, rfl, sl2, fl2, hsee, hbel, hcl2, hml2⟩
  have Pl2 := Lib.hid (fun W (h : Below w15.heap.size w15 W) => hsee.below h)
  have Sl2 := Lib.hid sl2; have Fl2 := Lib.hid fl2
  have hst12 : Below w14.heap.size w14 w15 := hbel
  have HBw12 := Lib.hid (HBw11.out.trans (hst12.mono HBw11.out.size))
  have HBx12 := Lib.hid (HBx11.out.trans (hst12.mono HBx11.out.size))
  have HBy12 := Lib.hid (HBy11.out.trans (hst12.mono HBy11.out.size))
  have HBz12 := Lib.hid (HBz11.out.trans (hst12.mono HBz11.out.size))
  have HBj12 := Lib.hid (HBj11.out.trans (hst12.mono HBj11.out.size))
  clear hst12 HBw11 HBx11 HBy11 HBz11 HBj11
  clear hbel hsee sl2 fl2
  have HBl20 := Lib.hid (Below.refl w15.heap.size w15)
  go_wp2_with fail
  refine (both_two Al2 Ay _ cl2 _ cy l2 y w15 ((Pl2.out _ HBl20.out).more HBl20.out.size) ((Py.out _ HBy12.out).more HBy12.out.size) Sl2.out Sy.out).mono ?_; rintro e w16 ⟨b4, Ab4, cb4, rfl, sb4, fb4, hsee, hbel, hcb4, hmb4⟩
  have Pb4 := Lib.hid (fun W (h : Below w16.heap.size w16 W) => hsee.below h)
  have Sb4 := Lib.hid sb4; have Fb4 := Lib.hid fb4
  have hst13 : Below w15.heap.size w15 w16 := hbel
  have HBw13 := Lib.hid (HBw12.out.trans (hst13.mono HBw12.out.size))
  have HBx13 := Lib.hid (HBx12.out.trans (hst13.mono HBx12.out.size))
  have HBy13 := Lib.hid (HBy12.out.trans (hst13.mono HBy12.out.size))
  have HBz13 := Lib.hid (HBz12.out.trans (hst13.mono HBz12.out.size))
  have HBj13 := Lib.hid (HBj12.out.trans (hst13.mono HBj12.out.size))
  have HBl213 := Lib.hid (HBl20.out.trans (hst13.mono HBl20.out.size))
  clear hst13 HBw12 HBx12 HBy12 HBz12 HBj12 HBl20
  clear hbel hsee sb4 fb4
  have HBb40 := Lib.hid (Below.refl w16.heap.size w16)
  clear HBl213
  obtain rfl : b4 = [] := Sb4.out.void fun t => by simp only [Fb4.out t, Fl2.out t]; by_cases hx : InL x t <;> by_cases hy : InL y t <;> simp [hx, hy]
  clear HBb40
  go_wp2_with fail
  refine (join_two Ay Az _ cy _ cz y z w16 ((Py.out _ HBy13.out).more HBy13.out.size) ((Pz.out _ HBz13.out).more HBz13.out.size) Sy.out Sz.out hcy hmy hcz hmz).mono ?_; rintro e w17 ⟨q4, Aq4, cq4, rfl, sq4, fq4, hsee, hbel, hcq4, hmq4⟩
  have Pq4 := Lib.hid (fun W (h : Below w17.heap.size w17 W) => hsee.below h)
  have Sq4 := Lib.hid sq4; have Fq4 := Lib.hid fq4
  have hst14 : Below w16.heap.size w16 w17 := hbel
  have HBw14 := Lib.hid (HBw13.out.trans (hst14.mono HBw13.out.size))
  have HBx14 := Lib.hid (HBx13.out.trans (hst14.mono HBx13.out.size))
  have HBy14 := Lib.hid (HBy13.out.trans (hst14.mono HBy13.out.size))
  have HBz14 := Lib.hid (HBz13.out.trans (hst14.mono HBz13.out.size))
  have HBj14 := Lib.hid (HBj13.out.trans (hst14.mono HBj13.out.size))
  clear hst14 HBw13 HBx13 HBy13 HBz13 HBj13
  clear hbel hsee sq4 fq4
  have HBq40 := Lib.hid (Below.refl w17.heap.size w17)
  go_wp2_with fail
  refine (less_two Ax Aq4 _ cx _ cq4 x q4 w17 ((Px.out _ HBx14.out).more HBx14.out.size) ((Pq4.out _ HBq40.out).more HBq40.out.size) Sx.out Sq4.out).mono ?_; rintro e w18 ⟨l3, Al3, cl3, rfl, sl3, fl3, hsee, hbel, hcl3, hml3⟩
  have Pl3 := Lib.hid (fun W (h : Below w18.heap.size w18 W) => hsee.below h)
  have Sl3 := Lib.hid sl3; have Fl3 := Lib.hid fl3
  have hst15 : Below w17.heap.size w17 w18 := hbel
  have HBw15 := Lib.hid (HBw14.out.trans (hst15.mono HBw14.out.size))
  have HBx15 := Lib.hid (HBx14.out.trans (hst15.mono HBx14.out.size))
  have HBy15 := Lib.hid (HBy14.out.trans (hst15.mono HBy14.out.size))
  have HBz15 := Lib.hid (HBz14.out.trans (hst15.mono HBz14.out.size))
  have HBj15 := Lib.hid (HBj14.out.trans (hst15.mono HBj14.out.size))
  have HBq415 := Lib.hid (HBq40.out.trans (hst15.mono HBq40.out.size))
  clear hst15 HBw14 HBx14 HBy14 HBz14 HBj14 HBq40
  clear hbel hsee sl3 fl3
  have HBl30 := Lib.hid (Below.refl w18.heap.size w18)
  clear HBq415
  go_wp2_with fail
  refine (less_two Ax Ay _ cx _ cy x y w18 ((Px.out _ HBx15.out).more HBx15.out.size) ((Py.out _ HBy15.out).more HBy15.out.size) Sx.out Sy.out).mono ?_; rintro e w19 ⟨l4, Al4, cl4, rfl, sl4, fl4, hsee, hbel, hcl4, hml4⟩
  have Pl4 := Lib.hid (fun W (h : Below w19.heap.size w19 W) => hsee.below h)
  have Sl4 := Lib.hid sl4; have Fl4 := Lib.hid fl4
  have hst16 : Below w18.heap.size w18 w19 := hbel
  have HBw16 := Lib.hid (HBw15.out.trans (hst16.mono HBw15.out.size))
  have HBx16 := Lib.hid (HBx15.out.trans (hst16.mono HBx15.out.size))
  have HBy16 := Lib.hid (HBy15.out.trans (hst16.mono HBy15.out.size))
  have HBz16 := Lib.hid (HBz15.out.trans (hst16.mono HBz15.out.size))
  have HBj16 := Lib.hid (HBj15.out.trans (hst16.mono HBj15.out.size))
  have HBl316 := Lib.hid (HBl30.out.trans (hst16.mono HBl30.out.size))
  clear hst16 HBw15 HBx15 HBy15 HBz15 HBj15 HBl30
  clear hbel hsee sl4 fl4
  have HBl40 := Lib.hid (Below.refl w19.heap.size w19)
  go_wp2_with fail
  refine (less_two Al4 Az _ cl4 _ cz l4 z w19 ((Pl4.out _ HBl40.out).more HBl40.out.size) ((Pz.out _ HBz16.out).more HBz16.out.size) Sl4.out Sz.out).mono ?_; rintro e w20 ⟨l5, Al5, cl5, rfl, sl5, fl5, hsee, hbel, hcl5, hml5⟩
  have Pl5 := Lib.hid (fun W (h : Below w20.heap.size w20 W) => hsee.below h)
  have Sl5 := Lib.hid sl5; have Fl5 := Lib.hid fl5
  have hst17 : Below w19.heap.size w19 w20 := hbel
  have HBw17 := Lib.hid (HBw16.out.trans (hst17.mono HBw16.out.size))
  have HBx17 := Lib.hid (HBx16.out.trans (hst17.mono HBx16.out.size))
  have HBy17 := Lib.hid (HBy16.out.trans (hst17.mono HBy16.out.size))
  have HBz17 := Lib.hid (HBz16.out.trans (hst17.mono HBz16.out.size))
  have HBj17 := Lib.hid (HBj16.out.trans (hst17.mono HBj16.out.size))
  have HBl317 := Lib.hid (HBl316.out.trans (hst17.mono HBl316.out.size))
  have HBl417 := Lib.hid (HBl40.out.trans (hst17.mono HBl40.out.size))
  clear hst17 HBw16 HBx16 HBy16 HBz16 HBj16 HBl316 HBl40
  clear hbel hsee sl5 fl5
  have HBl50 := Lib.hid (Below.refl w20.heap.size w20)
  clear HBl417
  have hq : l3 = l5 := Sl3.out.eq Sl5.out fun t => by simp only [Fl3.out t, Fq4.out t, Fl5.out t, Fl4.out t]; by_cases hx : InL x t <;> by_cases hy : InL y t <;> by_cases hz : InL z t <;> simp [hx, hy, hz]
  have HQ := Lib.hid hq; clear hq
  go_wp2_with fail
  refine (same_spn Al3 Al5 _ cl3 _ cl5 _ _ l3 l5 w20 ((Pl3.out _ HBl317.out).more HBl317.out.size) ((Pl5.out _ HBl50.out).more HBl50.out.size) (by omega) (by omega)).mono ?_; rintro e w21 ⟨rfl, m, hwm⟩
  rw [decide_eq_true HQ.out]
  have hst18 : Below w20.heap.size w20 w21 := by rw [hwm]; exact below_drewN3 (Below.refl _ _) m
  have HBw18 := Lib.hid (HBw17.out.trans (hst18.mono HBw17.out.size))
  have HBx18 := Lib.hid (HBx17.out.trans (hst18.mono HBx17.out.size))
  have HBy18 := Lib.hid (HBy17.out.trans (hst18.mono HBy17.out.size))
  have HBz18 := Lib.hid (HBz17.out.trans (hst18.mono HBz17.out.size))
  have HBj18 := Lib.hid (HBj17.out.trans (hst18.mono HBj17.out.size))
  have HBl318 := Lib.hid (HBl317.out.trans (hst18.mono HBl317.out.size))
  have HBl518 := Lib.hid (HBl50.out.trans (hst18.mono HBl50.out.size))
  clear hst18 HBw17 HBx17 HBy17 HBz17 HBj17 HBl317 HBl50
  clear hwm HQ
  clear HBl318
  clear HBl518
  go_wp2_with fail
  go_wp2_with fail
  refine (right_any Aj _ cj j _ w21 ((Pj.out _ HBj18.out).more HBj18.out.size) (Nat.le_refl _) hcj (by have := Sj.out.len; omega)).mono ?_; rintro e w22 ⟨rfl, hbel⟩
  rw [Sj.out.right]
  have hst19 : Below w21.heap.size w21 w22 := hbel
  have HBw19 := Lib.hid (HBw18.out.trans (hst19.mono HBw18.out.size))
  have HBx19 := Lib.hid (HBx18.out.trans (hst19.mono HBx18.out.size))
  have HBy19 := Lib.hid (HBy18.out.trans (hst19.mono HBy18.out.size))
  have HBz19 := Lib.hid (HBz18.out.trans (hst19.mono HBz18.out.size))
  have HBj19 := Lib.hid (HBj18.out.trans (hst19.mono HBj18.out.size))
  clear hst19 HBw18 HBx18 HBy18 HBz18 HBj18
  clear hbel
  clear HBj19
  go_wp2_with fail
  refine (both_two Ax Az _ cx _ cz x z w22 ((Px.out _ HBx19.out).more HBx19.out.size) ((Pz.out _ HBz19.out).more HBz19.out.size) Sx.out Sz.out).mono ?_; rintro e w23 ⟨b5, Ab5, cb5, rfl, sb5, fb5, hsee, hbel, hcb5, hmb5⟩
  have Pb5 := Lib.hid (fun W (h : Below w23.heap.size w23 W) => hsee.below h)
  have Sb5 := Lib.hid sb5; have Fb5 := Lib.hid fb5
  have hst20 : Below w22.heap.size w22 w23 := hbel
  have HBw20 := Lib.hid (HBw19.out.trans (hst20.mono HBw19.out.size))
  have HBx20 := Lib.hid (HBx19.out.trans (hst20.mono HBx19.out.size))
  have HBy20 := Lib.hid (HBy19.out.trans (hst20.mono HBy19.out.size))
  have HBz20 := Lib.hid (HBz19.out.trans (hst20.mono HBz19.out.size))
  clear hst20 HBw19 HBx19 HBy19 HBz19
  clear hbel hsee sb5 fb5
  have HBb50 := Lib.hid (Below.refl w23.heap.size w23)
  go_wp2_with fail
  refine (right_any Ab5 _ cb5 b5 _ w23 ((Pb5.out _ HBb50.out).more HBb50.out.size) (Nat.le_refl _) hcb5 (by have := Sb5.out.len; omega)).mono ?_; rintro e w24 ⟨rfl, hbel⟩
  rw [Sb5.out.right]
  have hst21 : Below w23.heap.size w23 w24 := hbel
  have HBw21 := Lib.hid (HBw20.out.trans (hst21.mono HBw20.out.size))
  have HBx21 := Lib.hid (HBx20.out.trans (hst21.mono HBx20.out.size))
  have HBy21 := Lib.hid (HBy20.out.trans (hst21.mono HBy20.out.size))
  have HBz21 := Lib.hid (HBz20.out.trans (hst21.mono HBz20.out.size))
  have HBb521 := Lib.hid (HBb50.out.trans (hst21.mono HBb50.out.size))
  clear hst21 HBw20 HBx20 HBy20 HBz20 HBb50
  clear hbel
  clear HBb521
  go_wp2_with fail
  refine (less_two Ax Az _ cx _ cz x z w24 ((Px.out _ HBx21.out).more HBx21.out.size) ((Pz.out _ HBz21.out).more HBz21.out.size) Sx.out Sz.out).mono ?_; rintro e w25 ⟨l6, Al6, cl6, rfl, sl6, fl6, hsee, hbel, hcl6, hml6⟩
  have Pl6 := Lib.hid (fun W (h : Below w25.heap.size w25 W) => hsee.below h)
  have Sl6 := Lib.hid sl6; have Fl6 := Lib.hid fl6
  have hst22 : Below w24.heap.size w24 w25 := hbel
  have HBw22 := Lib.hid (HBw21.out.trans (hst22.mono HBw21.out.size))
  have HBx22 := Lib.hid (HBx21.out.trans (hst22.mono HBx21.out.size))
  have HBy22 := Lib.hid (HBy21.out.trans (hst22.mono HBy21.out.size))
  have HBz22 := Lib.hid (HBz21.out.trans (hst22.mono HBz21.out.size))
  clear hst22 HBw21 HBx21 HBy21 HBz21
  clear hbel hsee sl6 fl6
  have HBl60 := Lib.hid (Below.refl w25.heap.size w25)
  go_wp2_with fail
  refine (right_any Al6 _ cl6 l6 _ w25 ((Pl6.out _ HBl60.out).more HBl60.out.size) (Nat.le_refl _) hcl6 (by have := Sl6.out.len; omega)).mono ?_; rintro e w26 ⟨rfl, hbel⟩
  rw [Sl6.out.right]
  have hst23 : Below w25.heap.size w25 w26 := hbel
  have HBw23 := Lib.hid (HBw22.out.trans (hst23.mono HBw22.out.size))
  have HBx23 := Lib.hid (HBx22.out.trans (hst23.mono HBx22.out.size))
  have HBy23 := Lib.hid (HBy22.out.trans (hst23.mono HBy22.out.size))
  have HBz23 := Lib.hid (HBz22.out.trans (hst23.mono HBz22.out.size))
  have HBl623 := Lib.hid (HBl60.out.trans (hst23.mono HBl60.out.size))
  clear hst23 HBw22 HBx22 HBy22 HBz22 HBl60
  clear hbel
  clear HBl623
  go_wp2_with fail
  refine (join_two Ax Ax _ cx _ cx x x w26 ((Px.out _ HBx23.out).more HBx23.out.size) ((Px.out _ HBx23.out).more HBx23.out.size) Sx.out Sx.out hcx hmx hcx hmx).mono ?_; rintro e w27 ⟨q5, Aq5, cq5, rfl, sq5, fq5, hsee, hbel, hcq5, hmq5⟩
  have Pq5 := Lib.hid (fun W (h : Below w27.heap.size w27 W) => hsee.below h)
  have Sq5 := Lib.hid sq5; have Fq5 := Lib.hid fq5
  have hst24 : Below w26.heap.size w26 w27 := hbel
  have HBw24 := Lib.hid (HBw23.out.trans (hst24.mono HBw23.out.size))
  have HBx24 := Lib.hid (HBx23.out.trans (hst24.mono HBx23.out.size))
  have HBy24 := Lib.hid (HBy23.out.trans (hst24.mono HBy23.out.size))
  have HBz24 := Lib.hid (HBz23.out.trans (hst24.mono HBz23.out.size))
  clear hst24 HBw23 HBx23 HBy23 HBz23
  clear hbel hsee sq5 fq5
  have HBq50 := Lib.hid (Below.refl w27.heap.size w27)
  have hq : q5 = x := Sq5.out.eq Sx.out fun t => by simp only [Fq5.out t]; by_cases hx : InL x t <;> simp [hx]
  have HQ := Lib.hid hq; clear hq
  go_wp2_with fail
  refine (same_spn Aq5 Ax _ cq5 _ cx _ _ q5 x w27 ((Pq5.out _ HBq50.out).more HBq50.out.size) ((Px.out _ HBx24.out).more HBx24.out.size) (by omega) (by omega)).mono ?_; rintro e w28 ⟨rfl, m, hwm⟩
  rw [decide_eq_true HQ.out]
  have hst25 : Below w27.heap.size w27 w28 := by rw [hwm]; exact below_drewN3 (Below.refl _ _) m
  have HBw25 := Lib.hid (HBw24.out.trans (hst25.mono HBw24.out.size))
  have HBx25 := Lib.hid (HBx24.out.trans (hst25.mono HBx24.out.size))
  have HBy25 := Lib.hid (HBy24.out.trans (hst25.mono HBy24.out.size))
  have HBz25 := Lib.hid (HBz24.out.trans (hst25.mono HBz24.out.size))
  have HBq525 := Lib.hid (HBq50.out.trans (hst25.mono HBq50.out.size))
  clear hst25 HBw24 HBx24 HBy24 HBz24 HBq50
  clear hwm HQ
  clear HBq525
  go_wp2_with fail
  refine (less_two Ax Ax _ cx _ cx x x w28 ((Px.out _ HBx25.out).more HBx25.out.size) ((Px.out _ HBx25.out).more HBx25.out.size) Sx.out Sx.out).mono ?_; rintro e w29 ⟨l7, Al7, cl7, rfl, sl7, fl7, hsee, hbel, hcl7, hml7⟩
  have Pl7 := Lib.hid (fun W (h : Below w29.heap.size w29 W) => hsee.below h)
  have Sl7 := Lib.hid sl7; have Fl7 := Lib.hid fl7
  have hst26 : Below w28.heap.size w28 w29 := hbel
  have HBw26 := Lib.hid (HBw25.out.trans (hst26.mono HBw25.out.size))
  have HBx26 := Lib.hid (HBx25.out.trans (hst26.mono HBx25.out.size))
  have HBy26 := Lib.hid (HBy25.out.trans (hst26.mono HBy25.out.size))
  have HBz26 := Lib.hid (HBz25.out.trans (hst26.mono HBz25.out.size))
  clear hst26 HBw25 HBx25 HBy25 HBz25
  clear hbel hsee sl7 fl7
  have HBl70 := Lib.hid (Below.refl w29.heap.size w29)
  obtain rfl : l7 = [] := Sl7.out.void fun t => by simp only [Fl7.out t]; by_cases hx : InL x t <;> simp [hx]
  clear HBl70
  go_wp2_with fail
  refine (join_none w29).mono ?_; rintro e w30 ⟨q6, Aq6, cq6, rfl, sq6, fq6, hsee, hbel, hcq6, hmq6⟩
  obtain rfl : q6 = [] := sq6.void fun t => by rw [fq6]; exact fun h => h
  have hst27 : Below w29.heap.size w29 w30 := hbel
  have HBw27 := Lib.hid (HBw26.out.trans (hst27.mono HBw26.out.size))
  have HBx27 := Lib.hid (HBx26.out.trans (hst27.mono HBx26.out.size))
  have HBy27 := Lib.hid (HBy26.out.trans (hst27.mono HBy26.out.size))
  have HBz27 := Lib.hid (HBz26.out.trans (hst27.mono HBz26.out.size))
  clear hst27 HBw26 HBx26 HBy26 HBz26
  clear hbel hsee sq6 fq6
  have PRC := Lib.hid (PR.out _ HBw27.out)
  have HBW := HBw27
  clear HBw27 HBx27 HBy27 HBz27 PR
  go_upto_region 9 with fail
  go_cut [16] (fun x wx => x = .slice A4 k4 c4 ∧ w30 = wx)
  case first =>
    have hk4 := HK4.out
    by_cases h6 : n4 ≤ 6
    · obtain rfl : k4 = n4 := by omega
      have hm6 : ¬ (6 : Int) < k4 := by omega
      go_wp2_with fail
      go_meet
      exact ⟨rfl, rfl⟩
    · obtain rfl : k4 = 6 := by omega
      have hm6 : (6 : Int) < n4 := by omega
      go_wp2_with fail
      go_meet
      exact ⟨rfl, rfl⟩
  case rest =>
    obtain ⟨rfl, rfl⟩ := hcut
    have HRL := Lib.hid PRC.out.smp_len
    go_wp2_with fail
    go_loopg [17, 142] k4 (fun g x17 x142 wr => ∃ (k : Nat), k + g = k4 ∧ x142 = .int .i64 k ∧ x17 = .bool (rightF none (zr.take k)) ∧ Below w30.heap.size w30 wr)
    case atStart => exact ⟨0, by omega, rfl, by simp [rightF], Below.refl _ _⟩
    case round =>
      obtain ⟨k, hkg, rfl, rfl, hbel⟩ := hrel
      have hsz := hbel.size
      have HB := Lib.hid hbel
      have HBT := Lib.hid (HBW.out.trans (hbel.mono HBW.out.size))
      have PRW := Lib.hid (PRC.out.below (hbel.mono HBW.out.size))
      clear hbel
      cases gk with
      | zero =>
        obtain rfl : k = k4 := by omega
        have HE := Lib.hid (show zr.take k = zr from List.take_of_length_le (by rw [HRL.out]; exact Nat.le_refl _))
        rw [HE.out]
        go_wp2_with fail
        refine (right_any A4 k c4 zr _ wr PRW.out HBT.out.size hk4c (by omega)).mono ?_; rintro e w8 ⟨rfl, hb8⟩
        have HB8 := Lib.hid (HBT.out.trans (hb8.mono HBT.out.size))
        generalize rightF none zr = b at *
        have hbb : (b == b) = true := by simp
        clear hb8
        go_wp2_with fail
        refine (span_runs w8).mono ?_; rintro e w9 ⟨rfl, hb9⟩
        have HB9 := Lib.hid (HB8.out.trans (hb9.mono HB8.out.size))
        clear hb9
        go_wp2_with fail
        go_ret
        exact ⟨rfl, HB9.out⟩
      | succ g =>
        have hlt : k < k4 := by omega
        obtain ⟨ad, hkl, rfl, c0, c1⟩ := PRW.out.smp hlt
        have HST := Lib.hid (rightF_step hkl)
        have hal := World.block_lt_of_cell? wr _ c0
        generalize zr[k] = p at *
        obtain ⟨f, t⟩ := p
        simp only at c0 c1
        have HB2 := Lib.hid (HB.out.alloc hsz (.cells #[.int .i64 f, .int .i64 t] 26))
        obtain ⟨nr, hnr⟩ : ∃ nr, rightF none (zr.take (k + 1)) = nr := ⟨_, rfl⟩
        have HNR := Lib.hid hnr
        rw [hnr] at HST
        clear hnr
        have HOLD := Lib.hid (fun j (h : k = j + 1) (hr : rightF none (zr.take k) = true) => show ∃ hj : j < zr.length, 0 ≤ zr[j].2 ∧ zr[j].2 < 200 from by
          subst h
          have hj : j < zr.length := by omega
          rw [rightF_step hj, Bool.and_eq_true] at hr
          have := rightAt_bnd hr.2
          exact ⟨hj, by omega, this.2.2⟩)
        cases hr : rightF none (zr.take k) with
        | false =>
          have hnf : nr = false := by rw [HST.out, hr]; rfl
          subst hnf
          clear hr
          go_wp2_with fail
          go_region
          all_goals
            go_wp2_with fail
            go_roundg g
            case measure => omega
            case rel => exact ⟨k + 1, by omega, by go_num, by rw [HNR.out], HB2.out.drew⟩
        | true =>
          rw [hr, Bool.true_and] at HST
          by_cases hf : 0 ≤ f
          · by_cases hft : f ≤ t
            · by_cases ht : t < 200
              · by_cases hk : k = 0
                · have hnf : nr = true := by rw [HST.out, hk]; exact rightAt_none ⟨hf, hft, ht⟩
                  subst hnf
                  have hk0 : ((k : Int) == 0) = true := by simp; omega
                  have hd1 : decide (0 ≤ f) = true := by simp; omega
                  have hd2 : decide (f ≤ t) = true := by simp; omega
                  have hd3 : decide (t < 200) = true := by simp; omega
                  clear hk hr HOLD
                  go_wp2_with fail
                  go_region
                  all_goals
                    go_wp2_with fail
                    go_roundg g
                    case measure => omega
                    case rel => exact ⟨k + 1, by omega, by go_num, by rw [HNR.out], HB2.out.drew⟩
                · obtain ⟨j, hj⟩ : ∃ j, k = j + 1 := ⟨k - 1, by omega⟩
                  obtain ⟨hjl, he1, he2⟩ := HOLD.out j hj hr
                  have hnf0 : nr = rightAt (some zr[j].2) (f, t) := by rw [HST.out, hj, last_take hjl]
                  obtain ⟨ad', _, hA, _, c3⟩ := PRW.out.smp (show j < k4 by omega)
                  injection hA with hA; subst hA
                  have hal2 := World.block_lt_of_cell? wr _ c3
                  generalize zr[j].2 = e at *
                  rw [rightAt_some ⟨hf, hft, ht⟩] at hnf0
                  have hkj : (k : Int) - 1 = j := by omega
                  have hk0 : ((k : Int) == 0) = false := by simp; omega
                  have hj0 : (0 : Int) ≤ j := by omega
                  have hjk : (j : Int) < k4 := by omega
                  have hjk2 : j < k4 := by omega
                  have hd1 : decide (0 ≤ f) = true := by simp; omega
                  have hd2 : decide (f ≤ t) = true := by simp; omega
                  have hd3 : decide (t < 200) = true := by simp; omega
                  clear hk hj hr HOLD
                  by_cases hle : e + 2 ≤ f
                  · have hnf : nr = true := by rw [hnf0]; exact decide_eq_true hle
                    subst hnf
                    have hgt : decide (e + 1 < f) = true := by simp; omega
                    clear hnf0
                    go_wp2_with fail
                    go_region
                    all_goals
                      go_wp2_with fail
                      go_roundg g
                      case measure => omega
                      case rel => exact ⟨k + 1, by omega, by go_num, by rw [HNR.out], HB2.out.drew⟩
                  · have hnf : nr = false := by rw [hnf0]; exact decide_eq_false hle
                    subst hnf
                    have hgt : decide (e + 1 < f) = false := by simp; omega
                    clear hnf0
                    go_wp2_with fail
                    go_region
                    all_goals
                      go_wp2_with fail
                      go_roundg g
                      case measure => omega
                      case rel => exact ⟨k + 1, by omega, by go_num, by rw [HNR.out], HB2.out.drew⟩
              · have hnf : nr = false := by rw [HST.out]; exact rightAt_no fun h => ht h.2.2
                subst hnf
                have hd1 : decide (0 ≤ f) = true := by simp; omega
                have hd2 : decide (f ≤ t) = true := by simp; omega
                have hd3 : decide (t < 200) = false := by simp; omega
                clear hr
                go_wp2_with fail
                go_region
                all_goals
                  go_wp2_with fail
                  go_roundg g
                  case measure => omega
                  case rel => exact ⟨k + 1, by omega, by go_num, by rw [HNR.out], HB2.out.drew⟩
            · have hnf : nr = false := by rw [HST.out]; exact rightAt_no fun h => hft h.2.1
              subst hnf
              have hd1 : decide (0 ≤ f) = true := by simp; omega
              have hd2 : decide (f ≤ t) = false := by simp; omega
              clear hr
              go_wp2_with fail
              go_region
              all_goals
                go_wp2_with fail
                go_roundg g
                case measure => omega
                case rel => exact ⟨k + 1, by omega, by go_num, by rw [HNR.out], HB2.out.drew⟩
          · have hnf : nr = false := by rw [HST.out]; exact rightAt_no fun h => hf h.1
            subst hnf
            have hd1 : decide (0 ≤ f) = false := by simp; omega
            clear hr
            go_wp2_with fail
            go_region
            all_goals
              go_wp2_with fail
              go_roundg g
              case measure => omega
              case rel => exact ⟨k + 1, by omega, by go_num, by rw [HNR.out], HB2.out.drew⟩
end Go.Proofs.Ytakgkggkfdbejaa
