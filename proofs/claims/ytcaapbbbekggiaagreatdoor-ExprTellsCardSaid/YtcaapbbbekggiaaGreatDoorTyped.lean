/- klaxonref7.typed. -/
import Derived.Test.YtcaapbbbekggiaaGreatDoorTyped0
import Derived.Test.YtcaapbbbekggiaaGreatDoorSMap
import Derived.Test.YtcaapbbbekggiaaGreatDoorBase
import Derived.Test.YtcaapbbbekggiaaGreatDoorRefRightM
namespace Go.Proofs.YtcaapbbbekggiaaGreatDoor
open Go.ChangeShapes Go.WideShapes Go.ChangeAt Go.RowKit
set_option linter.unusedVariables false
set_option linter.unusedSimpArgs false
set_option maxRecDepth 100000
/-- Within typed: the box. -/
structure TyAt (w0 : World) (bx : Nat) (cs : List Value) (W : World) : Prop where
  bel : Below w0.heap.size w0 W
  box : Blk W bx 26 cs
theorem TyAt.below {w0 W W' : World} {bx : Nat} {cs : List Value} (h : TyAt w0 bx cs W) (hb : Below W.heap.size W W') : TyAt w0 bx cs W' :=
  ⟨h.bel.trans (hb.mono h.bel.size), h.box.below hb h.box.lt⟩
theorem TyAt.mapped {w0 W W' : World} {bx bm : Nat} {cs : List Value} (h : TyAt w0 bx cs W) (hg : W.grownBy W' (some bm)) (hne : bx ≠ bm) (hb : w0.heap.size ≤ bm) : TyAt w0 bx cs W' :=
  ⟨h.bel.grown hg h.bel.size (fun g e => by injection e with e; omega), h.box.grown hg (fun e => by injection e with e; exact hne e)⟩
theorem ty_cells2 {w : World} {ad : Addr} {a b : Int} {B : Nat} (h : Sees w B 1 (some ad) 2 (ints [a, b])) : w.cell? ad = some (.int .i64 a) ∧ w.cell? ⟨ad.block, ad.off + 1, none⟩ = some (.int .i64 b) := by
  obtain ⟨ad', e, _, hc⟩ := h.at_ (by omega)
  injection e with e; subst e
  have h0 := hc 0 _ rfl
  have h1 := hc 1 _ rfl
  rw [add_zero'] at h0
  refine ⟨h0, ?_⟩
  have hs := add_spelt ad 0 1 (by omega)
  rw [add_zero', Nat.zero_add] at hs
  rw [hs]; exact h1
set_option maxHeartbeats 8000000 in
theorem typed_any (kk nn : Int) (A1 : Option Addr) (c1 : Nat) (ms : List Mtc) (A2 : Option Addr) (c2 : Nat) (ns : List ByteArray) (v3 : Value) (T : Option Addr) (cT : Nat) (tys : List Int) (w : World)
    (hm : Slc w 3 (.slice A1 ms.length c1) ms.length (mtcs ms)) (hn : Slc w 1 (.slice A2 ns.length c2) ns.length (strs ns)) (ht : Slc w 1 (.slice T tys.length cT) tys.length (ints tys))
    (hml : ms.length ≤ 1000) (hnl : ns.length ≤ 1000) (htl : tys.length ≤ 1000) (hms : ∀ m ∈ ms, m.1.size ≤ 9223372036854775807 ∧ m.2.1.size ≤ 9223372036854775807) (hns : ∀ s ∈ ns, s.size ≤ maxLen) (hty : ∀ t ∈ tys, t = 0 ∨ t = 1 ∨ t = 2) (hv3 : v3.oneCell' = true) :
    Calls Tryz.prog 17 #[.agg #[.int .i64 kk, .int .i64 nn, .slice A1 ms.length c1, .slice A2 ns.length c2, v3], .slice T tys.length cT] w fun e w' => e = .returned (.int .i64 (tyOf kk nn ms ns tys)) ∧ Below w.heap.size w w' := by
  obtain ⟨bx, hbx⟩ : ∃ b, w.heap.size = b := ⟨_, rfl⟩
  have hb0 := (Below.refl w.heap.size w).alloc (Nat.le_refl _) (.cells #[.int .i64 kk, .int .i64 nn, .slice A1 ms.length c1, .slice A2 ns.length c2, v3] 26)
  have HT0 : Hid (TyAt w bx [.int .i64 kk, .int .i64 nn, .slice A1 ms.length c1, .slice A2 ns.length c2, v3] (w.alloc (.cells #[.int .i64 kk, .int .i64 nn, .slice A1 ms.length c1, .slice A2 ns.length c2, v3] 26))) := Lib.hid ⟨hb0, hbx ▸ Blk.mk (heap_alloc_new w _)⟩
  have HSM := Lib.hid (fun V (hV : Below w.heap.size w V) => Slc.slice (hm.below hV))
  have HSN := Lib.hid (fun V (hV : Below w.heap.size w V) => Slc.slice (hn.below hV))
  have HST := Lib.hid (fun V (hV : Below w.heap.size w V) => Slc.slice (ht.below hV))
  have HMS := Lib.hid hms; have HNS := Lib.hid hns; have HTY := Lib.hid hty
  have HQ0 : Hid (namesOk ns ns.length = false → tyOf kk nn ms ns tys = 0) := Lib.hid tyOf_names
  have HQ : Hid (tyOf kk nn ms ns tys = if kk = 1 then (if ms.length + ns.length + tys.length = 0 then 1 else 0)
      else if kk = 2 then (if ns.length + tys.length = 0 ∧ rightM ms = true ∧ 1 ≤ nn ∧ nn ≤ 1048576 then 2 else 0)
      else if ¬ (ms.length = 0 ∧ nn = 0) then 0 else restT kk ns tys) := Lib.hid rfl
  generalize tyOf kk nn ms ns tys = q at *
  clear hm hn ht hms hns hty hb0
  have hmm := @run_makeMap Tryz.prog
  go_enter Tryz.func17, Tryz.ntmps17
  go_upto_region 1 with fail
  have HBX := Lib.hid hbx
  clear hbx
  generalize w.alloc (.cells #[.int .i64 kk, .int .i64 nn, .slice A1 ms.length c1, .slice A2 ns.length c2, v3] 26) = W1 at *
  obtain ⟨bm, hbm⟩ : ∃ b, W1.heap.size = b := ⟨_, rfl⟩
  have HM0 := Lib.hid (show SMap (W1.alloc (.map #[] 0)) bm 0 (memB []) by rw [← hbm]; exact SMap.made W1)
  have HT1 := Lib.hid (HT0.out.below ((Below.refl W1.heap.size W1).alloc (Nat.le_refl _) (.map #[] 0)))
  go_upto_region 2 with fail
  have HBM := Lib.hid (show bx ≠ bm ∧ w.heap.size ≤ bm from ⟨by have := HT0.out.box.lt; omega, by rw [← hbm]; exact HT0.out.bel.size⟩)
  generalize W1.alloc (.map #[] 0) = W2 at *
  clear hmm hbm HT0
  obtain ⟨x0, x1, x2, x3, x4⟩ := blk_cells5 HT1.out.box
  go_wp2_with fail
  go_loopg [14] ns.length (fun g x14 wr => ∃ k : Nat, k + g = ns.length ∧ x14 = .int .i64 k ∧ namesOk ns k = true ∧ SMap wr bm k (memB (ns.take k)) ∧ TyAt w bx [.int .i64 kk, .int .i64 nn, .slice A1 ms.length c1, .slice A2 ns.length c2, v3] wr)
  case atStart => exact ⟨0, by omega, rfl, rfl, HM0.out, HT1.out⟩
  case round =>
    obtain ⟨k, hkg, rfl, hok, hmap, hat⟩ := hrel
    have HOK := Lib.hid hok; have HMP := Lib.hid hmap; have HT := Lib.hid hat
    clear hok hmap hat HM0 HT1 x0 x1 x2 x3 x4
    cases gk with
    | zero => --done
      obtain rfl : k = ns.length := by omega
      have HNK := Lib.hid (show namesF ns = decide (ns.length ≤ 6) by unfold namesF; rw [HOK.out, Bool.and_true])
      clear HMP HOK HQ0
      obtain ⟨x0, x1, x2, x3, x4⟩ := blk_cells5 HT.out.box
      by_cases k1 : kk = 1
      · have t1 : (kk == 1) = true := by rw [k1]; rfl
        have HQ1 := Lib.hid (show q = if ms.length + ns.length + tys.length = 0 then 1 else 0 by rw [HQ.out, if_pos k1])
        clear k1 HQ
        by_cases z : ms.length + ns.length + tys.length = 0
        · have HE := Lib.hid (show q = 1 by rw [HQ1.out, if_pos z])
          obtain rfl : ms = [] := List.eq_nil_of_length_eq_zero (by omega)
          obtain rfl : ns = [] := List.eq_nil_of_length_eq_zero (by omega)
          obtain rfl : tys = [] := List.eq_nil_of_length_eq_zero (by omega)
          clear z HQ1
          go_wp2_with fail
          go_ret
          exact ⟨by rw [HE.out]; rfl, HT.out.bel⟩
        · have t2 : ((tys.length : Int) + ms.length + ns.length == 0) = false := by rw [beq_eq_false_iff_ne]; omega
          have t3 : ¬ ((tys.length : Int) + ms.length + ns.length = 0) := by omega
          have HE := Lib.hid (show q = 0 from by rw [HQ1.out, if_neg z])
          go_wp2_with fail
          go_ret
          exact ⟨by rw [HE.out]; rfl, HT.out.bel⟩
      · have t1 : (kk == 1) = false := by rw [beq_eq_false_iff_ne]; exact k1
        by_cases k2 : kk = 2
        · have t2 : (kk == 2) = true := by rw [k2]; rfl
          have HQ2 := Lib.hid (show q = if ns.length + tys.length = 0 ∧ rightM ms = true ∧ 1 ≤ nn ∧ nn ≤ 1048576 then 2 else 0 by rw [HQ.out, if_neg k1, if_pos k2])
          clear k1 k2 HQ HNK HST HSN HNS HTY
          go_wp2_with fail
          go_loopg [53] ms.length (fun g x53 wr => ∃ j : Nat, j + g = ms.length ∧ x53 = .int .i64 j ∧ (ms.take j).all mtcOk = true ∧ TyAt w bx [.int .i64 kk, .int .i64 nn, .slice A1 ms.length c1, .slice A2 ns.length c2, v3] wr)
          case atStart => exact ⟨0, by omega, rfl, rfl, HT.out⟩
          case round =>
            obtain ⟨j, hjg, rfl, hall, hat⟩ := hrel
            have HAL := Lib.hid hall; have HT2 := Lib.hid hat
            clear hall hat HT x0 x1 x2 x3 x4
            cases gk with
            | zero =>
              have HRM := Lib.hid (show rightM ms = decide (ms.length ≤ 6) by have h := HAL.out; rw [List.take_of_length_le (by omega)] at h; unfold rightM; rw [h, Bool.and_true])
              obtain ⟨x0, x1, x2, x3, x4⟩ := blk_cells5 HT2.out.box
              clear HAL HSM HMS
              by_cases z : ns.length + tys.length = 0
              · have z1 : ((tys.length : Int) + ns.length == 0) = true := by rw [beq_iff_eq]; omega
                have z1' : (tys.length : Int) + ns.length = 0 := by omega
                by_cases l6 : ms.length ≤ 6
                · have l6' : (ms.length : Int) ≤ 6 := by omega
                  by_cases n1 : 1 ≤ nn
                  · by_cases n2 : nn ≤ 1048576
                    · have HE := Lib.hid (show q = 2 by rw [HQ2.out, if_pos ⟨z, by rw [HRM.out, decide_eq_true l6], n1, n2⟩])
                      go_wp2_with fail
                      go_ret
                      exact ⟨by rw [HE.out]; rfl, HT2.out.bel⟩
                    · have HE := Lib.hid (show q = 0 by rw [HQ2.out, if_neg (fun h => n2 h.2.2.2)])
                      go_wp2_with fail
                      go_ret
                      exact ⟨by rw [HE.out]; rfl, HT2.out.bel⟩
                  · have HE := Lib.hid (show q = 0 by rw [HQ2.out, if_neg (fun h => n1 h.2.2.1)])
                    go_wp2_with fail
                    go_ret
                    exact ⟨by rw [HE.out]; rfl, HT2.out.bel⟩
                · have l6' : ¬ (ms.length : Int) ≤ 6 := by omega
                  have HE := Lib.hid (show q = 0 by rw [HQ2.out, if_neg (fun h => by have h2 := h.2.1; rw [HRM.out] at h2; exact l6 (of_decide_eq_true h2))])
                  go_wp2_with fail
                  go_ret
                  exact ⟨by rw [HE.out]; rfl, HT2.out.bel⟩
              · have z1 : ((tys.length : Int) + ns.length == 0) = false := by rw [beq_eq_false_iff_ne]; omega
                have z1' : ¬ ((tys.length : Int) + ns.length = 0) := by omega
                have HE := Lib.hid (show q = 0 by rw [HQ2.out, if_neg (fun h => z h.1)])
                go_wp2_with fail
                go_ret
                exact ⟨by rw [HE.out]; rfl, HT2.out.bel⟩
            | succ g =>
              have hlt : j < ms.length := by omega
              obtain ⟨ad, hkl, hA, c0, c1', c2'⟩ := (HSM.out wr HT2.out.bel).1.mtc hlt
              have hal := World.block_lt_of_cell? wr _ c0
              have hz := HMS.out ms[j] (List.getElem_mem hkl)
              have HNX := Lib.hid (show (ms.take (j + 1)).all mtcOk = mtcOk ms[j] by rw [List.take_succ_eq_append_getElem hkl, List.all_append, HAL.out]; simp)
              have HBD := Lib.hid (fun h : mtcOk ms[j] = false => rightM_bad (List.getElem_mem hkl) h)
              subst hA
              generalize ms[j] = x at *
              obtain ⟨a, bb, kd⟩ := x
              simp only at c0 c1' c2' hz
              have HTA := Lib.hid (HT2.out.below ((Below.refl wr.heap.size wr).alloc (Nat.le_refl _) (.cells #[.string a, .string bb, .int .i64 kd] 57)))
              have HRM := Lib.hid (fun W => refRightM_any a bb kd W hz.1 hz.2)
              obtain ⟨r, hr⟩ : ∃ r, mtcOk (a, bb, kd) = r := ⟨_, rfl⟩
              rw [hr] at HRM HNX HBD
              clear hr hz
              cases r with
              | false =>
                have HE := Lib.hid (show q = 0 by rw [HQ2.out, if_neg (fun h => by rw [HBD.out rfl] at h; exact absurd h.2.1 (by decide))])
                clear HNX HBD
                go_wp2_with fail
                (with_reducible refine (HRM.out _).mono ?_); rintro e w2 ⟨rfl, hb⟩
                have HT3 := Lib.hid (HTA.out.below hb)
                clear hb
                go_wp2_with fail
                go_ret
                exact ⟨by rw [HE.out]; rfl, HT3.out.bel⟩
              | true =>
                clear HBD
                go_wp2_with fail
                (with_reducible refine (HRM.out _).mono ?_); rintro e w2 ⟨rfl, hb⟩
                have HT3 := Lib.hid (HTA.out.below hb)
                clear hb
                go_wp2_with fail
                go_roundg g
                case measure => omega
                case rel => exact ⟨j + 1, by omega, by first | rfl | go_num, HNX.out, HT3.out⟩
        · have t2 : (kk == 2) = false := by rw [beq_eq_false_iff_ne]; exact k2
          by_cases z : nn = 0
          · by_cases zm : ms.length = 0
            · have HR := Lib.hid (show q = restT kk ns tys by rw [HQ.out, if_neg k1, if_neg k2, if_neg (fun h => h ⟨zm, z⟩)])
              have n1 : (nn != 0) = false := by rw [z]; rfl
              have n2 : ¬ (0 : Int) < ms.length := by omega
              have n3 : ¬ 0 < ms.length := by omega
              clear z zm k1 k2 HQ HSM HMS
              by_cases a17 : 17 ≤ kk ∧ kk ≤ 20
              · obtain ⟨h17, h20⟩ := a17
                have HW := Lib.hid (show q = if namesF ns = true ∧ tys = [2] then 2 else 0 by rw [HR.out, rest_word h17 h20])
                clear HR
                match tys with
                | [] =>
                  have HE := Lib.hid (show q = 0 by rw [HW.out, if_neg (fun h => by simp at h)])
                  clear HW HST HTY
                  go_wp2_with fail
                  go_ret
                  exact ⟨by rw [HE.out]; rfl, HT.out.bel⟩
                | a :: b2 :: l =>
                  have HE := Lib.hid (show q = 0 by rw [HW.out, if_neg (fun h => by simp at h)])
                  have u1 : (((l.length + 1 + 1 : Nat) : Int) == 1) = false := by rw [beq_eq_false_iff_ne]; omega
                  have u2 : ((l.length : Int) + 1 + 1 == 1) = false := by rw [beq_eq_false_iff_ne]; omega
                  clear HW HST HTY
                  go_wp2_with fail
                  go_ret
                  exact ⟨by rw [HE.out]; rfl, HT.out.bel⟩
                | [a] =>
                  obtain ⟨ad, hl, rfl, d0⟩ := (HST.out wr HT.out.bel).1.int (k := 0) (by simp)
                  rw [add_zero'] at d0
                  simp only [List.getElem_cons_zero] at d0
                  by_cases ha : a = 2
                  · subst ha
                    by_cases l6 : ns.length ≤ 6
                    · have l6' : (ns.length : Int) ≤ 6 := by omega
                      have HE := Lib.hid (show q = 2 by rw [HW.out, if_pos ⟨by rw [HNK.out, decide_eq_true l6], rfl⟩])
                      clear HW HST HTY
                      go_wp2_with fail
                      go_ret
                      exact ⟨by rw [HE.out]; rfl, HT.out.bel⟩
                    · have l6' : ¬ (ns.length : Int) ≤ 6 := by omega
                      have HE := Lib.hid (show q = 0 by rw [HW.out, if_neg (fun h => by have h2 := h.1; rw [HNK.out] at h2; exact l6 (of_decide_eq_true h2))])
                      clear HW HST HTY
                      go_wp2_with fail
                      go_ret
                      exact ⟨by rw [HE.out]; rfl, HT.out.bel⟩
                  · have u1 : (a == 2) = false := by rw [beq_eq_false_iff_ne]; exact ha
                    have HE := Lib.hid (show q = 0 by rw [HW.out, if_neg (fun h => ha (by simpa using h.2))])
                    clear HW HST HTY
                    go_wp2_with fail
                    go_ret
                    exact ⟨by rw [HE.out]; rfl, HT.out.bel⟩
              · have HRZ := Lib.hid (fun h : twoT kk ns tys = 0 => show q = 0 by rw [HR.out, rest_zero a17 h])
                have HR2 := Lib.hid (show q = if 3 ≤ kk ∧ kk ≤ 16 then twoT kk ns tys else 0 by rw [HR.out, rest_two a17])
                clear HR
                by_cases g17 : 17 ≤ kk
                · have g20 : ¬ kk ≤ 20 := fun g2 => a17 ⟨g17, g2⟩
                  by_cases hns : ns = []
                  · subst hns
                    match tys with
                    | [] =>
                      have HE := Lib.hid (show q = 0 from HRZ.out (two_len (by simp)))
                      clear HST HTY
                      go_wp2_with fail
                      go_ret
                      exact ⟨by rw [HE.out]; rfl, HT.out.bel⟩
                    | [a] =>
                      have HE := Lib.hid (show q = 0 from HRZ.out (two_len (by simp)))
                      clear HST HTY
                      go_wp2_with fail
                      go_ret
                      exact ⟨by rw [HE.out]; rfl, HT.out.bel⟩
                    | a :: tb :: c3 :: l =>
                      have HE := Lib.hid (show q = 0 from HRZ.out (two_len (by simp)))
                      have u1 : (((l.length + 1 + 1 + 1 : Nat) : Int) != 2) = true := by rw [bne_iff_ne]; omega
                      have u2 : ((l.length : Int) + 1 + 1 + 1 != 2) = true := by rw [bne_iff_ne]; omega
                      clear HST HTY
                      go_wp2_with fail
                      go_ret
                      exact ⟨by rw [HE.out]; rfl, HT.out.bel⟩
                    | [ta, tb] =>
                      obtain ⟨ad, hl, rfl, _⟩ := (HST.out wr HT.out.bel).1.int (k := 0) (by simp)
                      obtain ⟨d0, d1⟩ := ty_cells2 (HST.out wr HT.out.bel).1
                      have r1 := HTY.out ta (by simp)
                      have r2 := HTY.out tb (by simp)
                      by_cases a0 : ta = 0
                      · have v1 : (ta == 0) = true := by rw [beq_iff_eq]; exact a0
                        have HE := Lib.hid (show q = 0 from HRZ.out (two_none (.inl a0)))
                        clear HST HTY HRZ HR2 r1 r2 a0
                        go_wp2_with fail
                        go_ret
                        exact ⟨by rw [HE.out]; rfl, HT.out.bel⟩
                      have v1 : (ta == 0) = false := by rw [beq_eq_false_iff_ne]; exact a0
                      by_cases b0 : tb = 0
                      · have v2 : (tb == 0) = true := by rw [beq_iff_eq]; exact b0
                        have HE := Lib.hid (show q = 0 from HRZ.out (two_none (.inr b0)))
                        clear HST HTY HRZ HR2 r1 r2 a0 b0
                        go_wp2_with fail
                        go_ret
                        exact ⟨by rw [HE.out]; rfl, HT.out.bel⟩
                      have v2 : (tb == 0) = false := by rw [beq_eq_false_iff_ne]; exact b0
                      have s1 : ta = 1 ∨ ta = 2 := by omega
                      have s2 : tb = 1 ∨ tb = 2 := by omega
                      have HV := Lib.hid (two_vals (k := kk) s1 s2)
                      clear HTY HRZ r1 r2 a0 b0
                      have b3 : 3 ≤ kk := by omega
                      have b7 : ¬ kk ≤ 7 := by omega
                      have b8 : 8 ≤ kk := by omega
                      have b13 : ¬ kk ≤ 13 := by omega
                      have b14 : 14 ≤ kk := by omega
                      have b16 : ¬ kk ≤ 16 := by omega
                      have HE := Lib.hid (show q = 0 by rw [HR2.out, if_neg (fun h => b16 h.2)])
                      clear HST HR2 HV s1 s2
                      go_wp2_with fail
                      go_ret
                      exact ⟨by rw [HE.out]; rfl, HT.out.bel⟩
                  · have HE := Lib.hid (show q = 0 from HRZ.out (two_names tys hns))
                    have u0 : ns.length ≠ 0 := fun e => hns (List.eq_nil_of_length_eq_zero e)
                    have u1 : (0 : Int) < ns.length := by omega
                    have u2 : 0 < ns.length := by omega
                    clear HST HTY HRZ HR2 u0 hns
                    go_wp2_with fail
                    go_ret
                    exact ⟨by rw [HE.out]; rfl, HT.out.bel⟩
                · clear a17
                  by_cases hns : ns = []
                  · subst hns
                    match tys with
                    | [] =>
                      have HE := Lib.hid (show q = 0 from HRZ.out (two_len (by simp)))
                      clear HST HTY
                      go_wp2_with fail
                      go_ret
                      exact ⟨by rw [HE.out]; rfl, HT.out.bel⟩
                    | [a] =>
                      have HE := Lib.hid (show q = 0 from HRZ.out (two_len (by simp)))
                      clear HST HTY
                      go_wp2_with fail
                      go_ret
                      exact ⟨by rw [HE.out]; rfl, HT.out.bel⟩
                    | a :: tb :: c3 :: l =>
                      have HE := Lib.hid (show q = 0 from HRZ.out (two_len (by simp)))
                      have u1 : (((l.length + 1 + 1 + 1 : Nat) : Int) != 2) = true := by rw [bne_iff_ne]; omega
                      have u2 : ((l.length : Int) + 1 + 1 + 1 != 2) = true := by rw [bne_iff_ne]; omega
                      clear HST HTY
                      go_wp2_with fail
                      go_ret
                      exact ⟨by rw [HE.out]; rfl, HT.out.bel⟩
                    | [ta, tb] =>
                      obtain ⟨ad, hl, rfl, _⟩ := (HST.out wr HT.out.bel).1.int (k := 0) (by simp)
                      obtain ⟨d0, d1⟩ := ty_cells2 (HST.out wr HT.out.bel).1
                      have r1 := HTY.out ta (by simp)
                      have r2 := HTY.out tb (by simp)
                      by_cases a0 : ta = 0
                      · have v1 : (ta == 0) = true := by rw [beq_iff_eq]; exact a0
                        have HE := Lib.hid (show q = 0 from HRZ.out (two_none (.inl a0)))
                        clear HST HTY HRZ HR2 r1 r2 a0
                        go_wp2_with fail
                        go_ret
                        exact ⟨by rw [HE.out]; rfl, HT.out.bel⟩
                      have v1 : (ta == 0) = false := by rw [beq_eq_false_iff_ne]; exact a0
                      by_cases b0 : tb = 0
                      · have v2 : (tb == 0) = true := by rw [beq_iff_eq]; exact b0
                        have HE := Lib.hid (show q = 0 from HRZ.out (two_none (.inr b0)))
                        clear HST HTY HRZ HR2 r1 r2 a0 b0
                        go_wp2_with fail
                        go_ret
                        exact ⟨by rw [HE.out]; rfl, HT.out.bel⟩
                      have v2 : (tb == 0) = false := by rw [beq_eq_false_iff_ne]; exact b0
                      have s1 : ta = 1 ∨ ta = 2 := by omega
                      have s2 : tb = 1 ∨ tb = 2 := by omega
                      have HV := Lib.hid (two_vals (k := kk) s1 s2)
                      clear HTY HRZ r1 r2 a0 b0
                      by_cases b3 : 3 ≤ kk
                      · have b16 : kk ≤ 16 := by omega
                        have HQT := Lib.hid (show q = twoT kk [] [ta, tb] by rw [HR2.out, if_pos ⟨b3, b16⟩])
                        clear HR2
                        by_cases b7 : kk ≤ 7
                        · obtain ⟨m, hm⟩ : ∃ m, max ta tb = m := ⟨_, rfl⟩
                          have HE := Lib.hid (show q = m by rw [HQT.out, HV.out, if_pos b7, hm])
                          have hm1 : (if ta < tb then tb else ta) = m := by rw [← hm]; split <;> omega
                          have hm2 : (if tb < ta then ta else tb) = m := by rw [← hm]; split <;> omega
                          clear HQT HV s1 s2
                          go_upto_region 32 with fail
                          refine wp_region_facts (R := fun a b => Below a.heap.size a b) (G := (fun W => TyAt w bx [.int .i64 kk, .int .i64 nn, .slice A1 ms.length c1, .slice A2 ([] : List ByteArray).length c2, v3] W)) (V := fun i' u' W => match i' with | 0 => u' = .slice (some ad) 2 cT | 1 => u' = .pointer (some ad) | 2 => u' = .int .i64 ta | 3 => u' = .slice (some ad) 2 cT | 4 => u' = .pointer (some ⟨ad.block, ad.off + 1, none⟩) | 5 => u' = .int .i64 tb | 6 => u' = .int .i64 m | 7 => u' = .int .i64 m | _ => True) (by kernel_rfl) (fun w => Below.refl _ _) (fun a b c h1 h2 => h1.trans (h2.mono h1.size)) (by kernel_rfl) (by kernel_rfl) ?hG ⟨?o0, ?o1, ?o2, ?o3, ?o4, ?o5, ?o6, ?o7, trivial⟩ ?hend
                          case o0 =>
                            intro a w hfr hG hd
                            refine ⟨fun hw => ?_, fun hw => absurd hw (by simp [Region.wanted])⟩
                            have s1 : a.tmps.getD 1 undef = .slice (some ad) 2 cT := hfr.at 1 (by kernel_rfl)
                            refine op_yields (.slice (some ad) 2 cT) ?_ ?_ ?_
                            · simp only [execOp, resolve, List.map_toArray, List.map_cons, List.map_nil, Act.eval, s1]; simp [go_sem, -Array.getD_eq_getD_getElem?, s1]
                            · exact Below.refl _ _
                            · exact (fun _ _ => rfl)
                          case o1 =>
                            intro a w hfr hG hd
                            obtain ⟨d0, _⟩ := hd
                            refine ⟨fun hw => ?_, fun hw => absurd hw (by simp [Region.wanted])⟩
                            have s149 : a.tmps.getD 149 undef = .slice (some ad) 2 cT := (d0 rfl).now
                            refine op_yields (.pointer (some ad)) ?_ ?_ ?_
                            · simp only [execOp, resolve, List.map_toArray, List.map_cons, List.map_nil, Act.eval, s149]; simp [go_sem, -Array.getD_eq_getD_getElem?, s149]
                            · exact Below.refl _ _
                            · exact (fun _ _ => rfl)
                          case o2 =>
                            intro a w hfr hG hd
                            obtain ⟨d0, _⟩ := hd
                            refine ⟨fun hw => ?_, fun hw => absurd hw (by simp [Region.wanted])⟩
                            have s150 : a.tmps.getD 150 undef = .pointer (some ad) := (d0 rfl).now
                            have e0 := (ty_cells2 (HST.out w hG.now.bel).1).1
                            refine op_yields (.int .i64 ta) ?_ ?_ ?_
                            · simp only [execOp, resolve, List.map_toArray, List.map_cons, List.map_nil, Act.eval, s150]; simp [go_sem, -Array.getD_eq_getD_getElem?, s150, e0, e0]
                            · exact Below.refl _ _
                            · exact (fun _ _ => rfl)
                          case o3 =>
                            intro a w hfr hG hd
                            refine ⟨fun hw => ?_, fun hw => absurd hw (by simp [Region.wanted])⟩
                            have s1 : a.tmps.getD 1 undef = .slice (some ad) 2 cT := hfr.at 1 (by kernel_rfl)
                            refine op_yields (.slice (some ad) 2 cT) ?_ ?_ ?_
                            · simp only [execOp, resolve, List.map_toArray, List.map_cons, List.map_nil, Act.eval, s1]; simp [go_sem, -Array.getD_eq_getD_getElem?, s1]
                            · exact Below.refl _ _
                            · exact (fun _ _ => rfl)
                          case o4 =>
                            intro a w hfr hG hd
                            obtain ⟨d0, _⟩ := hd
                            refine ⟨fun hw => ?_, fun hw => absurd hw (by simp [Region.wanted])⟩
                            have s152 : a.tmps.getD 152 undef = .slice (some ad) 2 cT := (d0 rfl).now
                            refine op_yields (.pointer (some ⟨ad.block, ad.off + 1, none⟩)) ?_ ?_ ?_
                            · simp only [execOp, resolve, List.map_toArray, List.map_cons, List.map_nil, Act.eval, s152]; simp [go_sem, -Array.getD_eq_getD_getElem?, s152]
                            · exact Below.refl _ _
                            · exact (fun _ _ => rfl)
                          case o5 =>
                            intro a w hfr hG hd
                            obtain ⟨d0, _⟩ := hd
                            refine ⟨fun hw => ?_, fun hw => absurd hw (by simp [Region.wanted])⟩
                            have s153 : a.tmps.getD 153 undef = .pointer (some ⟨ad.block, ad.off + 1, none⟩) := (d0 rfl).now
                            have e1 := (ty_cells2 (HST.out w hG.now.bel).1).2
                            refine op_yields (.int .i64 tb) ?_ ?_ ?_
                            · simp only [execOp, resolve, List.map_toArray, List.map_cons, List.map_nil, Act.eval, s153]; simp [go_sem, -Array.getD_eq_getD_getElem?, s153, e1, e1]
                            · exact Below.refl _ _
                            · exact (fun _ _ => rfl)
                          case o6 =>
                            intro a w hfr hG hd
                            obtain ⟨d0, d1, _⟩ := hd
                            refine ⟨fun hw => ?_, fun hw => absurd hw (by simp [Region.wanted])⟩
                            have s151 : a.tmps.getD 151 undef = .int .i64 ta := (d0 rfl).now
                            have s154 : a.tmps.getD 154 undef = .int .i64 tb := (d1 rfl).now
                            refine op_yields (.int .i64 m) ?_ ?_ ?_
                            · simp only [execOp, resolve, List.map_toArray, List.map_cons, List.map_nil, Act.eval, s151, s154]; simp [go_sem, -Array.getD_eq_getD_getElem?, s151, s154, hm]
                            · exact Below.refl _ _
                            · exact (fun _ _ => rfl)
                          case o7 =>
                            intro a w hfr hG hd
                            obtain ⟨d0, d1, d2, d3, d4, d5, d6, d7, _⟩ := hd
                            refine ⟨fun hw => ?_, fun hw => absurd hw (by simp [Region.wanted])⟩
                            have s155 : a.tmps.getD 155 undef = .int .i64 m := (d0 rfl).now
                            refine op_yields (.int .i64 m) ?_ ?_ ?_
                            · simp only [execOp, resolve, List.map_toArray, List.map_cons, List.map_nil, Act.eval, s155]; simp [go_sem, -Array.getD_eq_getD_getElem?, s155]
                            · exact Below.refl _ _
                            · exact (fun _ _ => rfl)
                          case hG => exact fun w' hb => HT.out.below ((Below.refl _ _).drew.trans (hb.mono (by simp)))
                          case hend =>
                            intro vs w' hG hv
                            have key : vs 6 = .int .i64 m ∧ vs 7 = .int .i64 m := by
                              obtain ⟨_, _, _, _, _, _, h6, h7, _⟩ := hv
                              exact ⟨h6.now, h7.now⟩
                            have HT9 := Lib.hid hG.now
                            clear hv hG HT
                            simp only [putAll, Act.put, key.1, key.2]
                            clear key
                            go_wp2_with fail
                            go_ret
                            exact ⟨by rw [HE.out]; rfl, HT9.out.bel⟩
                        · have b8 : 8 ≤ kk := by omega
                          by_cases b13 : kk ≤ 13
                          · have b14 : ¬ 14 ≤ kk := by omega
                            by_cases h2 : ta = 2
                            · have HE := Lib.hid (show q = 2 by rw [HQT.out, HV.out, if_neg b7, if_pos b13, if_pos h2])
                              have v3 : (ta == 2) = true := by rw [beq_iff_eq]; exact h2
                              clear HST HQT HV s1 s2 h2
                              go_wp2_with fail
                              go_ret
                              exact ⟨by rw [HE.out]; rfl, HT.out.bel⟩
                            · have HE := Lib.hid (show q = 0 by rw [HQT.out, HV.out, if_neg b7, if_pos b13, if_neg h2])
                              have v3 : (ta == 2) = false := by rw [beq_eq_false_iff_ne]; exact h2
                              clear HST HQT HV s1 s2 h2
                              go_wp2_with fail
                              go_ret
                              exact ⟨by rw [HE.out]; rfl, HT.out.bel⟩
                          · have b14 : 14 ≤ kk := by omega
                            by_cases h2 : ta = 2
                            · have v3 : (ta == 2) = true := by rw [beq_iff_eq]; exact h2
                              by_cases h3 : tb = 2
                              · have HE := Lib.hid (show q = 2 by rw [HQT.out, HV.out, if_neg b7, if_neg b13, if_pos ⟨h2, h3⟩])
                                have v4 : (tb == 2) = true := by rw [beq_iff_eq]; exact h3
                                clear HST HQT HV s1 s2 h2 h3
                                go_wp2_with fail
                                go_ret
                                exact ⟨by rw [HE.out]; rfl, HT.out.bel⟩
                              · have HE := Lib.hid (show q = 0 by rw [HQT.out, HV.out, if_neg b7, if_neg b13, if_neg (fun h => h3 h.2)])
                                have v4 : (tb == 2) = false := by rw [beq_eq_false_iff_ne]; exact h3
                                clear HST HQT HV s1 s2 h2 h3
                                go_wp2_with fail
                                go_ret
                                exact ⟨by rw [HE.out]; rfl, HT.out.bel⟩
                            · have HE := Lib.hid (show q = 0 by rw [HQT.out, HV.out, if_neg b7, if_neg b13, if_neg (fun h => h2 h.1)])
                              have v3 : (ta == 2) = false := by rw [beq_eq_false_iff_ne]; exact h2
                              clear HST HQT HV s1 s2 h2
                              go_wp2_with fail
                              go_ret
                              exact ⟨by rw [HE.out]; rfl, HT.out.bel⟩
                      · have b8 : ¬ 8 ≤ kk := by omega
                        have b14 : ¬ 14 ≤ kk := by omega
                        have HE := Lib.hid (show q = 0 by rw [HR2.out, if_neg (fun h => b3 h.1)])
                        clear HST HR2 HV s1 s2
                        go_wp2_with fail
                        go_ret
                        exact ⟨by rw [HE.out]; rfl, HT.out.bel⟩
                  · have HE := Lib.hid (show q = 0 from HRZ.out (two_names tys hns))
                    have u0 : ns.length ≠ 0 := fun e => hns (List.eq_nil_of_length_eq_zero e)
                    have u1 : (0 : Int) < ns.length := by omega
                    have u2 : 0 < ns.length := by omega
                    clear HST HTY HRZ HR2 u0 hns
                    go_wp2_with fail
                    go_ret
                    exact ⟨by rw [HE.out]; rfl, HT.out.bel⟩
            · have n2 : (0 : Int) < ms.length := by omega
              have n3 : 0 < ms.length := by omega
              have n1 : (nn != 0) = false := by rw [z]; rfl
              have HE := Lib.hid (show q = 0 by rw [HQ.out, if_neg k1, if_neg k2, if_pos (fun h => zm h.1)])
              go_wp2_with fail
              go_ret
              exact ⟨by rw [HE.out]; rfl, HT.out.bel⟩
          · have n1 : (nn != 0) = true := by rw [bne_iff_ne]; exact z
            have n2 : (nn == 0) = false := by rw [beq_eq_false_iff_ne]; exact z
            have HE := Lib.hid (show q = 0 by rw [HQ.out, if_neg k1, if_neg k2, if_pos (fun h => z h.2)])
            go_wp2_with fail
            go_ret
            exact ⟨by rw [HE.out]; rfl, HT.out.bel⟩
    | succ g => --done
      have hlt : k < ns.length := by omega
      obtain ⟨au, hkl, hA, e0⟩ := (HSN.out wr HT.out.bel).1.str hlt
      have hnz := HNS.out ns[k] (List.getElem_mem hkl)
      have HNX := Lib.hid (show namesOk ns (k + 1) = (wordF ns[k] && !hasS (ns.take k) ns[k]) by show (namesOk ns k && nameAt ns k) = _; rw [HOK.out, Bool.true_and, nameAt_get hlt])
      have HBD := Lib.hid (fun h : (wordF ns[k] && !hasS (ns.take k) ns[k]) = false => namesOk_false (ns := ns) (k := k) (by rw [nameAt_get hlt]; exact h) _ hlt)
      have HTK := Lib.hid (show ns.take (k + 1) = ns.take k ++ [ns[k]] from List.take_succ_eq_append_getElem hkl)
      have HLK := Lib.hid (memB_hasS (ns.take k) ns[k])
      generalize ns[k] = nm at *
      subst hA
      have hlk : ∀ V, SMap V bm k (memB (ns.take k)) → (Instr.lookup 65 (.map (some bm)) (.string nm) false).run Tryz.prog V = .ok (.bool (hasS (ns.take k) nm)) V := fun V hV => by rw [← HLK.out]; exact hV.look hnz
      have HLK2 := Lib.hid hlk
      clear hlk HLK
      generalize hasS (ns.take k) nm = hs at *
      have hnz2 : nm.size ≤ 9223372036854775807 := hnz
      have hba := (Below.refl wr.heap.size wr).alloc (Nat.le_refl _) (.cells #[.string nm, .string ⟨#[120]⟩] 68)
      have HW3 := Lib.hid (Blk.mk (heap_alloc_new wr (.cells #[.string nm, .string ⟨#[120]⟩] 68)) : Blk _ wr.heap.size 68 [.string nm, .string ⟨#[120]⟩])
      have hR3 := refRight_any (some ⟨wr.heap.size, 0, none⟩) 1 1 [(nm, ⟨#[120]⟩)] (wr.alloc (.cells #[.string nm, .string ⟨#[120]⟩] 68)).heap.size (wr.alloc (.cells #[.string nm, .string ⟨#[120]⟩] 68)) (HW3.out.sees rfl (List.prefix_refl _)) (Nat.le_refl _) (by omega) (fun x hx => by
        rw [List.mem_singleton] at hx; subst hx; exact hnz2)
      rw [right_one8] at hR3
      have HR3 := Lib.hid hR3
      have HT3 := Lib.hid (HT.out.below hba)
      have HM3 := Lib.hid (HMP.out.below hba)
      clear hR3 hba hnz2 HW3
      cases hw : wordF nm with
      | false =>
        have HE := Lib.hid (HQ0.out (HBD.out (by rw [hw]; rfl)))
        rw [hw] at HR3
        clear hw HNX HBD
        go_wp2_with fail
        (with_reducible refine HR3.out.mono ?_); rintro e w7 ⟨rfl, hb⟩
        have HT8 := Lib.hid (HT3.out.below hb)
        clear hb HR3
        go_wp2_with fail
        go_ret
        exact ⟨by rw [HE.out]; rfl, HT8.out.bel⟩
      | true =>
        rw [hw] at HR3
        cases hs with
        | true =>
          have HE := Lib.hid (HQ0.out (HBD.out (by rw [hw]; rfl)))
          clear hw HNX HBD
          go_wp2_with fail
          (with_reducible refine HR3.out.mono ?_); rintro e w7 ⟨rfl, hb⟩
          have HT8 := Lib.hid (HT3.out.below hb)
          have hlk := HLK2.out w7 (HM3.out.below hb)
          clear hb HR3 HLK2
          go_wp2_with fail
          go_ret
          exact ⟨by rw [HE.out]; rfl, HT8.out.bel⟩
        | false =>
          have HN := Lib.hid (HNX.out.trans (by rw [hw] <;> rfl))
          clear hw HNX HBD
          go_wp2_with fail
          (with_reducible refine HR3.out.mono ?_); rintro e w7 ⟨rfl, hb⟩
          have HT8 := Lib.hid (HT3.out.below hb)
          have HM8 := Lib.hid (HM3.out.below hb)
          have hlk := HLK2.out w7 HM8.out
          obtain ⟨w8, hrun8, hm8, hg8⟩ := HM8.out.put (by omega) hnz
          rw [memB_snoc, ← HTK.out] at hm8
          have HRUN8 := Lib.hid hrun8; have HMN := Lib.hid hm8
          have HTN := Lib.hid (HT8.out.mapped hg8 HBM.out.1 HBM.out.2)
          clear hb HR3 HLK2 hrun8 hm8 hg8
          go_wp2_with (at_mapUpdate; refine wpList_put_smap rfl (.tmp 28) (.tmp 29) (.const (.bool true)) 65 rfl (.map (some bm)) (.string nm) (.bool true) rfl rfl rfl w8 HRUN8.out ?_)
          go_roundg g
          case measure => omega
          case rel => exact ⟨k + 1, by omega, by first | rfl | go_num, HN.out, HMN.out, HTN.out⟩
end Go.Proofs.YtcaapbbbekggiaaGreatDoor
