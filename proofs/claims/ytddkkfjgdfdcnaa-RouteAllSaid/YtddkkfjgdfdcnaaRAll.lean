/- The walk of RouteAll. -/
import Derived.Test.YtddkkfjgdfdcnaaRAllMath
namespace Go.Proofs.Ytddkkfjgdfdcnaa
open Go.ChangeShapes Go.WideShapes Go.ChangeAt Go.RowKit Go.Sort Go.Lib
set_option linter.unusedVariables false
set_option linter.unusedSimpArgs false
set_option maxRecDepth 100000
set_option maxHeartbeats 8000000 in
theorem route_all (k : KTree) (A1 : Option Addr) (n1 c1 : Nat) (zs : List KSet) (w : World) (hk : k.ok w.heap.size w) (h1 : AKSets w w.heap.size A1 zs) (l1 : zs.length = n1) (p1 : n1 ≤ c1) (q1 : c1 ≤ 9223372036854775807) :
    Calls Try.prog 5 #[k.val, .slice A1 n1 c1] w fun e w' => e = .returned (.bool true) ∧ Below w.heap.size w w' := by
  obtain ⟨i0, hi0, hz0, hz1, hz2⟩ := info_parts Try.infoLbls
  obtain ⟨j0, hj0, jz0, jz1, jz2⟩ := info_parts Try.infoRt
  obtain ⟨K, hK⟩ : ∃ K, min n1 6 = K := ⟨_, rfl⟩
  have hK6 : K ≤ 6 := by omega
  have hKn : K ≤ n1 := by omega
  have HK := Lib.hid hK
  have HZL := Lib.hid l1
  clear hK l1
  have HB0 := Lib.hid ((Below.refl w.heap.size w).alloc (Nat.le_refl _) (.cells #[.slice k.A k.n k.c, .slice k.A2 k.n2 k.c2, .slice k.A3 k.n3 k.c3] 39))
  have HKO := Lib.hid ((hk.below HB0.out).more HB0.out.size)
  have HZ := Lib.hid (h1.below HB0.out)
  have hbx := (Blk.mk (heap_alloc_new w (.cells #[.slice k.A k.n k.c, .slice k.A2 k.n2 k.c2, .slice k.A3 k.n3 k.c3] 39)) : Blk _ w.heap.size 39 [.slice k.A k.n k.c, .slice k.A2 k.n2 k.c2, .slice k.A3 k.n3 k.c3])
  have t0 := hbx.cell 0
  have t1 := hbx.cell 1
  have t2 := hbx.cell 2
  simp only [List.getElem?_cons_zero, List.getElem?_cons_succ] at t0 t1 t2
  clear hbx hk h1
  show Calls _ _ #[.agg #[.slice k.A k.n k.c, .slice k.A2 k.n2 k.c2, .slice k.A3 k.n3 k.c3], .slice A1 n1 c1] _ _
  obtain ⟨W1, hW1⟩ : ∃ W, w.alloc (.cells #[.slice k.A k.n k.c, .slice k.A2 k.n2 k.c2, .slice k.A3 k.n3 k.c3] 39) = W := ⟨_, rfl⟩
  rw [hW1] at HB0 HKO HZ t0 t1 t2
  have HTA := Lib.hid (tree_any k W1 HKO.out)
  unfold KTree.val at HTA
  go_enter Try.func5, Try.ntmps5
  go_wp2_with fail
  (with_reducible refine HTA.out.mono ?_); rintro e wq ⟨r, he, hok, hrt, hct, hsz, hbq⟩
  obtain ⟨A5, c5, A6, c6, hv5, hv6⟩ := okAt_form hok
  have hval : r.val = .agg #[.slice A5 r.ms.length c5, .string r.nm, .bool r.goes, .slice A6 r.kids.length c6] := by unfold RT.val; rw [hv5, hv6]
  rw [hval] at he
  subst he
  have hkk : HasK wq (.slice A6 r.kids.length c6) r.kids := by rw [← hv6]; exact hok.2.1
  have HNM := Lib.hid (nm_size hsz)
  generalize r.ms.length = lm at *
  obtain ⟨rn, hrn⟩ : ∃ rn, r.nm = rn := ⟨_, rfl⟩
  generalize r.goes = rg at *
  rw [hrn]
  rw [hrn] at HNM hval
  have HVAL := Lib.hid hval
  have HRN := Lib.hid hrn
  have HRT := Lib.hid hrt; have HCT := Lib.hid hct; have HSZ := Lib.hid hsz
  obtain ⟨hk8, hkk8⟩ := kids_few hct
  have HK8 := Lib.hid hkk8
  have HV0 := Lib.hid (((((Kept.start w).below HB0.out).below hbq).add (fun V hb => (HZ.out.below (hbq.mono HB0.out.size)).below (hb.mono (Nat.le_trans HB0.out.size hbq.size)) : Stays (fun W => AKSets W w.heap.size A1 zs) wq)).add (okAt_stays hok) |>.add hkk.stay)
  have HV := Lib.hid ((HV0.out.alloc (.cells #[.slice A5 lm c5, .string rn, .bool rg, .slice A6 r.kids.length c6] 28)).add (Blk.mk (heap_alloc_new wq (.cells #[.slice A5 lm c5, .string rn, .bool rg, .slice A6 r.kids.length c6] 28)) : Blk _ wq.heap.size 28 [.slice A5 lm c5, .string rn, .bool rg, .slice A6 r.kids.length c6]).stays)
  clear hok hrt hct hsz hbq hv5 hv6 hval hkk hkk8 HV0 HTA HKO HZ HB0 t0 t1 t2 hrn
  obtain ⟨b5, hb5⟩ : ∃ b, wq.heap.size = b := ⟨_, rfl⟩
  obtain ⟨V, hV⟩ : ∃ V, wq.alloc (.cells #[.slice A5 lm c5, .string rn, .bool rg, .slice A6 r.kids.length c6] 28) = V := ⟨_, rfl⟩
  rw [hV, hb5] at HV
  obtain ⟨bm, hbm⟩ : ∃ b, V.heap.size = b := ⟨_, rfl⟩
  have HM0 := SMap.made V
  obtain ⟨w7, hrun, hm7, hg7⟩ := HM0.put (by omega) HNM.out
  have HRUN := Lib.hid hrun
  have HM7 := Lib.hid (show SMap w7 bm ([rn] : List ByteArray).length (nmem [rn]) by rw [← hbm]; exact hm7)
  have HB7 := Lib.hid (show Below V.heap.size V w7 from ((Below.refl V.heap.size V).alloc (Nat.le_refl _) _).grown hg7 (by simp) (fun g hg => by injection hg with hg; omega))
  have HV5 := Lib.hid hb5
  have HBM := Lib.hid hbm
  have HVE := Lib.hid hV
  have hbl := HV.out.p0.lt
  have b1 := HV.out.p0.cell 1
  have b3 := HV.out.p0.cell 3
  simp only [List.getElem?_cons_zero, List.getElem?_cons_succ] at b1 b3
  have hmm := @run_makeMap Try.prog
  clear hrun hm7 hg7 hV hb5 hbm HM0 hW1
  go_upto_region 2 with fail
  rw [HVE.out, HV5.out]
  clear HVE
  have d3 := (HV.out.below HB7.out).p0.cell 3
  simp only [List.getElem?_cons_zero, List.getElem?_cons_succ] at d3
  go_upto_block 0 with (refine wpList_ins_smap rfl (.tmp 24) (.tmp 26) (.const (.bool true)) 49 rfl (.map (some V.heap.size)) (.string rn) (.bool true) rfl rfl rfl w7 HRUN.out ?_)
  rw [HBM.out]
  clear b1 b3 d3 HRUN hmm
  go_cut [] from 31 to 49 (fun wx => ∃ L : List ByteArray, Below V.heap.size V wx ∧ SMap wx bm L.length (nmem L) ∧ Cov r r.kids.length L ∧ L.length ≤ 1000)
  case first => --done
    go_wp2_with fail
    go_loopg [31] r.kids.length (fun g x31 wr => ∃ (i : Nat) (L : List ByteArray), i + g = r.kids.length ∧ x31 = .int .i64 i ∧ Below V.heap.size V wr ∧ SMap wr bm L.length (nmem L) ∧ Cov r i L ∧ L.length ≤ 1 + 9 * i)
    case atStart => exact ⟨0, [rn], by omega, rfl, HB7.out, HM7.out, by rw [← HRN.out]; exact Cov.start r, by simp⟩
    case round =>
      obtain ⟨i, L, hig, rfl, hbel, hmap, hcov, hLl⟩ := hrel
      have HB := Lib.hid hbel; have HM := Lib.hid hmap; have HC := Lib.hid hcov
      clear hbel hmap hcov HB7 HM7
      cases gk with
      | zero =>
        have HCE := Lib.hid (show Cov r r.kids.length L by have h := HC.out; rwa [show i = r.kids.length by omega] at h)
        have hL2 : L.length ≤ 1000 := by omega
        go_wp2_with fail
        go_meet
        exact ⟨L, HB.out, HM.out, HCE.out, hL2⟩
      | succ g =>
        have hik : i < r.kids.length := by omega
        have HVR := Lib.hid (HV.out.below HB.out)
        obtain ⟨ad, hkl, hA, e0, e1, e2, e3⟩ := HVR.out.p1.get hik
        have hal := World.block_lt_of_cell? wr _ e0
        have hq := HV.out.p2.2.2 r.kids[i] (List.getElem_mem _)
        have HSQ := Lib.hid (HSZ.out.2.2 r.kids[i] (List.getElem_mem hkl))
        have hq8 := HK8.out r.kids[i] (List.getElem_mem _)
        have HCM := Lib.hid (fun L (h : Cov r i L) => h.more hkl)
        subst hA
        generalize r.kids[i] = q at *
        obtain ⟨A7, c7, A8, c8, hv7, hv8⟩ := okAt_form hq
        rw [hv7] at e0
        rw [hv8] at e3
        have HQK := Lib.hid (show HasK V (.slice A8 q.kids.length c8) q.kids by rw [← hv8]; exact hq.2.1)
        have HQ1 := Lib.hid hq.2.2
        generalize q.ms.length = m7 at *
        generalize q.goes = qg at *
        have HMA := Lib.hid (HM.out.below ((Below.refl wr.heap.size wr).alloc (Nat.le_refl _) (.cells #[.slice A7 m7 c7, .string q.nm, .bool qg, .slice A8 q.kids.length c8] 28)))
        have HBA := Lib.hid (HB.out.alloc HB.out.size (.cells #[.slice A7 m7 c7, .string q.nm, .bool qg, .slice A8 q.kids.length c8] 28))
        have HBQ := Lib.hid (Blk.mk (heap_alloc_new wr (.cells #[.slice A7 m7 c7, .string q.nm, .bool qg, .slice A8 q.kids.length c8] 28)) : Blk _ wr.heap.size 28 [.slice A7 m7 c7, .string q.nm, .bool qg, .slice A8 q.kids.length c8])
        have hbmr : bm < wr.heap.size := HM.out.lt
        clear hq hv7 hv8 HM HVR
        obtain ⟨bq, hbq⟩ : ∃ b, wr.heap.size = b := ⟨_, rfl⟩
        obtain ⟨W2, hW2⟩ : ∃ W, wr.alloc (.cells #[.slice A7 m7 c7, .string q.nm, .bool qg, .slice A8 q.kids.length c8] 28) = W := ⟨_, rfl⟩
        rw [hW2, hbq] at HBQ
        rw [hW2] at HMA HBA
        have k1 := HBQ.out.cell 1
        simp only [List.getElem?_cons_zero, List.getElem?_cons_succ] at k1
        obtain ⟨w8, hrun8, hm8, hg8⟩ := HMA.out.put (by omega) (nm_size HSQ.out)
        rw [nmem_push] at hm8
        have hbms : V.heap.size ≤ bm := by rw [HBM.out]; exact Nat.le_refl _
        have hl3 := (HBQ.out.grown hg8 (fun e => by injection e with e; omega)).cell 3
        simp only [List.getElem?_cons_zero, List.getElem?_cons_succ] at hl3
        have HB8 := Lib.hid (HBA.out.grown hg8 HBA.out.size (fun g hg => by injection hg with hg; omega))
        have HM8 := Lib.hid (show SMap w8 bm (q.nm :: L).length (nmem (q.nm :: L)) from hm8)
        have HRUN8 := Lib.hid hrun8
        have HC8 := Lib.hid (HC.out.cons q.nm)
        have HMQ := Lib.hid (show q.nm ∈ q.nm :: L from List.mem_cons_self)
        have hL8 : (q.nm :: L).length ≤ 2 + 9 * i := by rw [List.length_cons]; omega
        clear hrun8 hm8 hg8 HBQ HMA HBA HC hLl
        generalize q.nm :: L = L8 at *
        obtain ⟨qn, hqn⟩ : ∃ t, q.nm = t := ⟨_, rfl⟩
        rw [hqn] at e1 k1 HRUN8 HMQ
        rw [show (∀ L : List ByteArray, Cov r i L → q.nm ∈ L → (∀ x ∈ q.kids, x.nm ∈ L) → Cov r (i + 1) L) = (∀ L : List ByteArray, Cov r i L → qn ∈ L → (∀ x ∈ q.kids, x.nm ∈ L) → Cov r (i + 1) L) by rw [hqn]] at HCM
        rw [hqn] at hW2
        have HW2 := Lib.hid hW2
        have HBQ2 := Lib.hid hbq
        clear hW2 hbq hqn
        go_upto_region 6 with fail
        rw [HW2.out, HBQ2.out]
        clear HW2 HBQ2 e0 e1 e2 e3 hal
        go_upto_block 2 with (at_mapUpdate; refine wpList_put_smap rfl (.tmp 35) (.tmp 37) (.const (.bool true)) 49 rfl (.map (some bm)) (.string qn) (.bool true) rfl rfl rfl w8 HRUN8.out ?_)
        clear k1 hl3 HRUN8
        go_wp2_with fail
        go_loopg [41] q.kids.length (fun g2 x41 wn => ∃ (m : Nat) (L2 : List ByteArray), m + g2 = q.kids.length ∧ x41 = .int .i64 m ∧ Below V.heap.size V wn ∧ SMap wn bm L2.length (nmem L2) ∧ Cov r i L2 ∧ qn ∈ L2 ∧ (∀ x ∈ q.kids.take m, x.nm ∈ L2) ∧ L2.length ≤ 2 + 9 * i + m)
        case atStart => exact ⟨0, L8, by omega, rfl, HB8.out, HM8.out, HC8.out, HMQ.out, (fun x hx => by simp at hx), by omega⟩
        case round =>
          obtain ⟨m, L2, hmg, rfl, hbel, hmap, hcov, hqm, hall, hl2⟩ := hrel
          have HB := Lib.hid hbel; have HM := Lib.hid hmap; have HC := Lib.hid hcov; have HMQ2 := Lib.hid hqm; have HAL := Lib.hid hall
          clear hbel hmap hcov hqm hall HB8 HM8 HC8 HMQ
          cases gk with
          | zero =>
            have HALE := Lib.hid (show ∀ x ∈ q.kids, x.nm ∈ L2 from fun x hx => HAL.out x (by rw [List.take_of_length_le (by omega)]; exact hx))
            have hl10 : L2.length ≤ 10 + 9 * i := by omega
            have HC2 := Lib.hid (HCM.out L2 HC.out HMQ2.out HALE.out)
            have hl3 : L2.length ≤ 1 + 9 * (i + 1) := by omega
            go_wp2_with fail
            go_roundg g
            case measure => omega
            case rel => exact ⟨i + 1, L2, by omega, by go_num, HB.out, HM.out, HC2.out, hl3⟩
          | succ g2 =>
            have hmk : m < q.kids.length := by omega
            obtain ⟨ay, hyl, hAy, f0, f1, f2, f3⟩ := (HQK.out.below HB.out).get hmk
            have hal := World.block_lt_of_cell? wr _ f0
            have hy := HQ1.out q.kids[m] (List.getElem_mem _)
            have HSY := Lib.hid (HSQ.out.2.2 q.kids[m] (List.getElem_mem hyl))
            have HAM : Hid (∀ L : List ByteArray, (∀ x ∈ q.kids.take m, x.nm ∈ L) → q.kids[m].nm ∈ L → ∀ x ∈ q.kids.take (m + 1), x.nm ∈ L) := Lib.hid (fun L h1 h2 x hx => by
              rw [List.take_succ_eq_append_getElem hyl] at hx
              rcases List.mem_append.1 hx with hx | hx
              · exact h1 x hx
              · rw [List.mem_singleton] at hx; subst hx; exact h2)
            subst hAy
            generalize q.kids[m] = y at *
            obtain ⟨A9, c9, AA, ca, hv9, hva⟩ := okAt_form hy
            rw [hv9] at f0
            rw [hva] at f3
            generalize y.ms.length = m9 at *
            generalize y.kids.length = ma at *
            generalize y.goes = yg at *
            have HMA := Lib.hid (HM.out.below ((Below.refl wr.heap.size wr).alloc (Nat.le_refl _) (.cells #[.slice A9 m9 c9, .string y.nm, .bool yg, .slice AA ma ca] 28)))
            have HBA := Lib.hid (HB.out.alloc HB.out.size (.cells #[.slice A9 m9 c9, .string y.nm, .bool yg, .slice AA ma ca] 28))
            have HBQ := Lib.hid (Blk.mk (heap_alloc_new wr (.cells #[.slice A9 m9 c9, .string y.nm, .bool yg, .slice AA ma ca] 28)) : Blk _ wr.heap.size 28 [.slice A9 m9 c9, .string y.nm, .bool yg, .slice AA ma ca])
            clear hy hv9 hva HM
            obtain ⟨bq, hbq⟩ : ∃ b, wr.heap.size = b := ⟨_, rfl⟩
            obtain ⟨W2, hW2⟩ : ∃ W, wr.alloc (.cells #[.slice A9 m9 c9, .string y.nm, .bool yg, .slice AA ma ca] 28) = W := ⟨_, rfl⟩
            rw [hW2, hbq] at HBQ
            rw [hW2] at HMA HBA
            have k1 := HBQ.out.cell 1
            simp only [List.getElem?_cons_zero, List.getElem?_cons_succ] at k1
            obtain ⟨w8, hrun8, hm8, hg8⟩ := HMA.out.put (by omega) (nm_size HSY.out)
            rw [nmem_push] at hm8
            have HB8 := Lib.hid (HBA.out.grown hg8 HBA.out.size (fun g hg => by injection hg with hg; omega))
            have HM8 := Lib.hid (show SMap w8 bm (y.nm :: L2).length (nmem (y.nm :: L2)) from hm8)
            have HRUN8 := Lib.hid hrun8
            have HC8 := Lib.hid (HC.out.cons y.nm)
            have HMQ8 := Lib.hid (show qn ∈ y.nm :: L2 from List.mem_cons_of_mem _ HMQ2.out)
            have HAL8 := Lib.hid (HAM.out (y.nm :: L2) (fun x hx => List.mem_cons_of_mem _ (HAL.out x hx)) List.mem_cons_self)
            have hL8' : (y.nm :: L2).length ≤ 2 + 9 * i + (m + 1) := by rw [List.length_cons]; omega
            clear hrun8 hm8 hg8 HBQ HMA HBA HC hl2 HAM HMQ2 HAL
            generalize y.nm :: L2 = L9 at *
            generalize y.nm = yn at *
            have HW2 := Lib.hid hW2
            have HBQ2 := Lib.hid hbq
            clear hW2 hbq
            go_upto_region 10 with fail
            rw [HW2.out, HBQ2.out]
            clear HW2 HBQ2 f0 f1 f2 f3 hal
            go_wp2_with (at_mapUpdate; refine wpList_put_smap rfl (.tmp 45) (.tmp 47) (.const (.bool true)) 49 rfl (.map (some bm)) (.string yn) (.bool true) rfl rfl rfl w8 HRUN8.out ?_)
            go_roundg g2
            case measure => omega
            case rel => exact ⟨m + 1, L9, by omega, by go_num, HB8.out, HM8.out, HC8.out, HMQ8.out, HAL8.out, hL8'⟩
  case rest =>
    obtain ⟨L, hbel, hmap, hcov, hL⟩ := hcut
    have HIN := Lib.hid (fun t (ht : Nms r t) => nmem_in (hcov.nms ht))
    have HB := Lib.hid hbel; have HM := Lib.hid hmap
    have HSE := Lib.hid (SSet.made wc)
    have HB1 := Lib.hid (hbel.alloc hbel.size (.map #[] 0))
    have HM1 := Lib.hid (hmap.below ((Below.refl wc.heap.size wc).alloc (Nat.le_refl _) (.map #[] 0)))
    have hbiV := hbel.size
    obtain ⟨bi, hbi⟩ : ∃ b, wc.heap.size = b := ⟨_, rfl⟩
    have HBI := Lib.hid hbi
    have HNB := Lib.hid (show bm ≠ bi by have h1 := HM.out.lt; omega)
    rw [hbi] at HSE hbiV
    have hmm := @run_makeMap Try.prog
    clear hbel hmap hcov hL HB HM HB7 HM7 hbi
    go_upto_block 4 with fail
    rw [HBI.out]
    generalize wc.alloc (.map #[] 0) = Wi at *
    go_cut [11] from 51 to 88 (fun x11 wx => ∃ (X : Option Addr) (cx : Nat) (rows : List (Value × List Lbl)) (D : List ByteArray), x11 = .slice X rows.length cx ∧ OwnRows V.heap.size (.slice X rows.length cx) rows wx ∧ Below V.heap.size V wx ∧ SSet wx bi D.length (nmem D) (dist D) ∧ (∀ t, t ∈ D ↔ t ∈ allR 3 r (setsOf rows)) ∧ rows.length ≤ 6)
    case first => --done
      go_wp2_with fail
      go_loopg [11, 13] K (fun g x11 x13 wr => ∃ (i : Nat) (X : Option Addr) (cx : Nat) (rows : List (Value × List Lbl)) (D : List ByteArray), i + g = K ∧ x13 = .int .i64 i ∧ x11 = .slice X rows.length cx ∧ OwnRows V.heap.size (.slice X rows.length cx) rows wr ∧ Below V.heap.size V wr ∧ SMap wr bm L.length (nmem L) ∧ SSet wr bi D.length (nmem D) (dist D) ∧ (∀ t, t ∈ D ↔ t ∈ allR 3 r (setsOf rows)) ∧ rows.length = i ∧ D.length ≤ 16 * i)
      case atStart => exact ⟨0, none, 0, [], [], by omega, rfl, rfl, OwnRows.nil _ _, HB1.out, HM1.out, HSE.out, (fun t => by simp [allR, setsOf]), rfl, Nat.le_refl _⟩
      case round =>
        obtain ⟨i, X, cx, rows, D, hig, rfl, rfl, hrow, hbel, hmap, hset, hmem, hrl, hDl⟩ := hrel
        have HR := Lib.hid hrow; have HB := Lib.hid hbel; have HM := Lib.hid hmap; have HS := Lib.hid hset; have HD := Lib.hid hmem
        have hws := hbel.size
        clear hrow hbel hmap hset hmem HB1 HM1 HSE
        cases gk with
        | zero =>
          obtain rfl : i = K := by omega
          have hn0 := HK.out
          have hr6 : rows.length ≤ 6 := by omega
          have HRL := Lib.hid hrl
          clear hrl
          by_cases h6 : n1 ≤ 6
          · obtain rfl : n1 = i := by omega
            clear hn0
            go_wp2_with fail
            go_meet
            exact ⟨X, cx, rows, D, rfl, HR.out, HB.out, HS.out, HD.out, hr6⟩
          · obtain rfl : i = 6 := by omega
            have h7 : 6 < n1 := by omega
            clear hn0
            go_wp2_with fail
            go_meet
            exact ⟨X, cx, rows, D, rfl, HR.out, HB.out, HS.out, HD.out, hr6⟩
        | succ g =>
          have hr6 : rows.length ≤ 6 := by omega
          have HRL := Lib.hid hrl
          clear hrl
          have hil : i < zs.length := by rw [HZL.out]; omega
          have hi6 : i < 6 := by omega
          have hin : i < n1 := by omega
          have HVR := Lib.hid (HV.out.below HB.out)
          obtain ⟨ad, hAe, had, e0, e1, hok⟩ := HVR.out.p3 i hil
          have hal := World.block_lt_of_cell? wr _ e0
          have hwv : w.heap.size ≤ wr.heap.size := HVR.out.size
          have HKS := Lib.hid (keepset_any zs[i] w.heap.size wr hok hwv)
          subst hAe
          unfold KSet.val at HKS
          generalize setF zs[i] = l at *
          generalize zs[i].A = Aa at *
          generalize zs[i].n = na at *
          generalize zs[i].c = ca at *
          generalize zs[i].A2 = Ab at *
          generalize zs[i].n2 = nb at *
          generalize zs[i].c2 = cb at *
          clear hok HVR
          go_wp2_with fail
          (with_reducible refine HKS.out.mono ?_); rintro e wq2 hcl
          obtain ⟨A9, c9, rfl, hol, hbq⟩ := ownL_of hcl
          have hb1 := hbq.alloc hbq.size (.cells #[.slice A9 l.length c9] 31)
          have HRW := Lib.hid (HR.out.below hb1)
          have HOL := Lib.hid (hol.below ((Below.refl wq2.heap.size wq2).alloc (Nat.le_refl _) (.cells #[.slice A9 l.length c9] 31)))
          have HMW := Lib.hid (HM.out.below hb1)
          have HSW := Lib.hid (HS.out.below hb1)
          have HBA := Lib.hid (HB.out.trans (hb1.mono hws))
          have hsq : V.heap.size ≤ (wq2.alloc (.cells #[.slice A9 l.length c9] 31)).heap.size := Nat.le_trans hws hb1.size
          have HX := Lib.hid (show Sees (wq2.alloc (.cells #[.slice A9 l.length c9] 31)) (wq2.alloc (.cells #[.slice A9 l.length c9] 31)).heap.size 1 (some ⟨wq2.heap.size, 0, none⟩) 1 [.slice A9 l.length c9] from (Blk.mk (heap_alloc_new wq2 _) : Blk _ wq2.heap.size 31 [.slice A9 l.length c9]).sees rfl (List.prefix_refl _))
          have hbx : ∀ g, (Value.slice X rows.length cx).ownBlock = some g → V.heap.size ≤ g := fun g hg => (HRW.out.own.lt g hg).1
          have HBX := Lib.hid hbx
          clear hbx hcl hol hbq hb1 HR HM HS HB HKS e0 e1 hal
          go_wp2_with (at_builtin; refine wpList_append_at rfl (.tmp 66) (.tmp 68) 50 rfl V.heap.size 31 i0 (.slice none 0 0) 1 24 Try.underlying50 hi0 hz0 hz1 hz2 rfl (by decide) (.slice X rows.length cx) rows.length (rows.map Prod.fst) rfl HRW.out.own _ _ 1 1 [.slice A9 l.length c9] rfl HX.out (by intro u hu; rw [List.mem_singleton] at hu; subst hu; rfl) (by unfold maxLen; omega) (by omega) hsq ?_)
          intro v3 w8 hown3 hgr3 hwh3
          obtain ⟨AA, ca3, rfl, hc3, hc4⟩ := own_slice hown3
          have HRN := Lib.hid (HRW.out.push HOL.out hown3 hgr3)
          have HB3 := Lib.hid (HBA.out.grown hgr3 hsq HBX.out)
          have HMN := Lib.hid (HMW.out.kept hgr3 (fun e => smap_ne HMW.out HRW.out.own _ e.symm rfl))
          have HSN := Lib.hid (HSW.out.kept hgr3 (fun e => smap_ne HSW.out.smap HRW.out.own _ e.symm rfl))
          have HLN := Lib.hid (show (rows ++ [(Value.slice A9 l.length c9, l)]).length = rows.length + 1 by simp)
          have HSS := Lib.hid (setsOf_push rows (.slice A9 l.length c9) l)
          have HHL := Lib.hid (show HasL w8 (.slice A9 l.length c9) l from (HRN.out.each (.slice A9 l.length c9, l) (List.mem_append_right _ (List.mem_singleton.2 rfl))).hasL)
          clear hown3 hgr3 hwh3 HX HBA HBX HRW HOL HMW HSW hc3 hc4
          generalize rows ++ [(Value.slice A9 l.length c9, l)] = rows2 at *
          have HVN := Lib.hid (HV.out.below HB3.out)
          have g0 := HVN.out.p0.cell 0
          have g1 := HVN.out.p0.cell 1
          have g2 := HVN.out.p0.cell 2
          have g3 := HVN.out.p0.cell 3
          simp only [List.getElem?_cons_zero, List.getElem?_cons_succ] at g0 g1 g2 g3
          have hto := To_any (.slice A9 l.length c9) l 3 r w8 HVN.out.p2 HHL.out (by have := HCT.out; omega)
          rw [if_pos HRT.out] at hto
          have HTL := Lib.hid (toR_len 3 r l)
          have HTR := Lib.hid (toR_right (l := l) HRT.out)
          have HNE := Lib.hid (toF_ne l 2 r)
          have HNS := Lib.hid (fun t (ht : t ∈ toF l 3 r) => toF_nms ht)
          rw [HTR.out] at HTL
          rw [HVAL.out] at hto
          have HTO := Lib.hid hto
          clear hto HHL HVN
          generalize toF l 3 r = T at *
          go_wp2_with fail
          (with_reducible refine HTO.out.mono ?_); rintro e w9 ⟨A4, c4, rfl, ho4, hb4, hc41, hc42⟩
          have hl0 : ¬ (T.length : Int) = 0 := by
            have : T.length ≠ 0 := fun h => HNE.out (List.eq_nil_of_length_eq_zero h)
            omega
          have hl1 : ((T.length : Int) == 0) = false := by rw [beq_eq_false_iff_ne]; exact hl0
          have hl2 : ¬ T.length = 0 := by omega
          have HR9 := Lib.hid (HRN.out.below hb4)
          have HM9 := Lib.hid (HMN.out.below hb4)
          have HS9 := Lib.hid (HSN.out.below hb4)
          have HB9 := Lib.hid (HB3.out.trans (hb4.mono HB3.out.size))
          have HO9 := Lib.hid (own_mono ho4 HB3.out.size)
          clear ho4 hb4 HRN HMN HSN HB3 HTO g0 g1 g2 g3
          go_wp2_with fail
          go_loopg [78] T.length (fun g2 x78 wn => ∃ (m : Nat) (D2 : List ByteArray), m + g2 = T.length ∧ x78 = .int .i64 m ∧ wn.ownsRow V.heap.size 9 1 (.slice A4 T.length c4) T.length (strs T) ∧ OwnRows V.heap.size (.slice AA (rows.length + 1) ca3) rows2 wn ∧ Below V.heap.size V wn ∧ SMap wn bm L.length (nmem L) ∧ SSet wn bi D2.length (nmem D2) (dist D2) ∧ (∀ t, t ∈ D2 ↔ t ∈ D ∨ t ∈ T.take m) ∧ D2.length = D.length + m)
          case atStart => exact ⟨0, D, by omega, rfl, HO9.out, HR9.out, HB9.out, HM9.out, HS9.out, (fun t => by simp), rfl⟩
          case round =>
            obtain ⟨m, D2, hmg, rfl, hown, hrow, hbel, hmap, hset, hmem, hdl⟩ := hrel
            have HO := Lib.hid hown; have HR := Lib.hid hrow; have HB := Lib.hid hbel; have HM := Lib.hid hmap; have HS := Lib.hid hset; have HD2 := Lib.hid hmem; have HDL := Lib.hid hdl
            clear hown hrow hbel hmap hset hmem hdl HO9 HR9 HB9 HM9 HS9
            cases gk with
            | zero =>
              have hme : m = T.length := by omega
              have HDE := Lib.hid (show ∀ t, t ∈ D2 ↔ t ∈ allR 3 r (setsOf rows2) from fun t => by
                rw [HD2.out, HSS.out, allR_push, List.mem_append, HD.out, HTR.out, hme, List.take_length])
              have hd16 : D2.length ≤ 16 * (i + 1) := by have h1 := HDL.out; have h2 := HTL.out; omega
              have HRL2 := Lib.hid (show rows2.length = i + 1 by rw [HLN.out, HRL.out])
              have HRN := Lib.hid (show OwnRows V.heap.size (.slice AA rows2.length ca3) rows2 wr by rw [HLN.out]; exact HR.out)
              clear hme
              go_wp2_with fail
              go_roundg g
              case measure => omega
              case rel => exact ⟨i + 1, AA, ca3, rows2, D2, by omega, by go_num, by rw [HLN.out], HRN.out, HB.out, HM.out, HS.out, HDE.out, HRL2.out, hd16⟩
            | succ g2 =>
              have hmT : m < T.length := by omega
              obtain ⟨at4, htl, hA4, f0⟩ := (Sees.of_own HO.out).str hmT
              have hal := World.block_lt_of_cell? wr _ f0
              have hnm := HNS.out T[m] (List.getElem_mem htl)
              have hsz := nms_size HSZ.out hnm
              have hlk := HM.out.look hsz
              rw [HIN.out _ hnm] at hlk
              have HTK := Lib.hid (List.take_succ_eq_append_getElem htl)
              subst hA4
              generalize T[m] = tx at *
              obtain ⟨w10, hrun, hs10, hg10⟩ := HS.out.put (by have h1 := HDL.out; have h2 := HTL.out; omega) hsz
              rw [nmem_push] at hs10
              have HRUN := Lib.hid hrun
              have HS10 := Lib.hid (show SSet w10 bi (tx :: D2).length (nmem (tx :: D2)) (dist (tx :: D2)) from hs10)
              have HO10 := Lib.hid (own_grown HO.out hg10 (smap_ne HS.out.smap HO.out))
              have HR10 := Lib.hid (HR.out.put HS.out.smap hg10)
              have HB10 := Lib.hid (HB.out.grown hg10 HB.out.size (fun g hg => by injection hg with hg; omega))
              have HM10 := Lib.hid (HM.out.kept hg10 (fun e => by injection e with e; exact absurd e HNB.out))
              have HD10 := Lib.hid (show ∀ t, t ∈ tx :: D2 ↔ t ∈ D ∨ t ∈ T.take (m + 1) from fun t => by
                rw [HTK.out, List.mem_cons, HD2.out, List.mem_append, List.mem_singleton]
                constructor
                · rintro (h | h | h)
                  · exact .inr (.inr h)
                  · exact .inl h
                  · exact .inr (.inl h)
                · rintro (h | h | h)
                  · exact .inr (.inl h)
                  · exact .inr (.inr h)
                  · exact .inl h)
              have HL10 := Lib.hid (show (tx :: D2).length = D.length + (m + 1) by rw [List.length_cons, HDL.out]; omega)
              clear hrun hs10 hg10 HO HR HB HM HS hnm hsz HTK HD2 HDL
              generalize tx :: D2 = D3 at *
              go_upto_region 28 with fail
              clear hlk f0 hal
              go_wp2_with (at_mapUpdate; refine wpList_put_smap rfl (.tmp 86) (.tmp 87) (.const (.bool true)) 49 rfl (.map (some bi)) (.string tx) (.bool true) rfl rfl rfl w10 HRUN.out ?_)
              go_roundg g2
              case measure => omega
              case rel => exact ⟨m + 1, D3, by omega, by go_num, HO10.out, HR10.out, HB10.out, HM10.out, HS10.out, HD10.out, HL10.out⟩
    case rest =>
      obtain ⟨X, cx, rows, D, rfl, hrow, hbel, hset, hmem, hr6⟩ := hcut
      have HVN := Lib.hid (HV.out.below hbel)
      have g0 := HVN.out.p0.cell 0
      have g1 := HVN.out.p0.cell 1
      have g2 := HVN.out.p0.cell 2
      have g3 := HVN.out.p0.cell 3
      simp only [List.getElem?_cons_zero, List.getElem?_cons_succ] at g0 g1 g2 g3
      have hall := All_any 3 r X rows.length cx rows wc HVN.out.p2 hrow.sets (by omega) (by have := HCT.out; omega)
      rw [HVAL.out] at hall
      obtain ⟨E, hE⟩ : ∃ E, txs (sortC (bts (allR 3 r (rows.map Prod.snd)))) = E := ⟨_, rfl⟩
      obtain ⟨f1, f2, f3, hes⟩ := all_facts2 (S := setsOf rows) HRT.out HSZ.out hmem (by simpa [setsOf] using hr6) hE
      rw [hE] at hall
      have HALL := Lib.hid hall
      have HB := Lib.hid hbel; have HS := Lib.hid hset
      have HF1 := Lib.hid f1; have HF2 := Lib.hid f2; have HF3 := Lib.hid f3
      clear hrow hbel hset hmem hall f1 f2 f3 HB1 HM1 HSE HVN hE
      generalize rows.length = rl at *
      go_wp2_with fail
      (with_reducible refine HALL.out.mono ?_); rintro e w9 ⟨A4, c4, rfl, ho4, hb4, hc41, hc42⟩
      have HS9 := Lib.hid (HS.out.below hb4)
      have HB9 := Lib.hid (HB.out.trans (hb4.mono HB.out.size))
      have HO9 := Lib.hid (own_mono ho4 HB.out.size)
      clear ho4 hb4 HB HS HALL g0 g1 g2 g3
      go_upto_block 8 with fail
      go_cut [] from 94 to 116 (fun wx => wx.ownsRow V.heap.size 9 1 (.slice A4 E.length c4) E.length (strs E) ∧ Below V.heap.size V wx ∧ SSet wx bi D.length (nmem D) (dist D))
      case first => --done
        go_wp2_with fail
        go_loopg [94] E.length (fun g x94 wn => ∃ i : Nat, i + g = E.length ∧ x94 = .int .i64 i ∧ wn.ownsRow V.heap.size 9 1 (.slice A4 E.length c4) E.length (strs E) ∧ Below V.heap.size V wn ∧ SSet wn bi D.length (nmem D) (dist D))
        case atStart => exact ⟨0, by omega, rfl, HO9.out, HB9.out, HS9.out⟩
        case round =>
          obtain ⟨i, hig, rfl, hown, hbel, hset⟩ := hrel
          have HO := Lib.hid hown; have HB := Lib.hid hbel; have HS := Lib.hid hset
          clear hown hbel hset HO9 HB9 HS9
          cases gk with
          | zero =>
            go_wp2_with fail
            go_meet
            exact ⟨HO.out, HB.out, HS.out⟩
          | succ g =>
            have hiE : i < E.length := by omega
            have hs4 := Sees.of_own HO.out
            obtain ⟨a4, hel, hA4, f0⟩ := hs4.str hiE
            have hal := World.block_lt_of_cell? wr _ f0
            obtain ⟨hin, hsz⟩ := HF2.out E[i] (List.getElem_mem hel)
            have hlk := HS.out.smap.look hsz
            rw [hin] at hlk
            clear hin hsz
            by_cases h0 : 0 < i
            · obtain ⟨j, hj⟩ : ∃ j, j + 1 = i := ⟨i - 1, by omega⟩
              obtain ⟨a5, hjl, hA5, f5⟩ := hs4.str (k := j) (by omega)
              have hA6 : some a5 = some a4 := hA5.symm.trans hA4
              injection hA6 with hA6
              subst hA6
              have hless : Op.bytesLess E[j].toList E[i].toList = true := by subst hj; exact HF3.out j hel
              have hji : (i : Int) - 1 = (j : Int) := by omega
              have h0i : (0 : Int) < i := by omega
              have hjE : j < E.length := hjl
              subst hA5
              generalize E[i] = tx at *
              generalize E[j] = ty at *
              clear hs4 hj
              go_wp2_with fail
              go_roundg g
              case measure => omega
              case rel => exact ⟨i + 1, by omega, by go_num, HO.out, HB.out, HS.out⟩
            · have h0i : (i : Int) ≤ 0 := by omega
              subst hA4
              generalize E[i] = tx at *
              clear hs4
              go_wp2_with fail
              go_roundg g
              case measure => omega
              case rel => exact ⟨i + 1, by omega, by go_num, HO.out, HB.out, HS.out⟩
      case rest =>
        obtain ⟨hown, hbel, hset⟩ := hcut
        rw [← HF1.out] at hset
        have hel := Nat.le_refl E.length
        clear HF1 HF2 HF3 HO9 HB9 HS9
        have hb1 := (Below.refl wc.heap.size wc).alloc (Nat.le_refl _) (.cells #[.slice none 0 0, .string ⟨#[102, 105, 114, 115, 116]⟩, .bool false, .slice none 0 0] 28)
        have hsz1 : V.heap.size ≤ wc.heap.size := hbel.size
        have HO1 := Lib.hid (own_below hown hb1 (Nat.le_refl _))
        have HS1 := Lib.hid (hset.below hb1)
        have HB1 := Lib.hid (hbel.trans (hb1.mono hsz1))
        have HFR := Lib.hid (show (wc.alloc (.cells #[.slice none 0 0, .string ⟨#[102, 105, 114, 115, 116]⟩, .bool false, .slice none 0 0] 28)).ownsRow V.heap.size 28 4 (.slice (some ⟨wc.heap.size, 0, none⟩) 1 1) 1 [.slice none 0 0, .string ⟨#[102, 105, 114, 115, 116]⟩, .bool false, .slice none 0 0] from (Blk.mk (heap_alloc_new wc (.cells #[.slice none 0 0, .string ⟨#[102, 105, 114, 115, 116]⟩, .bool false, .slice none 0 0] 28)) : Blk _ wc.heap.size 28 [.slice none 0 0, .string ⟨#[102, 105, 114, 115, 116]⟩, .bool false, .slice none 0 0]).owns (base := V.heap.size) (size := 4) (n := 1) (cap := 1) hsz1 (Nat.le_refl _) (by unfold maxLen; omega) rfl)
        have HVN := Lib.hid (HV.out.below HB1.out)
        have hb5 := HVN.out.p0.cell 3
        simp only [List.getElem?_cons_zero, List.getElem?_cons_succ] at hb5
        have HSK := Lib.hid HVN.out.p1.sees
        have HK1 := Lib.hid (kids_one HVN.out.p2.2.2)
        have hV1 : V.heap.size ≤ (wc.alloc (.cells #[.slice none 0 0, .string ⟨#[102, 105, 114, 115, 116]⟩, .bool false, .slice none 0 0] 28)).heap.size := Nat.le_trans hsz1 hb1.size
        clear hown hbel hset hb1
        go_wp2_with (at_builtin; refine wpList_append_at rfl (.tmp 118) (.tmp 120) 26 rfl V.heap.size 28 j0 (.agg #[.slice none 0 0, .string ⟨#[]⟩, .bool false, .slice none 0 0]) 4 72 Try.underlying26 hj0 jz0 jz1 jz2 rfl (by decide) (.slice (some ⟨wc.heap.size, 0, none⟩) 1 1) 1 [.slice none 0 0, .string ⟨#[102, 105, 114, 115, 116]⟩, .bool false, .slice none 0 0] rfl HFR.out _ A6 r.kids.length c6 (quad (r.kids.map RT.cells)) rfl HSK.out HK1.out (by unfold maxLen; omega) (by omega) hV1 ?_)
        intro v3 w3 hown3 hgr3 hwh3
        obtain ⟨AA, ca3, rfl, hc3, hc4⟩ := own_slice hown3
        have HB3 := Lib.hid (HB1.out.grown hgr3 hV1 (fun g hg => (HFR.out.lt g hg).1))
        have HO3 := Lib.hid (own_grown HO1.out hgr3 (own_ne HO1.out HFR.out (by decide)))
        have HS3 := Lib.hid (HS1.out.kept hgr3 (fun e => smap_ne HS1.out.smap HFR.out _ e.symm rfl))
        have HV3 := Lib.hid (HV.out.below HB3.out)
        have HAT := Lib.hid (alone_ok HV3.out.p2 (alone_row hown3))
        have hab := (Below.refl w3.heap.size w3).alloc (Nat.le_refl _) (.cells #[.slice none 0 0, .string ⟨#[97]⟩, .bool false, .slice AA (1 + r.kids.length) ca3] 28)
        have HKB := Lib.hid (((((((Kept.start V).below HB3.out).add (own_stays HO3.out)).add (fun W hb => HS3.out.below hb : Stays (fun W => SSet W bi D.length (nmem D) E.length) w3)).add (okAt_stays HAT.out)).alloc (.cells #[.slice none 0 0, .string ⟨#[97]⟩, .bool false, .slice AA (1 + r.kids.length) ca3] 28)).add (Blk.mk (heap_alloc_new w3 (.cells #[.slice none 0 0, .string ⟨#[97]⟩, .bool false, .slice AA (1 + r.kids.length) ca3] 28)) : Blk _ w3.heap.size 28 [.slice none 0 0, .string ⟨#[97]⟩, .bool false, .slice AA (1 + r.kids.length) ca3]).stays)
        obtain ⟨arT, arC⟩ := alone_right (kv := .slice AA (1 + r.kids.length) ca3) HRT.out HCT.out
        have hto := fun W h => To_any (.slice none 0 0) [] 3 (aloneT (.slice AA (1 + r.kids.length) ca3) r.kids) W h ⟨none, 0, rfl, Sees.nil, Nat.le_refl _, by simp⟩ (by omega)
        rw [if_pos arT, alone_to] at hto
        have HTO : Hid (∀ W, okAt 3 (aloneT (.slice AA (1 + r.kids.length) ca3) r.kids) W → Calls Try.prog 9 #[.agg #[.slice none 0 0, .string ⟨#[97]⟩, .bool false, .slice AA (1 + r.kids.length) ca3], .slice none 0 0] W (StrsAns [⟨#[102, 105, 114, 115, 116]⟩] W)) := Lib.hid hto
        have hall := fun W h => All_any 3 r none 0 0 [] W h ⟨Sees.nil, (fun x hx => absurd hx List.not_mem_nil)⟩ (by omega) (by have := HCT.out; omega)
        rw [all_none, HVAL.out] at hall
        have HALL := Lib.hid hall
        have hk8i : (r.kids.length : Int) ≤ 8 := by omega
        clear hown3 hgr3 hwh3 HFR HO1 HS1 HB1 HSK HK1 hto hall hb5 HV3 HAT HVN hab
        generalize aloneT (.slice AA (1 + r.kids.length) ca3) r.kids = TA at *
        obtain ⟨bz, hbz⟩ : ∃ b, w3.heap.size = b := ⟨_, rfl⟩
        obtain ⟨WZ, hWZ⟩ : ∃ W, w3.alloc (.cells #[.slice none 0 0, .string ⟨#[97]⟩, .bool false, .slice AA (1 + r.kids.length) ca3] 28) = W := ⟨_, rfl⟩
        rw [hWZ, hbz] at HKB
        have HWZ := Lib.hid hWZ; have HBZ := Lib.hid hbz
        clear hWZ hbz
        go_upto_region 38 with fail
        rw [HWZ.out, HBZ.out]
        clear HWZ HBZ
        have HVZ := Lib.hid (HV.out.below HKB.out.bel)
        have z0 := HKB.out.p0.cell 0
        have z1 := HKB.out.p0.cell 1
        have z2 := HKB.out.p0.cell 2
        have z3 := HKB.out.p0.cell 3
        have y3 := HVZ.out.p0.cell 3
        simp only [List.getElem?_cons_zero, List.getElem?_cons_succ] at z0 z1 z2 z3 y3
        go_wp2_with (at_len; refine wpList_len_sset rfl (.tmp 125) rfl bi D.length E.length (nmem D) rfl HKB.out.p2 ?_)
        (with_reducible refine (HTO.out _ HKB.out.p1).mono ?_); rintro e w10 ⟨AB, cb, rfl, hob, hbb, hb1, hb2⟩
        have HK10 := Lib.hid ((HKB.out.below hbb).alloc (.cells #[.string ⟨#[102, 105, 114, 115, 116]⟩] 9))
        have hsm := (same_str AB (some ⟨w10.heap.size, 0, none⟩) 1 cb 1 1 _ _ [⟨#[102, 105, 114, 115, 116]⟩] [⟨#[102, 105, 114, 115, 116]⟩] (w10.alloc (.cells #[.string ⟨#[102, 105, 114, 115, 116]⟩] 9)) (Sees.of_own (hob)|>.alloc (Nat.le_refl _) _) ((Blk.mk (heap_alloc_new w10 (.cells #[.string ⟨#[102, 105, 114, 115, 116]⟩] 9)) : Blk _ w10.heap.size 9 [.string ⟨#[102, 105, 114, 115, 116]⟩]).sees rfl (List.prefix_refl _)) (by omega) (by omega))
        rw [decide_eq_true (rfl : ([⟨#[102, 105, 114, 115, 116]⟩] : List ByteArray) = [⟨#[102, 105, 114, 115, 116]⟩])] at hsm
        have HSM := Lib.hid hsm
        clear hsm hob hbb hb1 hb2 z0 z1 z2 z3 y3
        go_wp2_with fail
        (with_reducible refine HSM.out.mono ?_); rintro e w11 ⟨rfl, m11, hw11⟩
        have HK11 := Lib.hid (show Kept V _ w11 by rw [hw11]; exact HK10.out.drewN m11)
        have HV11 := Lib.hid (HV.out.below HK11.out.bel)
        have z0 := HV11.out.p0.cell 0
        have z1 := HV11.out.p0.cell 1
        have z2 := HV11.out.p0.cell 2
        have z3 := HV11.out.p0.cell 3
        simp only [List.getElem?_cons_zero, List.getElem?_cons_succ] at z0 z1 z2 z3
        clear hw11 HK10 HSM
        go_wp2_with fail
        (with_reducible refine (HALL.out _ HV11.out.p2).mono ?_); rintro e w12 ⟨AC, cc, rfl, hoc, hbc, hc1, hc2⟩
        have HB12 := Lib.hid (HV11.out.bel.trans (hbc.mono HV11.out.size))
        clear hoc hbc hc1 hc2 z0 z1 z2 z3
        simp only [List.length_nil]
        go_wp2_with fail
        (with_reducible refine (route_runs _).mono ?_); rintro e w13 ⟨rfl, hb13⟩
        have HB13 := Lib.hid (HB12.out.trans (hb13.mono HB12.out.size))
        clear hb13
        go_wp2_with fail
        go_ret
        exact ⟨rfl, HB13.out⟩
end Go.Proofs.Ytddkkfjgdfdcnaa
