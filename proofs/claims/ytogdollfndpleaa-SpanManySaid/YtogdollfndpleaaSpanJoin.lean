/- Package span: Join. -/
import Derived.Test.YtogdollfndpleaaSpanRow
import Derived.Test.YtogdollfndpleaaConcatSpn
import Derived.Shelf.SlSortCmp.NoneTotal
namespace Go.Proofs.Ytogdollfndpleaa
open Go.ChangeShapes Go.WideShapes Go.ChangeAt Go.RowKit
open Go.Sort hiding Below
open Go.Shelf
set_option linter.unusedVariables false
set_option maxRecDepth 100000
def cmpI (x y : Int × Int) : Int := if x.1 < y.1 then -1 else if x.1 > y.1 then 1 else 0
theorem compare_any (x y : Int × Int) (w : World) : Calls Try.prog 21 #[.int .i64 x.1, .int .i64 y.1] w fun e w' => e = .returned (.int .i64 (cmpI x y)) ∧ w = w' := by
  have h1 : (x.1 != x.1) = false := by simp
  have h2 : (y.1 != y.1) = false := by simp
  have HC := Lib.hid (show cmpI x y = if x.1 < y.1 then -1 else if x.1 > y.1 then 1 else 0 from rfl)
  generalize x.1 = a at *
  generalize y.1 = b at *
  generalize cmpI x y = r at *
  by_cases hlt : a < b
  · have HR := Lib.hid (show r = -1 by rw [HC.out, if_pos hlt])
    go_enter Try.func21, Try.ntmps21
    go_wp2
    go_ret
    exact ⟨ret_int HR.out.symm, rfl⟩
  · by_cases hgt : a > b
    · have HR := Lib.hid (show r = 1 by rw [HC.out, if_neg hlt, if_pos hgt])
      go_enter Try.func21, Try.ntmps21
      go_wp2
      go_ret
      exact ⟨ret_int HR.out.symm, rfl⟩
    · have HR := Lib.hid (show r = 0 by rw [HC.out, if_neg hlt, if_neg hgt])
      go_enter Try.func21, Try.ntmps21
      go_wp2
      go_ret
      exact ⟨ret_int HR.out.symm, rfl⟩
theorem closure_any (x y : Int × Int) (W : World) : Calls Try.prog 20 #[.agg #[.int .i64 x.1, .int .i64 x.2], .agg #[.int .i64 y.1, .int .i64 y.2]] W fun e w' => e = .returned (.int .i64 (cmpI x y)) ∧ ∃ q os', w' = grow (W.drewN q) os' := by
  have HC := Lib.hid (fun W' => compare_any x y W')
  go_enter Try.func20, Try.ntmps20
  go_wp2_with fail
  refine (HC.out _).mono ?_; rintro e w' ⟨rfl, rfl⟩
  go_wp2_with fail
  go_ret
  exact ⟨rfl, 0, _, by rw [alloc_eq_grow, alloc_eq_grow, grow_grow]; rfl⟩
/-- The numbers of what slices.SortFunc at spans comes to. -/
def sortSpRen : Go.Shelf.Ren where
  f := fun x => match x with
    | 6 => 19
    | 15 => 24
    | 14 => 26
    | 28 => 37
    | 29 => 38
    | 20 => 39
    | 21 => 40
    | 22 => 41
    | 23 => 42
    | 24 => 43
    | 25 => 44
    | 26 => 45
    | 27 => 46
    | 46 => 52
    | 47 => 48
    | 48 => 49
    | 49 => 53
    | 50 => 54
    | 57 => 56
    | n => n
  t := fun x => match x with
    | 22 => 24
    | 24 => 28
    | 25 => 46
    | 3 => 3
    | 39 => 50
    | 0 => 0
    | 53 => 64
    | 55 => 66
    | 4 => 4
    | 46 => 56
    | 45 => 55
    | 50 => 61
    | 5 => 5
    | 9 => 9
    | 66 => 72
    | 70 => 76
    | 76 => 80
    | 77 => 81
    | n => n
  g := fun n => n
theorem sortSpLays : SlLaysF0.n6 Try.prog sortSpRen :=
  { mixed := rfl,
    f6 := Exists.intro "slices.SortFunc[[]klaxon/api.Span,klaxon/api.Span]" ⟨by decide, Try.func19.trans (congrArg some rfl)⟩,
    f14 := Exists.intro "slices.pdqsortCmpFunc[klaxon/api.Span]" ⟨by decide, Try.func26.trans (congrArg some rfl)⟩,
    f20 := Exists.intro "slices.insertionSortCmpFunc[klaxon/api.Span]" ⟨by decide, Try.func39.trans (congrArg some rfl)⟩,
    f21 := Exists.intro "slices.heapSortCmpFunc[klaxon/api.Span]" ⟨by decide, Try.func40.trans (congrArg some rfl)⟩,
    f22 := Exists.intro "slices.breakPatternsCmpFunc[klaxon/api.Span]" ⟨by decide, Try.func41.trans (congrArg some rfl)⟩,
    f23 := Exists.intro "slices.choosePivotCmpFunc[klaxon/api.Span]" ⟨by decide, Try.func42.trans (congrArg some rfl)⟩,
    f24 := Exists.intro "slices.reverseRangeCmpFunc[klaxon/api.Span]" ⟨by decide, Try.func43.trans (congrArg some rfl)⟩,
    f25 := Exists.intro "slices.partialInsertionSortCmpFunc[klaxon/api.Span]" ⟨by decide, Try.func44.trans (congrArg some rfl)⟩,
    f26 := Exists.intro "slices.partitionEqualCmpFunc[klaxon/api.Span]" ⟨by decide, Try.func45.trans (congrArg some rfl)⟩,
    f27 := Exists.intro "slices.partitionCmpFunc[klaxon/api.Span]" ⟨by decide, Try.func46.trans (congrArg some rfl)⟩,
    f46 := Exists.intro "slices.siftDownCmpFunc[klaxon/api.Span]" ⟨by decide, Try.func52.trans (congrArg some rfl)⟩,
    f49 := Exists.intro "slices.medianAdjacentCmpFunc[klaxon/api.Span]" ⟨by decide, Try.func53.trans (congrArg some rfl)⟩,
    f50 := Exists.intro "slices.medianCmpFunc[klaxon/api.Span]" ⟨by decide, Try.func54.trans (congrArg some rfl)⟩,
    f57 := Exists.intro "slices.order2CmpFunc[klaxon/api.Span]" ⟨by decide, Try.func56.trans (congrArg some rfl)⟩,
    f15 := Try.func24.trans (congrArg some (Eq.refl (SlBodyF.n15 sortSpRen))),
    f28 := Try.func37.trans (congrArg some (Eq.refl (SlBodyF.n28 sortSpRen))),
    f29 := Try.func38.trans (congrArg some (Eq.refl (SlBodyF.n29 sortSpRen))),
    f47 := Try.func48.trans (congrArg some (Eq.refl (SlBodyF.n47 sortSpRen))),
    f48 := Try.func49.trans (congrArg some (Eq.refl (SlBodyF.n48 sortSpRen))),
    t0 := Try.underlying0,
    a0 := Try.isAgg0,
    z0 := Try.sizeOf0,
    v0 := Try.zeroValue0,
    t3 := Try.underlying3,
    a3 := Try.isAgg3,
    z3 := Try.sizeOf3,
    v3 := Try.zeroValue3,
    t4 := Try.underlying4,
    a4 := Try.isAgg4,
    z4 := Try.sizeOf4,
    v4 := Try.zeroValue4,
    t5 := Try.underlying5,
    a5 := Try.isAgg5,
    z5 := Try.sizeOf5,
    v5 := Try.zeroValue5,
    t9 := Try.underlying9,
    a9 := Try.isAgg9,
    z9 := Try.sizeOf9,
    v9 := Try.zeroValue9,
    t22 := Try.underlying24,
    a22 := Try.isAgg24,
    z22 := Try.sizeOf24,
    v22 := Try.zeroValue24,
    t25 := Try.underlying46,
    a25 := Try.isAgg46,
    z25 := Try.sizeOf46,
    v25 := Try.zeroValue46,
    t39 := Try.underlying50,
    a39 := Try.isAgg50,
    z39 := Try.sizeOf50,
    v39 := Try.zeroValue50,
    t45 := Try.underlying55,
    a45 := Try.isAgg55,
    z45 := Try.sizeOf55,
    v45 := Try.zeroValue55,
    t46 := Try.underlying56,
    a46 := Try.isAgg56,
    z46 := Try.sizeOf56,
    v46 := Try.zeroValue56,
    t50 := Try.underlying61,
    a50 := Try.isAgg61,
    z50 := Try.sizeOf61,
    v50 := Try.zeroValue61,
    t53 := Try.underlying64,
    a53 := Try.isAgg64,
    z53 := Try.sizeOf64,
    v53 := Try.zeroValue64,
    t55 := Try.underlying66,
    a55 := Try.isAgg66,
    z55 := Try.sizeOf66,
    v55 := Try.zeroValue66,
    t66 := Try.underlying72,
    a66 := Try.isAgg72,
    z66 := Try.sizeOf72,
    v66 := Try.zeroValue72,
    t70 := Try.underlying76,
    a70 := Try.isAgg76,
    z70 := Try.sizeOf76,
    v70 := Try.zeroValue76,
    t76 := Try.underlying80,
    a76 := Try.isAgg80,
    z76 := Try.sizeOf80,
    v76 := Try.zeroValue80,
    t77 := Try.underlying81,
    a77 := Try.isAgg81,
    z77 := Try.sizeOf81,
    v77 := Try.zeroValue81 }
theorem cmp_order : SWO (ltOf cmpI) where
  irrefl x := by unfold ltOf cmpI; simp
  trans x y z h1 h2 := by
    unfold ltOf cmpI at *
    simp only [decide_eq_true_eq] at *
    split at h1 <;> split at h2 <;> split <;> first | omega | (split <;> omega) | (split at h1 <;> omega) | (split at h2 <;> omega)
  ntrans x y z h1 h2 := by
    unfold ltOf cmpI at *
    simp only [decide_eq_false_iff_not] at *
    split at h1 <;> split at h2 <;> split <;> first | omega | (split <;> omega) | (split at h1 <;> split at h2 <;> split <;> omega)
theorem cmp_le {x y : Int × Int} (h : ltOf cmpI y x = false) : x.1 ≤ y.1 := by
  unfold ltOf cmpI at h
  simp only [decide_eq_false_iff_not] at h
  split at h
  · omega
  · omega
theorem sort_sp (base : Nat) (A : Option Addr) (n c : Nat) (zs : List (Int × Int)) (w : World) (h : w.ownsRow base 28 2 (.slice A n c) n (smps zs)) (hn : n ≤ 1000000) :
    Calls Try.prog 19 #[.slice A n c, .func (.func 20) #[] #[]] w fun e w' => e = .returned (.tuple #[]) ∧ ∃ s, s.Perm zs ∧ s.Pairwise (fun x y => x.1 ≤ y.1) ∧ w'.ownsRow base 28 2 (.slice A n c) n (smps s) ∧ w.grownBy w' (Value.slice A n c).ownBlock := by
  have hl : zs.length = n := by have := h.1; rw [smps_length] at this; omega
  rcases h.2 with ⟨h1, h2⟩ | ⟨g, cap, cur, hv, hb, hh, hnc, hcm, hs, ht⟩
  · injection h1 with h1 _ h3
    subst h1; subst h2; subst h3
    obtain rfl : zs = [] := List.eq_nil_of_length_eq_zero hl
    refine (AnyF.slices_SortFunc_none sortSpLays none 0 _ w).mono ?_
    rintro e w' ⟨rfl, rfl⟩
    exact ⟨rfl, [], List.Perm.refl _, List.Pairwise.nil, h, World.grownBy.refl _ _⟩
  · injection hv with h1 h2 h3
    subst h1; subst h3
    have hH : HoldsK encSp 2 w g 0 zs.toArray := holds_sp hh hl ht
    have hg : g < w.heap.size := (Array.getElem?_eq_some_iff.1 hh).1
    have eg : ∀ args w, (callFunc 20 args).run Try.prog w = .ok (.enter 20 args) w := enters_of Try.func20 (by kernel_rfl) rfl
    have hc : CmpLays Try.prog 20 #[] encSp 2 cmpI g 0 zs.toArray.size w := fun _ _ _ _ x y => closure_any x y _
    have h2 := AnyQ.slices_SortFunc sortSpLays 2 Try.isAgg28 Try.sizeOf28 encSp (fun _ => rfl) (fun x v hv => by simp [encSp] at hv; rcases hv with rfl | rfl <;> rfl) cmpI cmp_order 20 #[] g 0 c zs.toArray w eg hc hH hg (by simp; omega)
    rw [show zs.toArray.size = n by simp [hl]] at h2
    refine h2.mono ?_
    rintro e w' ⟨rfl, d', m, os, hp, hso, rfl⟩
    have hds : d'.size = n := by rw [hp.1]; simp [hl]
    have hd : d' = d'.toList.toArray := by simp
    have hpp : d'.toList.Perm zs := by
      have h5 := hp.2.2
      rw [← hds, Array.extract_size] at h5
      have h6 : zs.toArray.extract 0 d'.size = zs.toArray := by rw [show d'.size = zs.toArray.size by simp [hds, hl]]; exact Array.extract_size
      rw [h6] at h5
      exact h5
    have hll : d'.toList.length = n := by simp [hds]
    refine ⟨rfl, d'.toList, hpp, ?_, ?_, ?_⟩
    · rw [List.pairwise_iff_getElem]
      intro i j hi hj hij
      have h7 := hso i j (Nat.zero_le _) hij (by rw [hll] at hj; exact hj)
      have h8 := cmp_le h7
      have hi' : i < d'.size := by simpa using hi
      have hj' : j < d'.size := by simpa using hj
      rw [getElem!_pos d' i hi', getElem!_pos d' j hj'] at h8
      simpa using h8
    · have h9 := own_sorted_sp (n := m) (os := os) (ts := d'.toList) hll hb hh hnc hcm hs
      rw [← hd] at h9
      exact h9
    · exact grownBy_sorted_sp _
/-- What Join answers. -/
def JoinAns (l : List (Int × Int)) (w : World) (e : Ending) (w' : World) : Prop :=
  ∃ r A c, e = .returned (.slice A r.length c) ∧ JoinOf l r ∧ w'.ownsRow w.heap.size 28 2 (.slice A r.length c) r.length (smps r) ∧ Below w.heap.size w w' ∧ r.length ≤ c ∧ c ≤ 9223372036854775807 ∧ r.length ≤ l.length
theorem joinAns {l r : List (Int × Int)} {w : World} {e : Ending} {w' : World} {A : Option Addr} {c : Nat} (h1 : e = .returned (.slice A r.length c)) (h2 : JoinOf l r) (h3 : w'.ownsRow w.heap.size 28 2 (.slice A r.length c) r.length (smps r)) (h4 : Below w.heap.size w w') (h5 : r.length ≤ c) (h6 : c ≤ 9223372036854775807) (h7 : r.length ≤ l.length) : JoinAns l w e w' := ⟨r, A, c, h1, h2, h3, h4, h5, h6, h7⟩
set_option maxHeartbeats 2000000 in
theorem join_any (P : Option Addr) (np cp : Nat) (lss : List (List (Int × Int))) (w : World) (h : PartsSpn w w.heap.size P np lss) (hn : np ≤ 1000) (hN : lss.flatten.length ≤ 30000) :
    Calls Try.prog 7 #[.slice P np cp] w (JoinAns lss.flatten w) := by
  have HC1 := Lib.hid (concat_Spn P np cp lss w h (by omega) (by omega))
  clear h
  generalize lss.flatten = F at *
  have hcl := clip_len' F
  generalize hFL : F.length = fl at *
  have HFL := Lib.hid hFL; clear hFL
  go_enter Try.func7, Try.ntmps7
  go_wp2_with fail
  refine HC1.out.mono ?_; rintro e w1 ⟨A1, c1, rfl, hown1, hbel1, hc1, hc2⟩
  have HS1 := Lib.hid (Sees.of_own hown1)
  have HB1 := Lib.hid hbel1
  have hs1 := hbel1.size
  clear hown1 hbel1 HC1
  go_wp2_with fail
  refine (clipped_any A1 fl c1 F _ w1 HS1.out (Nat.le_refl _) (by omega)).mono ?_; rintro e w2 ⟨A2, c2, rfl, hown2, hbel2, hc3, hc4⟩
  have HO2 := Lib.hid (own_mono hown2 hs1)
  have HB2 := Lib.hid (HB1.out.trans (hbel2.mono hs1))
  have hs2 := HB2.out.size
  clear hown2 hbel2 HB1 HS1
  have HJ := Lib.hid (fun (s : List (Int × Int)) (h1 : s.Perm (clip F)) h2 => joinOf_fold (l := F) h1 h2)
  have HIN := Lib.hid (clip_in F)
  generalize clip F = ls at *
  generalize hL : ls.length = L at *
  have HL := Lib.hid hL; clear hL
  go_wp2_with fail
  refine (sort_sp w.heap.size A2 L c2 ls w2 HO2.out (by omega)).mono ?_; rintro e w3 ⟨rfl, s, hperm, hsort, hown3, hgr3⟩
  have HB3 := Lib.hid (HB2.out.grown hgr3 hs2 fun k hk => (HO2.out.lt k hk).1)
  have HS3 := Lib.hid (Sees.of_own hown3)
  have HJ3 := Lib.hid (HJ.out s hperm hsort)
  have HIN3 : Hid (In200 s) := fun y hy => HIN.out y (hperm.mem_iff.1 hy)
  have hsl : s.length = L := by rw [hperm.length_eq]; exact HL.out
  have HSL := Lib.hid hsl
  have hs3 := HB3.out.size
  clear hown3 hgr3 hperm hsort hsl HO2 HB2 HJ HIN
  go_wp2_with fail
  go_loopg [4, 14] L (fun g x4 x14 wr => ∃ (k : Nat) (A4 : Option Addr) (c4 : Nat) (ts : List (Int × Int)), k + g = L ∧ x14 = .int .i64 k ∧ x4 = .slice A4 ts.length c4 ∧ ts = (s.take k).foldl withS [] ∧ wr.ownsRow w3.heap.size 28 2 (.slice A4 ts.length c4) ts.length (smps ts) ∧ Below w3.heap.size w3 wr)
  case atStart => exact ⟨0, none, 0, [], by omega, rfl, rfl, rfl, World.ownsRow_nil _ _ _ _, Below.refl _ _⟩
  case round =>
    obtain ⟨k, A4, c4, ts, hkg, rfl, rfl, hts, hown, hbel⟩ := hrel
    have hsz := hbel.size
    have HO := Lib.hid hown; have HBL := Lib.hid hbel; have HT := Lib.hid hts
    have htl : ts.length ≤ k := by
      have := fold_len (s.take k) []
      rw [← hts, List.length_take] at this
      simp at this; omega
    have HTI := Lib.hid (show In200 ts by rw [hts]; exact fold_in _ _ (fun y hy => by cases hy) (fun y hy => HIN3.out y (List.mem_of_mem_take hy)))
    clear hown hbel hts
    cases gk with
    | zero =>
      obtain rfl : k = L := by omega
      have HE := Lib.hid (show ts = s.foldl withS [] by rw [HT.out, List.take_of_length_le (by rw [HSL.out]; exact Nat.le_refl _)])
      have HJE := Lib.hid (show JoinOf F ts by rw [HE.out]; exact HJ3.out)
      obtain ⟨_, _, e, hc5, hc6⟩ := own_slice HO.out
      injection e with e1 _ e2; subst e1; subst e2
      have HOM := Lib.hid (own_mono HO.out hs3)
      have HBB := Lib.hid (HB3.out.trans (HBL.out.mono hs3))
      go_wp2_with fail
      go_ret
      exact joinAns rfl HJE.out HOM.out HBB.out hc5 hc6 (by rw [HFL.out]; omega)
    | succ g =>
      have hlt : k < L := by omega
      obtain ⟨ad, hkl, rfl, c0, c1'⟩ := (HS3.out.below HBL.out).smp hlt
      have HST := Lib.hid (fold_step hkl)
      have hal := World.block_lt_of_cell? wr _ c0
      generalize s[k] = p at *
      obtain ⟨f, t⟩ := p
      simp only at c0 c1'
      have HN := Lib.hid (show withS ts (f, t) = (s.take (k + 1)).foldl withS [] by rw [HST.out, ← HT.out])
      have HOA := Lib.hid (HO.out.alloc (.cells #[.int .i64 f, .int .i64 t] 28))
      have HBA := Lib.hid (HBL.out.alloc hsz (.cells #[.int .i64 f, .int .i64 t] 28))
      go_wp2_with fail
      refine (with_any w3.heap.size A4 c4 ts.length ts f t _ HOA.out HBA.out.size (by omega) (fun y hy => by have := HTI.out y hy; omega)).mono ?_; rintro e w5 ⟨A5, c5, rfl, hown5, hbel5, hc5, hc6⟩
      rw [HN.out] at hown5
      rw [HN.out]
      have HO5 := Lib.hid hown5; have HB5 := Lib.hid (HBA.out.trans hbel5)
      clear hown5 hbel5
      go_wp2_with fail
      go_roundg g
      case measure => omega
      case rel => exact ⟨k + 1, A5, c5, _, by omega, by go_num, rfl, rfl, HO5.out, HB5.out⟩
end Go.Proofs.Ytogdollfndpleaa
