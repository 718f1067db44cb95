/- Package span: Join. -/
import Derived.Test.YtakgkggkfdbejaaSpanRow
import Derived.Test.YtakgkggkfdbejaaConcatSpn
import Derived.Shelf.SlSortCmp.NoneTotal
namespace Go.Proofs.Ytakgkggkfdbejaa
open Go.ChangeShapes Go.WideShapes Go.ChangeAt Go.RowKit
open Go.Sort hiding Below
open Go.Shelf
set_option linter.unusedVariables false
set_option maxRecDepth 100000
def cmpI (x y : Int × Int) : Int := if x.1 < y.1 then -1 else if x.1 > y.1 then 1 else 0
theorem compare_any (x y : Int × Int) (w : World) : Calls Try.prog 32 #[.int .i64 x.1, .int .i64 y.1] w fun e w' => e = .returned (.int .i64 (cmpI x y)) ∧ w = w' := by
  have h1 : (x.1 != x.1) = false := by simp
  have h2 : (y.1 != y.1) = false := by simp
  have HC := Lib.hid (show cmpI x y = if x.1 < y.1 then -1 else if x.1 > y.1 then 1 else 0 from rfl)
  generalize x.1 = a at *
  generalize y.1 = b at *
  generalize cmpI x y = r at *
  by_cases hlt : a < b
  · have HR := Lib.hid (show r = -1 by rw [HC.out, if_pos hlt])
    go_enter Try.func32, Try.ntmps32
    go_wp2
    go_ret
    exact ⟨ret_int HR.out.symm, rfl⟩
  · by_cases hgt : a > b
    · have HR := Lib.hid (show r = 1 by rw [HC.out, if_neg hlt, if_pos hgt])
      go_enter Try.func32, Try.ntmps32
      go_wp2
      go_ret
      exact ⟨ret_int HR.out.symm, rfl⟩
    · have HR := Lib.hid (show r = 0 by rw [HC.out, if_neg hlt, if_neg hgt])
      go_enter Try.func32, Try.ntmps32
      go_wp2
      go_ret
      exact ⟨ret_int HR.out.symm, rfl⟩
theorem closure_any (x y : Int × Int) (W : World) : Calls Try.prog 31 #[.agg #[.int .i64 x.1, .int .i64 x.2], .agg #[.int .i64 y.1, .int .i64 y.2]] W fun e w' => e = .returned (.int .i64 (cmpI x y)) ∧ ∃ q os', w' = grow (W.drewN q) os' := by
  have HC := Lib.hid (fun W' => compare_any x y W')
  go_enter Try.func31, Try.ntmps31
  go_wp2_with fail
  refine (HC.out _).mono ?_; rintro e w' ⟨rfl, rfl⟩
  go_wp2_with fail
  go_ret
  exact ⟨rfl, 0, _, by rw [alloc_eq_grow, alloc_eq_grow, grow_grow]; rfl⟩
/-- The numbers of what slices.SortFunc at spans comes to. -/
def sortSpRen : Go.Shelf.Ren where
  f := fun x => match x with
    | 6 => 30
    | 15 => 34
    | 14 => 36
    | 28 => 47
    | 29 => 48
    | 20 => 49
    | 21 => 50
    | 22 => 51
    | 23 => 52
    | 24 => 53
    | 25 => 54
    | 26 => 55
    | 27 => 56
    | 46 => 62
    | 47 => 58
    | 48 => 59
    | 49 => 63
    | 50 => 64
    | 57 => 66
    | n => n
  t := fun x => match x with
    | 22 => 22
    | 24 => 26
    | 25 => 59
    | 3 => 3
    | 39 => 62
    | 0 => 0
    | 53 => 76
    | 55 => 78
    | 4 => 4
    | 46 => 68
    | 45 => 67
    | 50 => 73
    | 5 => 5
    | 9 => 9
    | 66 => 84
    | 70 => 88
    | 76 => 92
    | 77 => 93
    | n => n
  g := fun n => n
theorem sortSpLays : SlLaysF0.n6 Try.prog sortSpRen :=
  { mixed := rfl,
    f6 := Exists.intro "slices.SortFunc[[]klaxon/api.Span,klaxon/api.Span]" ⟨by decide, Try.func30.trans (congrArg some rfl)⟩,
    f14 := Exists.intro "slices.pdqsortCmpFunc[klaxon/api.Span]" ⟨by decide, Try.func36.trans (congrArg some rfl)⟩,
    f20 := Exists.intro "slices.insertionSortCmpFunc[klaxon/api.Span]" ⟨by decide, Try.func49.trans (congrArg some rfl)⟩,
    f21 := Exists.intro "slices.heapSortCmpFunc[klaxon/api.Span]" ⟨by decide, Try.func50.trans (congrArg some rfl)⟩,
    f22 := Exists.intro "slices.breakPatternsCmpFunc[klaxon/api.Span]" ⟨by decide, Try.func51.trans (congrArg some rfl)⟩,
    f23 := Exists.intro "slices.choosePivotCmpFunc[klaxon/api.Span]" ⟨by decide, Try.func52.trans (congrArg some rfl)⟩,
    f24 := Exists.intro "slices.reverseRangeCmpFunc[klaxon/api.Span]" ⟨by decide, Try.func53.trans (congrArg some rfl)⟩,
    f25 := Exists.intro "slices.partialInsertionSortCmpFunc[klaxon/api.Span]" ⟨by decide, Try.func54.trans (congrArg some rfl)⟩,
    f26 := Exists.intro "slices.partitionEqualCmpFunc[klaxon/api.Span]" ⟨by decide, Try.func55.trans (congrArg some rfl)⟩,
    f27 := Exists.intro "slices.partitionCmpFunc[klaxon/api.Span]" ⟨by decide, Try.func56.trans (congrArg some rfl)⟩,
    f46 := Exists.intro "slices.siftDownCmpFunc[klaxon/api.Span]" ⟨by decide, Try.func62.trans (congrArg some rfl)⟩,
    f49 := Exists.intro "slices.medianAdjacentCmpFunc[klaxon/api.Span]" ⟨by decide, Try.func63.trans (congrArg some rfl)⟩,
    f50 := Exists.intro "slices.medianCmpFunc[klaxon/api.Span]" ⟨by decide, Try.func64.trans (congrArg some rfl)⟩,
    f57 := Exists.intro "slices.order2CmpFunc[klaxon/api.Span]" ⟨by decide, Try.func66.trans (congrArg some rfl)⟩,
    f15 := Try.func34.trans (congrArg some (Eq.refl (SlBodyF.n15 sortSpRen))),
    f28 := Try.func47.trans (congrArg some (Eq.refl (SlBodyF.n28 sortSpRen))),
    f29 := Try.func48.trans (congrArg some (Eq.refl (SlBodyF.n29 sortSpRen))),
    f47 := Try.func58.trans (congrArg some (Eq.refl (SlBodyF.n47 sortSpRen))),
    f48 := Try.func59.trans (congrArg some (Eq.refl (SlBodyF.n48 sortSpRen))),
    t0 := Try.underlying0,
    a0 := Try.isAgg0,
    z0 := Try.sizeOf0,
    v0 := Try.zeroValue0,
    t3 := Try.underlying3,
    a3 := Try.isAgg3,
    z3 := Try.sizeOf3,
    v3 := Try.zeroValue3,
    t4 := Try.underlying4,
    a4 := Try.isAgg4,
    z4 := Try.sizeOf4,
    v4 := Try.zeroValue4,
    t5 := Try.underlying5,
    a5 := Try.isAgg5,
    z5 := Try.sizeOf5,
    v5 := Try.zeroValue5,
    t9 := Try.underlying9,
    a9 := Try.isAgg9,
    z9 := Try.sizeOf9,
    v9 := Try.zeroValue9,
    t22 := Try.underlying22,
    a22 := Try.isAgg22,
    z22 := Try.sizeOf22,
    v22 := Try.zeroValue22,
    t25 := Try.underlying59,
    a25 := Try.isAgg59,
    z25 := Try.sizeOf59,
    v25 := Try.zeroValue59,
    t39 := Try.underlying62,
    a39 := Try.isAgg62,
    z39 := Try.sizeOf62,
    v39 := Try.zeroValue62,
    t45 := Try.underlying67,
    a45 := Try.isAgg67,
    z45 := Try.sizeOf67,
    v45 := Try.zeroValue67,
    t46 := Try.underlying68,
    a46 := Try.isAgg68,
    z46 := Try.sizeOf68,
    v46 := Try.zeroValue68,
    t50 := Try.underlying73,
    a50 := Try.isAgg73,
    z50 := Try.sizeOf73,
    v50 := Try.zeroValue73,
    t53 := Try.underlying76,
    a53 := Try.isAgg76,
    z53 := Try.sizeOf76,
    v53 := Try.zeroValue76,
    t55 := Try.underlying78,
    a55 := Try.isAgg78,
    z55 := Try.sizeOf78,
    v55 := Try.zeroValue78,
    t66 := Try.underlying84,
    a66 := Try.isAgg84,
    z66 := Try.sizeOf84,
    v66 := Try.zeroValue84,
    t70 := Try.underlying88,
    a70 := Try.isAgg88,
    z70 := Try.sizeOf88,
    v70 := Try.zeroValue88,
    t76 := Try.underlying92,
    a76 := Try.isAgg92,
    z76 := Try.sizeOf92,
    v76 := Try.zeroValue92,
    t77 := Try.underlying93,
    a77 := Try.isAgg93,
    z77 := Try.sizeOf93,
    v77 := Try.zeroValue93 }
theorem cmp_order : SWO (ltOf cmpI) where
  irrefl x := by unfold ltOf cmpI; simp
  trans x y z h1 h2 := by
    unfold ltOf cmpI at *
    simp only [decide_eq_true_eq] at *
    split at h1 <;> split at h2 <;> split <;> first | omega | (split <;> omega) | (split at h1 <;> omega) | (split at h2 <;> omega)
  ntrans x y z h1 h2 := by
    unfold ltOf cmpI at *
    simp only [decide_eq_false_iff_not] at *
    split at h1 <;> split at h2 <;> split <;> first | omega | (split <;> omega) | (split at h1 <;> split at h2 <;> split <;> omega)
theorem cmp_le {x y : Int × Int} (h : ltOf cmpI y x = false) : x.1 ≤ y.1 := by
  unfold ltOf cmpI at h
  simp only [decide_eq_false_iff_not] at h
  split at h
  · omega
  · omega
theorem sort_sp (base : Nat) (A : Option Addr) (n c : Nat) (zs : List (Int × Int)) (w : World) (h : w.ownsRow base 26 2 (.slice A n c) n (smps zs)) (hn : n ≤ 1000000) :
    Calls Try.prog 30 #[.slice A n c, .func (.func 31) #[] #[]] w fun e w' => e = .returned (.tuple #[]) ∧ ∃ s, s.Perm zs ∧ s.Pairwise (fun x y => x.1 ≤ y.1) ∧ w'.ownsRow base 26 2 (.slice A n c) n (smps s) ∧ w.grownBy w' (Value.slice A n c).ownBlock := by
  have hl : zs.length = n := by have := h.1; rw [smps_length] at this; omega
  rcases h.2 with ⟨h1, h2⟩ | ⟨g, cap, cur, hv, hb, hh, hnc, hcm, hs, ht⟩
  · injection h1 with h1 _ h3
    subst h1; subst h2; subst h3
    obtain rfl : zs = [] := List.eq_nil_of_length_eq_zero hl
    refine (AnyF.slices_SortFunc_none sortSpLays none 0 _ w).mono ?_
    rintro e w' ⟨rfl, rfl⟩
    exact ⟨rfl, [], List.Perm.refl _, List.Pairwise.nil, h, World.grownBy.refl _ _⟩
  · injection hv with h1 h2 h3
    subst h1; subst h3
    have hH : HoldsK encSp 2 w g 0 zs.toArray := holds_sp hh hl ht
    have hg : g < w.heap.size := (Array.getElem?_eq_some_iff.1 hh).1
    have eg : ∀ args w, (callFunc 31 args).run Try.prog w = .ok (.enter 31 args) w := enters_of Try.func31 (by kernel_rfl) rfl
    have hc : CmpLays Try.prog 31 #[] encSp 2 cmpI g 0 zs.toArray.size w := fun _ _ _ _ x y => closure_any x y _
    have h2 := AnyQ.slices_SortFunc sortSpLays 2 Try.isAgg26 Try.sizeOf26 encSp (fun _ => rfl) (fun x v hv => by simp [encSp] at hv; rcases hv with rfl | rfl <;> rfl) cmpI cmp_order 31 #[] g 0 c zs.toArray w eg hc hH hg (by simp; omega)
    rw [show zs.toArray.size = n by simp [hl]] at h2
    refine h2.mono ?_
    rintro e w' ⟨rfl, d', m, os, hp, hso, rfl⟩
    have hds : d'.size = n := by rw [hp.1]; simp [hl]
    have hd : d' = d'.toList.toArray := by simp
    have hpp : d'.toList.Perm zs := by
      have h5 := hp.2.2
      rw [← hds, Array.extract_size] at h5
      have h6 : zs.toArray.extract 0 d'.size = zs.toArray := by rw [show d'.size = zs.toArray.size by simp [hds, hl]]; exact Array.extract_size
      rw [h6] at h5
      exact h5
    have hll : d'.toList.length = n := by simp [hds]
    refine ⟨rfl, d'.toList, hpp, ?_, ?_, ?_⟩
    · rw [List.pairwise_iff_getElem]
      intro i j hi hj hij
      have h7 := hso i j (Nat.zero_le _) hij (by rw [hll] at hj; exact hj)
      have h8 := cmp_le h7
      have hi' : i < d'.size := by simpa using hi
      have hj' : j < d'.size := by simpa using hj
      rw [getElem!_pos d' i hi', getElem!_pos d' j hj'] at h8
      simpa using h8
    · have h9 := own_sorted_sp (n := m) (os := os) (ts := d'.toList) hll hb hh hnc hcm hs
      rw [← hd] at h9
      exact h9
    · exact grownBy_sorted_sp _
/-- What Join answers. -/
def JoinAns (l : List (Int × Int)) (w : World) (e : Ending) (w' : World) : Prop :=
  ∃ r A c, e = .returned (.slice A r.length c) ∧ JoinOf l r ∧ w'.ownsRow w.heap.size 26 2 (.slice A r.length c) r.length (smps r) ∧ Below w.heap.size w w' ∧ r.length ≤ c ∧ c ≤ 9223372036854775807 ∧ r.length ≤ l.length
theorem joinAns {l r : List (Int × Int)} {w : World} {e : Ending} {w' : World} {A : Option Addr} {c : Nat} (h1 : e = .returned (.slice A r.length c)) (h2 : JoinOf l r) (h3 : w'.ownsRow w.heap.size 26 2 (.slice A r.length c) r.length (smps r)) (h4 : Below w.heap.size w w') (h5 : r.length ≤ c) (h6 : c ≤ 9223372036854775807) (h7 : r.length ≤ l.length) : JoinAns l w e w' := ⟨r, A, c, h1, h2, h3, h4, h5, h6, h7⟩
set_option maxHeartbeats 2000000 in
theorem join_any (P : Option Addr) (np cp : Nat) (lss : List (List (Int × Int))) (w : World) (h : PartsSpn w w.heap.size P np lss) (hn : np ≤ 1000) (hN : lss.flatten.length ≤ 30000) :
    Calls Try.prog 16 #[.slice P np cp] w (JoinAns lss.flatten w) := by
  have HC1 := Lib.hid (concat_Spn P np cp lss w h (by omega) (by omega))
  clear h
  generalize lss.flatten = F at *
  have hcl := clip_len' F
  generalize hFL : F.length = fl at *
  have HFL := Lib.hid hFL; clear hFL
  go_enter Try.func16, Try.ntmps16
  go_wp2_with fail
  refine HC1.out.mono ?_; rintro e w1 ⟨A1, c1, rfl, hown1, hbel1, hc1, hc2⟩
  have HS1 := Lib.hid (Sees.of_own hown1)
  have HB1 := Lib.hid hbel1
  have hs1 := hbel1.size
  clear hown1 hbel1 HC1
  go_wp2_with fail
  refine (clipped_any A1 fl c1 F _ w1 HS1.out (Nat.le_refl _) (by omega)).mono ?_; rintro e w2 ⟨A2, c2, rfl, hown2, hbel2, hc3, hc4⟩
  have HO2 := Lib.hid (own_mono hown2 hs1)
  have HB2 := Lib.hid (HB1.out.trans (hbel2.mono hs1))
  have hs2 := HB2.out.size
  clear hown2 hbel2 HB1 HS1
  have HJ := Lib.hid (fun (s : List (Int × Int)) (h1 : s.Perm (clip F)) h2 => joinOf_fold (l := F) h1 h2)
  have HIN := Lib.hid (clip_in F)
  generalize clip F = ls at *
  generalize hL : ls.length = L at *
  have HL := Lib.hid hL; clear hL
  go_wp2_with fail
  refine (sort_sp w.heap.size A2 L c2 ls w2 HO2.out (by omega)).mono ?_; rintro e w3 ⟨rfl, s, hperm, hsort, hown3, hgr3⟩
  have HB3 := Lib.hid (HB2.out.grown hgr3 hs2 fun k hk => (HO2.out.lt k hk).1)
  have HS3 := Lib.hid (Sees.of_own hown3)
  have HJ3 := Lib.hid (HJ.out s hperm hsort)
  have HIN3 : Hid (In200 s) := fun y hy => HIN.out y (hperm.mem_iff.1 hy)
  have hsl : s.length = L := by rw [hperm.length_eq]; exact HL.out
  have HSL := Lib.hid hsl
  have hs3 := HB3.out.size
  clear hown3 hgr3 hperm hsort hsl HO2 HB2 HJ HIN
  go_wp2_with fail
  go_loopg [4, 14] L (fun g x4 x14 wr => ∃ (k : Nat) (A4 : Option Addr) (c4 : Nat) (ts : List (Int × Int)), k + g = L ∧ x14 = .int .i64 k ∧ x4 = .slice A4 ts.length c4 ∧ ts = (s.take k).foldl withS [] ∧ wr.ownsRow w3.heap.size 26 2 (.slice A4 ts.length c4) ts.length (smps ts) ∧ Below w3.heap.size w3 wr)
  case atStart => exact ⟨0, none, 0, [], by omega, rfl, rfl, rfl, World.ownsRow_nil _ _ _ _, Below.refl _ _⟩
  case round =>
    obtain ⟨k, A4, c4, ts, hkg, rfl, rfl, hts, hown, hbel⟩ := hrel
    have hsz := hbel.size
    have HO := Lib.hid hown; have HBL := Lib.hid hbel; have HT := Lib.hid hts
    have htl : ts.length ≤ k := by
      have := fold_len (s.take k) []
      rw [← hts, List.length_take] at this
      simp at this; omega
    have HTI := Lib.hid (show In200 ts by rw [hts]; exact fold_in _ _ (fun y hy => by cases hy) (fun y hy => HIN3.out y (List.mem_of_mem_take hy)))
    clear hown hbel hts
    cases gk with
    | zero =>
      obtain rfl : k = L := by omega
      have HE := Lib.hid (show ts = s.foldl withS [] by rw [HT.out, List.take_of_length_le (by rw [HSL.out]; exact Nat.le_refl _)])
      have HJE := Lib.hid (show JoinOf F ts by rw [HE.out]; exact HJ3.out)
      obtain ⟨_, _, e, hc5, hc6⟩ := own_slice HO.out
      injection e with e1 _ e2; subst e1; subst e2
      have HOM := Lib.hid (own_mono HO.out hs3)
      have HBB := Lib.hid (HB3.out.trans (HBL.out.mono hs3))
      go_wp2_with fail
      go_ret
      exact joinAns rfl HJE.out HOM.out HBB.out hc5 hc6 (by rw [HFL.out]; omega)
    | succ g =>
      have hlt : k < L := by omega
      obtain ⟨ad, hkl, rfl, c0, c1'⟩ := (HS3.out.below HBL.out).smp hlt
      have HST := Lib.hid (fold_step hkl)
      have hal := World.block_lt_of_cell? wr _ c0
      generalize s[k] = p at *
      obtain ⟨f, t⟩ := p
      simp only at c0 c1'
      have HN := Lib.hid (show withS ts (f, t) = (s.take (k + 1)).foldl withS [] by rw [HST.out, ← HT.out])
      have HOA := Lib.hid (HO.out.alloc (.cells #[.int .i64 f, .int .i64 t] 26))
      have HBA := Lib.hid (HBL.out.alloc hsz (.cells #[.int .i64 f, .int .i64 t] 26))
      go_wp2_with fail
      refine (with_any w3.heap.size A4 c4 ts.length ts f t _ HOA.out HBA.out.size (by omega) (fun y hy => by have := HTI.out y hy; omega)).mono ?_; rintro e w5 ⟨A5, c5, rfl, hown5, hbel5, hc5, hc6⟩
      rw [HN.out] at hown5
      rw [HN.out]
      have HO5 := Lib.hid hown5; have HB5 := Lib.hid (HBA.out.trans hbel5)
      clear hown5 hbel5
      go_wp2_with fail
      go_roundg g
      case measure => omega
      case rel => exact ⟨k + 1, A5, c5, _, by omega, by go_num, rfl, rfl, HO5.out, HB5.out⟩
end Go.Proofs.Ytakgkggkfdbejaa
