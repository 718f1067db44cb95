/- Package span: clipped, with. -/
import Derived.Test.YtogdollfndpleaaSample
import Derived.Test.YtogdollfndpleaaArgs
import Derived.Test.YtogdollfndpleaaBook
import Derived.RegionTactic
import Derived.Deep.DeepCutAuto
import Derived.Deep.LoopGhost
import Derived.IntWalk
namespace Go.Proofs.Ytogdollfndpleaa
open Go.ChangeShapes Go.WideShapes Go.ChangeAt Go.RowKit
set_option linter.unusedVariables false
set_option maxRecDepth 100000
theorem Try.infoSpan : (Try.prog.info? 28).map (fun i => (i.zero, i.size, i.bytes)) = some (some (.agg #[.int .i64 0, .int .i64 0]), 2, 16) := by kernel_rfl
/-- A span's ticks that are ticks. -/
def clip1 (x : Int × Int) : List (Int × Int) :=
  let f := if x.1 < 0 then 0 else x.1
  let t := if 199 < x.2 then 199 else x.2
  if f ≤ t then [(f, t)] else []
def clip (l : List (Int × Int)) : List (Int × Int) := l.flatMap clip1
theorem clip1_len (x : Int × Int) : (clip1 x).length ≤ 1 := by
  unfold clip1
  dsimp only
  generalize (if x.1 < 0 then 0 else x.1) = f
  generalize (if 199 < x.2 then 199 else x.2) = t
  split
  · exact Nat.le_refl _
  · exact Nat.zero_le _
theorem clip_step {l : List (Int × Int)} {k : Nat} (h : k < l.length) : clip (l.take (k + 1)) = clip (l.take k) ++ clip1 l[k] := by
  unfold clip
  rw [List.take_succ_eq_append_getElem h, List.flatMap_append, List.flatMap_cons, List.flatMap_nil, List.append_nil]
theorem clip_len (l : List (Int × Int)) (k : Nat) : (clip (l.take k)).length ≤ k := by
  have h : ∀ l : List (Int × Int), (clip l).length ≤ l.length := fun l => by
    induction l with
    | nil => simp [clip]
    | cons x l ih =>
      have h1 := clip1_len x
      have h2 : clip (x :: l) = clip1 x ++ clip l := by simp [clip]
      rw [h2, List.length_append, List.length_cons]; omega
  exact Nat.le_trans (h _) (by rw [List.length_take]; omega)
/-- A row grows by one pair. -/
theorem own_pair {w w1 w2 : World} {B : Nat} {e : TypeId} {v v' : Value} {ts : List (Int × Int)} {a b : Int}
    (hb1 : Below B w w1) (hown : w1.ownsRow B e 2 v ts.length (smps ts)) (hown' : w2.ownsRow B e 2 v' (ts.length + 1) (smps ts ++ smps [(a, b)])) (hg : w1.grownBy w2 v.ownBlock) (hs : B ≤ w1.heap.size) :
    w2.ownsRow B e 2 v' (ts ++ [(a, b)]).length (smps (ts ++ [(a, b)])) ∧ Below B w w2 := by
  refine ⟨by rw [smps_append, List.length_append]; exact hown', hb1.grown hg hs fun k hk => (hown.lt k hk).1⟩
theorem lit_smps {w : World} {t : TypeId} (l : List (Int × Int)) : Sees (w.alloc (.cells (smps l).toArray t)) (w.alloc (.cells (smps l).toArray t)).heap.size 2 (some ⟨w.heap.size, 0, none⟩) l.length (smps l) := by
  have hk : Blk (w.alloc (.cells (smps l).toArray t)) w.heap.size t (smps l) := Blk.mk (heap_alloc_new w _)
  exact hk.sees (smps_length _) (List.prefix_refl _)
theorem pair_sees {w : World} {t : TypeId} (a b : Int) : Sees (w.alloc (.cells #[.int .i64 a, .int .i64 b] t)) (w.alloc (.cells #[.int .i64 a, .int .i64 b] t)).heap.size 2 (some ⟨w.heap.size, 0, none⟩) 1 (smps [(a, b)]) := lit_smps (w := w) (t := t) [(a, b)]
theorem pair_sees2 {w : World} {t : TypeId} {o : Obj} (a b : Int) : Sees ((w.alloc o).alloc (.cells #[.int .i64 a, .int .i64 b] t)) ((w.alloc o).alloc (.cells #[.int .i64 a, .int .i64 b] t)).heap.size 2 (some ⟨w.heap.size + 1, 0, none⟩) 1 (smps [(a, b)]) := by
  have h := pair_sees (w := w.alloc o) (t := t) a b
  rwa [show (w.alloc o).heap.size = w.heap.size + 1 by simp] at h
set_option maxHeartbeats 2000000 in
theorem clipped_any (A : Option Addr) (n c : Nat) (zs : List (Int × Int)) (B : Nat) (w : World) (h : Sees w B 2 A n (smps zs)) (hB : B ≤ w.heap.size) (hn : n ≤ 100000) :
    Calls Try.prog 17 #[.slice A n c] w (OwnAns 28 2 (clip zs).length (smps (clip zs)) w) := by
  have H := Lib.hid h; clear h
  have HL := Lib.hid H.out.smp_len
  obtain ⟨i0, hi, hz0, hz1, hz2⟩ := info_parts Try.infoSpan
  go_enter Try.func17, Try.ntmps17
  go_wp2_with fail
  go_loopw [3, 8] (fun v i wr => ∃ (k : Nat), k ≤ n ∧ i = .int .i64 k ∧ wr.ownsRow w.heap.size 28 2 v (clip (zs.take k)).length (smps (clip (zs.take k))) ∧ Below w.heap.size w wr) (fun _ i _ => n - (intOf i).toNat)
  case atStart => exact ⟨0, Nat.zero_le _, rfl, World.ownsRow_nil _ _ _ _, Below.refl _ _⟩
  case round =>
    obtain ⟨k, hk, rfl, hown, hbel⟩ := hrel
    have hsz := hbel.size
    have HO := Lib.hid hown; have HBL := Lib.hid hbel
    clear hown hbel
    by_cases hlt : k < n
    · obtain ⟨ad, hkl, rfl, c0, c1⟩ := (H.out.below (HBL.out.mono hB)).smp hlt
      have HST := Lib.hid (clip_step hkl)
      have hcl := clip_len zs k
      have hal := World.block_lt_of_cell? wr _ c0
      generalize zs[k] = p at *
      obtain ⟨f, t⟩ := p
      simp only at c0 c1
      generalize clip (zs.take k) = ts at *
      have HC := Lib.hid (show clip1 (f, t) = if (if f < 0 then 0 else f) ≤ (if 199 < t then 199 else t) then [((if f < 0 then 0 else f), (if 199 < t then 199 else t))] else [] from rfl)
      obtain ⟨f1, hf1⟩ : ∃ f1 : Int, (if f < 0 then 0 else f) = f1 := ⟨_, rfl⟩
      obtain ⟨t1, ht1⟩ : ∃ t1 : Int, (if 199 < t then 199 else t) = t1 := ⟨_, rfl⟩
      rw [hf1, ht1] at HC
      by_cases hft : f1 ≤ t1
      · rw [if_pos hft] at HC
        have HO2 := Lib.hid ((HO.out.alloc (.cells #[.int .i64 f1, .int .i64 t1] 28)).alloc (.cells #[.int .i64 f1, .int .i64 t1] 28))
        have HX := Lib.hid (pair_sees2 (w := wr) (o := .cells #[.int .i64 f1, .int .i64 t1] 28) (t := 28) f1 t1)
        have HB2 := Lib.hid ((HBL.out.alloc hsz (.cells #[.int .i64 f1, .int .i64 t1] 28)).alloc (by simp; omega) (.cells #[.int .i64 f1, .int .i64 t1] 28))
        go_wp2_with (at_builtin; refine wpList_append_sees rfl (.tmp 25) (.tmp 27) 24 rfl w.heap.size 28 i0 (.agg #[.int .i64 0, .int .i64 0]) 2 16 Try.underlying24 hi hz0 hz1 hz2 rfl (by decide) _ ts.length (smps ts) rfl HO2.out _ _ 1 1 (smps [(f1, t1)]) rfl HX.out (smps_one _) (by unfold maxLen; omega) (by omega) (by simp; omega) ?_)
        intro v' w2 hown' hgrow
        have R := Lib.hid (own_pair HB2.out HO2.out hown' hgrow (by simp; omega))
        clear hown' hgrow HO2 HB2 HX
        go_wp2_with fail
        go_roundw
        case rel => exact ⟨k + 1, by omega, by go_num, by rw [HST.out, HC.out]; exact R.out.1, R.out.2⟩
        case measure => simp [intOf]; omega
      · rw [if_neg hft] at HC
        have HB2 := Lib.hid (HBL.out.alloc hsz (.cells #[.int .i64 f1, .int .i64 t1] 28))
        have HO2 := Lib.hid (HO.out.alloc (.cells #[.int .i64 f1, .int .i64 t1] 28))
        go_wp2_with fail
        go_roundw
        case rel => exact ⟨k + 1, by omega, by go_num, by rw [HST.out, HC.out, List.append_nil]; exact HO2.out, HB2.out⟩
        case measure => simp [intOf]; omega
    · obtain rfl : k = n := by omega
      have he : zs.take k = zs := List.take_of_length_le (by rw [HL.out]; exact Nat.le_refl _)
      have HE := Lib.hid he; clear he
      rw [HE.out] at HO
      obtain ⟨A', c', rfl, h1, h2⟩ := own_slice HO.out
      go_wp2_with fail
      go_ret
      exact ownAns HO.out HBL.out rfl h1 h2

/-- A call answers a row of the caller's own memory, from block 'base' on. -/
def RowAns (t : TypeId) (size n : Nat) (xs : List Value) (base : Nat) (w : World) (e : Ending) (w' : World) : Prop :=
  ∃ A c, e = .returned (.slice A n c) ∧ w'.ownsRow base t size (.slice A n c) n xs ∧ Below base w w' ∧ n ≤ c ∧ c ≤ 9223372036854775807
theorem rowAns {t : TypeId} {size n c base : Nat} {xs : List Value} {w w' : World} {e : Ending} {A : Option Addr} (hown : w'.ownsRow base t size (.slice A n c) n xs) (hb : Below base w w')
    (he : e = .returned (.slice A n c)) (h1 : n ≤ c) (h2 : c ≤ 9223372036854775807) : RowAns t size n xs base w e w' := ⟨A, c, he, hown, hb, h1, h2⟩
theorem rowAns_of {t : TypeId} {size n base : Nat} {xs : List Value} {w w' : World} {e : Ending} {v : Value} (he : e = .returned v) (hown : w'.ownsRow base t size v n xs) (hb : Below base w w') : RowAns t size n xs base w e w' := by
  obtain ⟨A, c, rfl, h1, h2⟩ := own_slice hown
  exact ⟨A, c, he, hown, hb, h1, h2⟩
/-- l with x, which begins no sooner than the last one of l. -/
def withS (l : List (Int × Int)) (x : Int × Int) : List (Int × Int) :=
  match l.getLast? with
  | none => [x]
  | some y => if x.1 ≤ y.2 + 1 then l.dropLast ++ [(y.1, if y.2 < x.2 then x.2 else y.2)] else l ++ [x]
theorem withS_nil (x : Int × Int) : withS [] x = [x] := rfl
theorem withS_last (us : List (Int × Int)) (y x : Int × Int) : withS (us ++ [y]) x = if x.1 ≤ y.2 + 1 then us ++ [(y.1, if y.2 < x.2 then x.2 else y.2)] else us ++ [y] ++ [x] := by
  unfold withS; simp
theorem withS_len (l : List (Int × Int)) (x : Int × Int) : (withS l x).length ≤ l.length + 1 := by
  rcases List.eq_nil_or_concat l with rfl | ⟨us, y, rfl⟩
  · simp [withS_nil]
  · rw [List.concat_eq_append, withS_last]; split <;> simp
/-- The last pair of a row of the call's own: its cells, and a store into its second. -/
theorem own_last {w : World} {base : Nat} {e : TypeId} {A : Option Addr} {n c : Nat} {us : List (Int × Int)} {a b : Int} (h : w.ownsRow base e 2 (.slice A n c) n (smps (us ++ [(a, b)]))) :
    ∃ g, n = us.length + 1 ∧ A = some ⟨g, 0, none⟩ ∧ base ≤ g ∧ g < w.heap.size ∧ (∀ o, w.frozen? ⟨g, o, none⟩ = false) ∧ w.cell? ⟨g, us.length * 2, none⟩ = some (.int .i64 a) ∧ w.cell? ⟨g, us.length * 2 + 1, none⟩ = some (.int .i64 b) ∧
      ∀ u : Int, (w.setCell ⟨g, us.length * 2 + 1, none⟩ (.int .i64 u)).ownsRow base e 2 (.slice A n c) n (smps (us ++ [(a, u)])) := by
  have hl := h.1
  rw [smps_length, List.length_append, List.length_singleton] at hl
  have hn : n = us.length + 1 := by omega
  subst hn
  have hsm : ∀ u : Int, smps (us ++ [(a, u)]) = smps us ++ [.int .i64 a, .int .i64 u] := fun u => by rw [smps_append]; rfl
  have hul := smps_length us
  rcases h.2 with ⟨_, h2⟩ | ⟨g, cap, cur, hv, hb, hh, hnc, hcm, hs, ht⟩
  · omega
  injection hv with h1 h2 h3
  subst h1; subst h3
  have hk : Blk w g e cur.toList := by unfold Blk; simpa using hh
  have hcl : cur.toList.length = c * 2 := by simpa using hs
  refine ⟨g, rfl, rfl, hb, hk.lt, fun o => hk.frozen o, ?_, ?_, fun u => ?_⟩
  · rw [hk.cell, ← List.getElem?_take_of_lt (show us.length * 2 < (us.length + 1) * 2 by omega), ht, hsm, List.getElem?_append_right (by omega), hul, Nat.sub_self]; rfl
  · rw [hk.cell, ← List.getElem?_take_of_lt (show us.length * 2 + 1 < (us.length + 1) * 2 by omega), ht, hsm, List.getElem?_append_right (by omega), hul, show us.length * 2 + 1 - us.length * 2 = 1 by omega]; rfl
  · have := (hk.set (us.length * 2 + 1) (.int .i64 u)).owns (base := base) (size := 2) (n := us.length + 1) (cap := c) hb hnc hcm (by rw [List.length_set]; exact hcl)
    rw [List.take_set, ht, hsm, List.set_append_right _ _ (by omega), hul, show us.length * 2 + 1 - us.length * 2 = 1 by omega] at this
    rw [hsm]
    exact this
theorem pair_sees3 {w : World} {t : TypeId} {o : Obj} {a b : Int} : Sees ((w.alloc o).drew.alloc (.cells #[.int .i64 a, .int .i64 b] t)) ((w.alloc o).drew.alloc (.cells #[.int .i64 a, .int .i64 b] t)).heap.size 2 (some ⟨w.heap.size + 1, 0, none⟩) 1 (smps [(a, b)]) := by
  have h := pair_sees (w := (w.alloc o).drew) (t := t) a b
  rwa [show (w.alloc o).drew.heap.size = w.heap.size + 1 by simp] at h
theorem with_none (base : Nat) (A : Option Addr) (c : Nat) (a b : Int) (w : World) (h : w.ownsRow base 28 2 (.slice A 0 c) 0 (smps [])) (hb : base ≤ w.heap.size) :
    Calls Try.prog 16 #[.slice A 0 c, .agg #[.int .i64 a, .int .i64 b]] w (RowAns 28 2 1 (smps [(a, b)]) base w) := by
  obtain ⟨i0, hi, hz0, hz1, hz2⟩ := info_parts Try.infoSpan
  have HO := Lib.hid h
  clear h
  go_enter Try.func16, Try.ntmps16
  go_upto_region 2 with fail
  go_cut [21] (fun x wx => x = .bool false ∧ wx = (w.alloc (.cells #[.int .i64 a, .int .i64 b] 28)).drew)
  case first =>
    go_region
    all_goals
      go_wp2_with fail
      go_meet
      exact ⟨rfl, rfl⟩
  case rest =>
    obtain ⟨rfl, rfl⟩ := hcut
    have HO1 := Lib.hid (((HO.out.alloc (.cells #[.int .i64 a, .int .i64 b] 28)).drew).alloc (.cells #[.int .i64 a, .int .i64 b] 28))
    have HX := Lib.hid (show Sees ((w.alloc (.cells #[.int .i64 a, .int .i64 b] 28)).drew.alloc (.cells #[.int .i64 a, .int .i64 b] 28)) ((w.alloc (.cells #[.int .i64 a, .int .i64 b] 28)).drew.alloc (.cells #[.int .i64 a, .int .i64 b] 28)).heap.size 2 (some ⟨w.heap.size + 1, 0, none⟩) 1 (smps [(a, b)]) from pair_sees3)
    have HBB := Lib.hid ((((Below.refl base w).alloc hb (.cells #[.int .i64 a, .int .i64 b] 28)).drew).alloc (by simp; omega) (.cells #[.int .i64 a, .int .i64 b] 28))
    go_wp2_with (at_builtin; refine wpList_append_sees rfl (.tmp 35) (.tmp 37) 24 rfl base 28 i0 (.agg #[.int .i64 0, .int .i64 0]) 2 16 Try.underlying24 hi hz0 hz1 hz2 rfl (by decide) _ 0 (smps []) rfl HO1.out _ _ 1 1 (smps [(a, b)]) rfl HX.out (smps_one _) (by unfold maxLen; omega) (by omega) (by simp; omega) ?_)
    intro v' w2 hown' hgrow
    have HB3 := Lib.hid (HBB.out.grown hgrow (by simp; omega) fun k hk => (HO1.out.lt k hk).1)
    rw [← smps_append] at hown'
    have HO3 := Lib.hid hown'
    clear hown' hgrow HO1 HBB HX
    go_wp2_with fail
    go_ret
    exact rowAns_of rfl HO3.out HB3.out
theorem with_more (base : Nat) (A : Option Addr) (c n : Nat) (us : List (Int × Int)) (y : Int × Int) (a b : Int) (w : World) (h : w.ownsRow base 28 2 (.slice A n c) n (smps (us ++ [y]))) (hb : base ≤ w.heap.size) (hn : n ≤ 100000) (hy : -1000000 ≤ y.2 ∧ y.2 ≤ 1000000) (hab : ¬ a ≤ y.2 + 1) :
    Calls Try.prog 16 #[.slice A n c, .agg #[.int .i64 a, .int .i64 b]] w (RowAns 28 2 (n + 1) (smps (us ++ [y] ++ [(a, b)])) base w) := by
  obtain ⟨i0, hi, hz0, hz1, hz2⟩ := info_parts Try.infoSpan
  have HO := Lib.hid h
  obtain ⟨y1, y2⟩ := y
  simp only at hy hab
  obtain ⟨g, hnn, rfl, hbg, hgl, hfr, hc0, hc1, hset⟩ := own_last h
  have hnc : n ≤ c := by obtain ⟨A', c', e, h1, h2⟩ := own_slice h; injection e with _ _ e; omega
  clear h hset
  generalize us.length = j at *
  subst hnn
  have hge : (0 : Int) ≤ j := by omega
  have d1 : (w.alloc (.cells #[.int .i64 a, .int .i64 b] 28)).cell? ⟨g, j * 2 + 1, none⟩ = some (.int .i64 y2) := (World.cell?_alloc_lt _ _ _ hgl).trans hc1
  have d0 : (w.alloc (.cells #[.int .i64 a, .int .i64 b] 28)).cell? ⟨g, j * 2, none⟩ = some (.int .i64 y1) := (World.cell?_alloc_lt _ _ _ hgl).trans hc0
  have s1 : IntKind.i64.wrap (y2 + 1) = y2 + 1 := IntWalk.i64_in _ (by omega)
  have hleq : decide (a ≤ y2 + 1) = false := by simp; omega
  go_enter Try.func16, Try.ntmps16
  go_upto_region 2 with fail
  go_cut [21] (fun x wx => x = .bool false ∧ wx = (w.alloc (.cells #[.int .i64 a, .int .i64 b] 28)).drew)
  case first =>
    go_region
    all_goals
      go_wp2_with fail
      go_meet
      exact ⟨rfl, rfl⟩
  case rest =>
    obtain ⟨rfl, rfl⟩ := hcut
    have HO1 := Lib.hid (((HO.out.alloc (.cells #[.int .i64 a, .int .i64 b] 28)).drew).alloc (.cells #[.int .i64 a, .int .i64 b] 28))
    have HX := Lib.hid (show Sees ((w.alloc (.cells #[.int .i64 a, .int .i64 b] 28)).drew.alloc (.cells #[.int .i64 a, .int .i64 b] 28)) ((w.alloc (.cells #[.int .i64 a, .int .i64 b] 28)).drew.alloc (.cells #[.int .i64 a, .int .i64 b] 28)).heap.size 2 (some ⟨w.heap.size + 1, 0, none⟩) 1 (smps [(a, b)]) from pair_sees3)
    have HBB := Lib.hid ((((Below.refl base w).alloc hb (.cells #[.int .i64 a, .int .i64 b] 28)).drew).alloc (by simp; omega) (.cells #[.int .i64 a, .int .i64 b] 28))
    go_wp2_with (at_builtin; refine wpList_append_sees rfl (.tmp 35) (.tmp 37) 24 rfl base 28 i0 (.agg #[.int .i64 0, .int .i64 0]) 2 16 Try.underlying24 hi hz0 hz1 hz2 rfl (by decide) _ (j + 1) (smps (us ++ [(y1, y2)])) rfl HO1.out _ _ 1 1 (smps [(a, b)]) rfl HX.out (smps_one _) (by unfold maxLen; omega) (by omega) (by simp; omega) ?_)
    intro v' w2 hown' hgrow
    have HB3 := Lib.hid (HBB.out.grown hgrow (by simp; omega) fun k hk => (HO1.out.lt k hk).1)
    rw [← smps_append] at hown'
    have HO3 := Lib.hid hown'
    clear hown' hgrow HO1 HBB HX
    go_wp2_with fail
    go_ret
    exact rowAns_of rfl HO3.out HB3.out
theorem with_join (base : Nat) (A : Option Addr) (c n : Nat) (us : List (Int × Int)) (y : Int × Int) (a b : Int) (w : World) (h : w.ownsRow base 28 2 (.slice A n c) n (smps (us ++ [y]))) (hb : base ≤ w.heap.size) (hn : n ≤ 100000) (hy : -1000000 ≤ y.2 ∧ y.2 ≤ 1000000) (hab : a ≤ y.2 + 1) :
    Calls Try.prog 16 #[.slice A n c, .agg #[.int .i64 a, .int .i64 b]] w (RowAns 28 2 n (smps (us ++ [(y.1, if y.2 < b then b else y.2)])) base w) := by
  obtain ⟨y1, y2⟩ := y
  simp only at hy hab ⊢
  have hown1 := (h.alloc (.cells #[.int .i64 a, .int .i64 b] 28)).drew
  obtain ⟨g, hnn, rfl, hbg, hgl, hfr, hc0, hc1, hset⟩ := own_last hown1.drew
  have hnc : n ≤ c := by obtain ⟨A', c', e, h1, h2⟩ := own_slice h; injection e with _ _ e; omega
  have hgw : g < w.heap.size := by
    obtain ⟨g', _, e, _, h3, _⟩ := own_last h
    injection e with e; injection e with e; omega
  have HBB := Lib.hid ((((Below.refl base w).alloc hb (.cells #[.int .i64 a, .int .i64 b] 28)).drew).drew)
  have k0 : Blk (w.alloc (.cells #[.int .i64 a, .int .i64 b] 28)).drew w.heap.size 28 [.int .i64 a, .int .i64 b] := Blk.mk (heap_alloc_new w _)
  have k1 : (w.alloc (.cells #[.int .i64 a, .int .i64 b] 28)).drew.cell? ⟨w.heap.size, 1, none⟩ = some (.int .i64 b) := k0.cell 1
  have k2 : (w.alloc (.cells #[.int .i64 a, .int .i64 b] 28)).drew.cell? ⟨w.heap.size, 0, none⟩ = some (.int .i64 a) := k0.cell 0
  have hgx : g ≠ w.heap.size := by omega
  clear h hown1 k0
  generalize us.length = j at *
  subst hnn
  obtain ⟨M, hM⟩ : ∃ M : Int, (if y2 < b then b else y2) = M := ⟨_, rfl⟩
  have HS := Lib.hid (hset M)
  rw [hM]
  have hge : (0 : Int) ≤ j := by omega
  have s1 : IntKind.i64.wrap (y2 + 1) = y2 + 1 := IntWalk.i64_in _ (by omega)
  have hleq : decide (a ≤ y2 + 1) = true := by simp; omega
  have d1 : (w.alloc (.cells #[.int .i64 a, .int .i64 b] 28)).cell? ⟨g, j * 2 + 1, none⟩ = some (.int .i64 y2) := hc1
  clear hset
  go_enter Try.func16, Try.ntmps16
  go_upto_region 2 with fail
  go_cut [21] (fun x wx => x = .bool true ∧ wx = (w.alloc (.cells #[.int .i64 a, .int .i64 b] 28)).drew)
  case first =>
    go_region
    all_goals
      go_wp2_with fail
      go_meet
      exact ⟨rfl, rfl⟩
  case rest =>
    obtain ⟨rfl, rfl⟩ := hcut
    generalize (w.alloc (.cells #[.int .i64 a, .int .i64 b] 28)).drew = W1 at *
    have e1 : W1.cell? ⟨g, j * 2 + 1, none⟩ = some (.int .i64 y2) := hc1
    have e2 : W1.frozen? ⟨g, j * 2 + 1, none⟩ = false := hfr _
    clear d1 hc0 hc1 hfr
    go_wp2_with fail
    go_region
    all_goals
      go_wp2_with fail
      go_ret
      exact rowAns_of rfl HS.out (HBB.out.setCell hbg _)
theorem with_any (base : Nat) (A : Option Addr) (c n : Nat) (ts : List (Int × Int)) (a b : Int) (w : World) (h : w.ownsRow base 28 2 (.slice A n c) n (smps ts)) (hb : base ≤ w.heap.size) (hn : n ≤ 100000) (hy : ∀ y ∈ ts, -1000000 ≤ y.2 ∧ y.2 ≤ 1000000) :
    Calls Try.prog 16 #[.slice A n c, .agg #[.int .i64 a, .int .i64 b]] w (RowAns 28 2 (withS ts (a, b)).length (smps (withS ts (a, b))) base w) := by
  have hl : ts.length = n := by have := h.1; rw [smps_length] at this; omega
  rcases List.eq_nil_or_concat ts with rfl | ⟨us, y, rfl⟩
  · obtain rfl : n = 0 := by simpa using hl.symm
    exact with_none base A c a b w h hb
  · rw [List.concat_eq_append] at *
    rw [withS_last]
    have hy2 := hy y (by simp)
    by_cases hab : a ≤ y.2 + 1
    · rw [if_pos hab]
      have h2 := with_join base A c n us y a b w h hb hn hy2 hab
      have e : (us ++ [(y.1, if y.2 < b then b else y.2)]).length = n := by rw [← hl]; simp
      rw [e]; exact h2
    · rw [if_neg hab]
      have h2 := with_more base A c n us y a b w h hb hn hy2 hab
      have e : (us ++ [y] ++ [(a, b)]).length = n + 1 := by rw [← hl]; simp
      rw [e]; exact h2
end Go.Proofs.Ytogdollfndpleaa
