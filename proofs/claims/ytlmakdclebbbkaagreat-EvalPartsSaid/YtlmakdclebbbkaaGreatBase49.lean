/- Texts, merged in one. -/
import Derived.Test.YtlmakdclebbbkaaGreatBase48
import Derived.Test.YtlmakdclebbbkaaGreatBase8
import Derived.Test.YtlmakdclebbbkaaGreatBase45
import Derived.Test.YtlmakdclebbbkaaGreatBase36
import Derived.Test.YtlmakdclebbbkaaGreatBase34
import Derived.Test.YtlmakdclebbbkaaGreatBase38
import Derived.Test.YtlmakdclebbbkaaGreatBase32
import Derived.Test.YtlmakdclebbbkaaGreatBase9
import Derived.Test.YtlmakdclebbbkaaGreatBase30
namespace Go.Proofs.YtlmakdclebbbkaaGreat
open Go.ChangeShapes Go.WideShapes Go.ChangeAt Go.RowKit Go.Lib
set_option linter.unusedVariables false
set_option linter.unusedSimpArgs false
set_option maxRecDepth 100000
def erL : List Lbl := [(⟨#[110, 97, 109, 101]⟩, ⟨#[109]⟩)]
def erM : List Mtc := [(⟨#[110, 97, 109, 101]⟩, ⟨#[109]⟩, 1)]
def erD : List SK := [(erL, [(10, 5)])]
def erP : PE := .mk 2 10 erM [] []
def erT : PE := .mk 5 0 [] [] [erP, .mk 1 2 [] [] []]
def erB : PE := .mk 6 0 [] [] [erP, .mk 1 0 [] [] []]
theorem er_put : putE [] erL (10, 5) = 0 := by kernel_rfl
theorem er_puts : putS [] erL (10, 5) = erD := by kernel_rfl
theorem er_a : evalR erD 12 2 erT = ([([], 10)], 0) := by kernel_rfl
theorem er_b : evalR erD 25 2 erT = ([], 0) := by kernel_rfl
theorem er_g : evalR erD 12 2 erB = ([], 4) := by kernel_rfl
theorem er_c : chgX erD 0 99 erT = [10, 20] := by kernel_rfl
theorem er_rt : erT.right = true := by kernel_rfl
theorem er_small : erT.small ∧ erB.small := by
  unfold erT erB erP; simp [PE.small, smallP, erM]
theorem er_fits : erT.fits ∧ erB.fits := by
  unfold erT erB erP; simp [PE.fits, fitsP, I64]
theorem er_vok : VOk erD := fun x hx y hy => by
  unfold erD at hx
  rw [List.mem_singleton] at hx; subst hx
  rw [List.mem_singleton] at hy; subst hy
  unfold I64; decide
theorem er_lim : lim erD 2 ≤ 500 := by decide
theorem OwnL.empty (w : World) : OwnL w (.slice none 0 0) [] := ⟨none, 0, rfl, by simpa [lbls] using World.ownsRow_nil w 0 25 2⟩
theorem vat_ten {W : World} {g : Nat} (hb : Blk W g 43 [.slice none 0 0, .int .i64 10]) : VAt [([], 10)] (.slice (some ⟨g, 0, none⟩) 1 1) W := by
  refine ⟨some ⟨g, 0, none⟩, 1, [⟨.slice none 0 0, [], 10⟩], rfl, rfl, ⟨?_, fun x hx => ?_⟩, Nat.le_refl _, by omega⟩
  · have h := hb.owns (base := 0) (size := 2) (n := 1) (cap := 1) (Nat.zero_le _) (Nat.le_refl _) (by unfold maxLen; omega) rfl
    exact h
  · rw [List.mem_singleton] at hx; subst hx; exact OwnL.empty W
theorem lit_ints2 {w : World} {t : TypeId} (l : List Int) : Sees (w.alloc (.cells (ints l).toArray t)) (w.alloc (.cells (ints l).toArray t)).heap.size 1 (some ⟨w.heap.size, 0, none⟩) l.length (ints l) := by
  have hk : Blk (w.alloc (.cells (ints l).toArray t)) w.heap.size t (ints l) := Blk.mk (heap_alloc_new w _)
  exact hk.sees (by rw [ints_length, Nat.mul_one]) (List.prefix_refl _)
def erPX (bm : Nat) : XE := .mk 2 10 (.slice (some ⟨bm, 0, none⟩) 1 1) erM (.slice none 0 0) [] (.slice none 0 0) []
def erNX (n : Int) : XE := .mk 1 n (.slice none 0 0) [] (.slice none 0 0) [] (.slice none 0 0) []
def erX (k n : Int) (bm bk : Nat) : XE := .mk k 0 (.slice none 0 0) [] (.slice none 0 0) [] (.slice (some ⟨bk, 0, none⟩) 2 2) [erPX bm, erNX n]
theorem slc_nil (w : World) (size : Nat) : Slc w size (.slice none 0 0) 0 [] := ⟨none, 0, rfl, Sees.nil, Nat.le_refl _, by omega⟩
theorem erX_ok {W : World} {k n : Int} {bm bk : Nat} (hm : Sees W W.heap.size 3 (some ⟨bm, 0, none⟩) 1 (mtcs erM)) (hk : Sees W W.heap.size 5 (some ⟨bk, 0, none⟩) 2 (kcells [erPX bm, erNX n])) : okX 2 (erX k n bm bk) W := by
  refine ⟨slc_nil _ _, slc_nil _ _, ⟨_, 2, rfl, hk, Nat.le_refl _, by omega⟩, fun q hq => ?_⟩
  have hq : q ∈ [erPX bm, erNX n] := hq
  rcases List.mem_cons.1 hq with rfl | hq
  · exact ⟨⟨_, 1, rfl, hm, Nat.le_refl _, by omega⟩, slc_nil _ _, slc_nil _ _, fun q hq => absurd hq List.not_mem_nil⟩
  · rw [List.mem_singleton] at hq; subst hq
    exact ⟨slc_nil _ _, slc_nil _ _, slc_nil _ _, fun q hq => absurd hq List.not_mem_nil⟩
structure ErAt (w : World) (g : Nat) (v : Value) (bm b3 bk b4 bk2 b5 : Nat) (W : World) : Prop where
  sto : Sto w g v erD W
  x4 : Blk W b4 37 [.int .i64 5, .int .i64 0, .slice none 0 0, .slice none 0 0, .slice (some ⟨bk, 0, none⟩) 2 2]
  x5 : Blk W b5 37 [.int .i64 6, .int .i64 0, .slice none 0 0, .slice none 0 0, .slice (some ⟨bk2, 0, none⟩) 2 2]
  t : okX 2 (erX 5 2 bm bk) W
  b : okX 2 (erX 6 0 bm bk2) W
theorem ErAt.below {w W W' : World} {g : Nat} {v : Value} {bm b3 bk b4 bk2 b5 : Nat} (h : ErAt w g v bm b3 bk b4 bk2 b5 W) (hb : Below W.heap.size W W') : ErAt w g v bm b3 bk b4 bk2 b5 W' := ⟨h.sto.below hb, h.x4.below hb h.x4.lt, h.x5.below hb h.x5.lt, okX_below hb _ _ h.t, okX_below hb _ _ h.b⟩
theorem erX_pe (bm bk : Nat) : (erX 5 2 bm bk).pe = erT ∧ (erX 6 0 bm bk).pe = erB := ⟨rfl, rfl⟩
theorem ErAt.evT {w W : World} {g : Nat} {v : Value} {bm b3 bk b4 bk2 b5 : Nat} (h : ErAt w g v bm b3 bk b4 bk2 b5 W) (t : Int) (ht : TOk t) : EvOk 2 (erX 5 2 bm bk) w g v erD t W :=
  ⟨h.t, er_small.1, er_fits.1, h.sto, er_vok, er_lim, ht⟩
theorem ErAt.evB {w W : World} {g : Nat} {v : Value} {bm b3 bk b4 bk2 b5 : Nat} (h : ErAt w g v bm b3 bk b4 bk2 b5 W) (t : Int) (ht : TOk t) : EvOk 2 (erX 6 0 bm bk2) w g v erD t W :=
  ⟨h.b, er_small.2, er_fits.2, h.sto, er_vok, er_lim, ht⟩
theorem ErAt.at1 {w W : World} {g : Nat} {v : Value} {bm b3 bk b4 bk2 b5 : Nat} (h : ErAt w g v bm b3 bk b4 bk2 b5 W) :
    Calls Tryz.prog 10 #[.agg #[.int .i64 5, .int .i64 0, .slice none 0 0, .slice none 0 0, .slice (some ⟨bk, 0, none⟩) 2 2], .pointer (some ⟨g, 0, none⟩), .int .i64 12] W (VAnsE [([], 10)] 0 W) := by
  have h1 := at_x 2 (by omega) (erX 5 2 bm bk) w W g v erD 12 er_small.1 h.t (fun _ => h.evT 12 ⟨by omega, by omega⟩)
  rw [(erX_pe bm bk).1, er_a] at h1
  exact h1
theorem ErAt.at2 {w W : World} {g : Nat} {v : Value} {bm b3 bk b4 bk2 b5 : Nat} (h : ErAt w g v bm b3 bk b4 bk2 b5 W) :
    Calls Tryz.prog 10 #[.agg #[.int .i64 5, .int .i64 0, .slice none 0 0, .slice none 0 0, .slice (some ⟨bk, 0, none⟩) 2 2], .pointer (some ⟨g, 0, none⟩), .int .i64 25] W (VAnsE [] 0 W) := by
  have h1 := at_x 2 (by omega) (erX 5 2 bm bk) w W g v erD 25 er_small.1 h.t (fun _ => h.evT 25 ⟨by omega, by omega⟩)
  rw [(erX_pe bm bk).1, er_b] at h1
  exact h1
theorem ErAt.at3 {w W : World} {g : Nat} {v : Value} {bm b3 bk b4 bk2 b5 : Nat} (h : ErAt w g v bm b3 bk b4 bk2 b5 W) :
    Calls Tryz.prog 10 #[.agg #[.int .i64 6, .int .i64 0, .slice none 0 0, .slice none 0 0, .slice (some ⟨bk2, 0, none⟩) 2 2], .pointer (some ⟨g, 0, none⟩), .int .i64 12] W (VAnsE [] 4 W) := by
  have h1 := at_x 2 (by omega) (erX 6 0 bm bk2) w W g v erD 12 er_small.2 h.b (fun _ => h.evB 12 ⟨by omega, by omega⟩)
  rw [(erX_pe bm bk2).2, er_g] at h1
  exact h1
theorem ErAt.chg {w W : World} {g : Nat} {v : Value} {bm b3 bk b4 bk2 b5 : Nat} (h : ErAt w g v bm b3 bk b4 bk2 b5 W) :
    Calls Tryz.prog 13 #[.agg #[.int .i64 5, .int .i64 0, .slice none 0 0, .slice none 0 0, .slice (some ⟨bk, 0, none⟩) 2 2], .pointer (some ⟨g, 0, none⟩), .int .i64 0, .int .i64 99] W (OwnAns 3 1 2 (ints [10, 20]) W) := by
  have h1 := changes_x 2 (by omega) (erX 5 2 bm bk) w W g v erD 12 0 99 (h.evT 12 ⟨by omega, by omega⟩) er_rt
  rw [(erX_pe bm bk).1, er_c] at h1
  exact h1
theorem snew_any (w : World) : Calls Tryz.prog 8 #[] w fun e w' => e = .returned (.pointer (some ⟨w.heap.size, 0, none⟩)) ∧ w.alloc (.cells #[.slice none 0 0] 81) = w' := by
  go_enter Tryz.func8, Tryz.ntmps8
  go_wp2_with fail
  go_ret
  exact ⟨rfl, rfl⟩
set_option maxHeartbeats 8000000 in
theorem eval_runs (w : World) : Calls Tryz.prog 3 #[] w fun e w' => e = .returned (.bool true) ∧ Below w.heap.size w w' := by
  go_enter Tryz.func3, Tryz.ntmps3
  go_wp2_with fail
  (with_reducible refine (snew_any w).mono ?_); rintro e w1 ⟨rfl, rfl⟩
  have HS1 := Lib.hid (Sto.new (w0 := w) (Below.refl _ w))
  obtain ⟨g, hg⟩ : ∃ g, w.heap.size = g := ⟨_, rfl⟩
  obtain ⟨W1, hW1⟩ : ∃ W, w.alloc (.cells #[.slice none 0 0] 81) = W := ⟨_, rfl⟩
  rw [hW1] at HS1 ⊢
  have HS1' : Hid (Sto w g (.slice none 0 0) [] W1) := Lib.hid (by rw [← hg]; exact HS1.out)
  rw [hg]
  have HG := Lib.hid hg
  clear hW1 HS1 hg
  have hb2 : Below W1.heap.size W1 (W1.alloc (.cells #[.string ⟨#[110, 97, 109, 101]⟩, .string ⟨#[109]⟩] 25)) := (Below.refl _ _).alloc (Nat.le_refl _) _
  have HS2 := Lib.hid (HS1'.out.below hb2)
  have HK2 : Hid (Blk (W1.alloc (.cells #[.string ⟨#[110, 97, 109, 101]⟩, .string ⟨#[109]⟩] 25)) W1.heap.size 25 (lbls erL)) := Lib.hid (Blk.mk (heap_alloc_new W1 _))
  clear hb2 HS1'
  go_wp2_with fail
  (with_reducible refine (HS2.out.put _ 1 1 erL 10 5 (HK2.out.sees (size := 2) (n := 1) rfl (List.prefix_refl _)) (by omega)).mono ?_); rintro e W2 ⟨v2, rfl, hS, hT, _⟩
  rw [er_put]
  rw [er_puts] at hS
  have HS3 := Lib.hid hS
  clear hS hT HS2 HK2
  go_upto_region 6 with fail
  clear HG
  generalize W1.heap.size = bl at *
  have hm_V2 : (W2.alloc (.cells #[.string ⟨#[110, 97, 109, 101]⟩, .string ⟨#[109]⟩, .int .i64 1] 32)).heap.size = W2.heap.size + 1 := by simp
  obtain ⟨bm, hbm⟩ : ∃ b, W2.heap.size = b := ⟨_, rfl⟩
  obtain ⟨b3, hb3⟩ : ∃ b, W2.heap.size + 1 = b := ⟨_, rfl⟩
  obtain ⟨V2, hV2⟩ : ∃ V, (W2.alloc (.cells #[.string ⟨#[110, 97, 109, 101]⟩, .string ⟨#[109]⟩, .int .i64 1] 32)).alloc (.cells #[.int .i64 2, .int .i64 10, .slice (some ⟨W2.heap.size, 0, none⟩) 1 1, .slice none 0 0, .slice none 0 0] 37) = V := ⟨_, rfl⟩
  have hl_V2 : Below W2.heap.size W2 V2 := by rw [← hV2]; exact ((Below.refl _ _).alloc (Nat.le_refl _) _).alloc (by simp) _
  have HX3 : Hid (Blk V2 b3 37 [.int .i64 2, .int .i64 10, .slice (some ⟨bm, 0, none⟩) 1 1, .slice none 0 0, .slice none 0 0]) := Lib.hid (by
    rw [← hV2, ← hb3, ← hbm]
    have h := heap_alloc_new (W2.alloc (.cells #[.string ⟨#[110, 97, 109, 101]⟩, .string ⟨#[109]⟩, .int .i64 1] 32)) (.cells #[.int .i64 2, .int .i64 10, .slice (some ⟨W2.heap.size, 0, none⟩) 1 1, .slice none 0 0, .slice none 0 0] 37)
    rw [hm_V2] at h
    exact Blk.mk h)
  have HM : Hid (Sees V2 V2.heap.size 3 (some ⟨bm, 0, none⟩) 1 (mtcs erM)) := Lib.hid (by
    rw [← hV2, ← hbm]
    have h : Blk (W2.alloc (.cells #[.string ⟨#[110, 97, 109, 101]⟩, .string ⟨#[109]⟩, .int .i64 1] 32)) W2.heap.size 32 (mtcs erM) := Blk.mk (heap_alloc_new W2 _)
    exact (h.alloc _).sees (size := 3) (n := 1) rfl (List.prefix_refl _))
  have HS4 := Lib.hid (HS3.out.below hl_V2)
  rw [hV2, hb3, hbm]
  clear hm_V2 hbm hb3 hV2 hl_V2
  obtain ⟨x0, x1, x2, x3, x4⟩ := blk_cells5 HX3.out
  go_upto_region 7 with fail
  clear x0 x1 x2 x3 x4
  have hm_V4 : (V2.alloc (.cells #[.int .i64 2, .int .i64 10, .slice (some ⟨bm, 0, none⟩) 1 1, .slice none 0 0, .slice none 0 0, .int .i64 1, .int .i64 2, .slice none 0 0, .slice none 0 0, .slice none 0 0] 37)).heap.size = V2.heap.size + 1 := by simp
  obtain ⟨bk, hbk⟩ : ∃ b, V2.heap.size = b := ⟨_, rfl⟩
  obtain ⟨b4, hb4⟩ : ∃ b, V2.heap.size + 1 = b := ⟨_, rfl⟩
  obtain ⟨V4, hV4⟩ : ∃ V, (V2.alloc (.cells #[.int .i64 2, .int .i64 10, .slice (some ⟨bm, 0, none⟩) 1 1, .slice none 0 0, .slice none 0 0, .int .i64 1, .int .i64 2, .slice none 0 0, .slice none 0 0, .slice none 0 0] 37)).alloc (.cells #[.int .i64 5, .int .i64 0, .slice none 0 0, .slice none 0 0, .slice (some ⟨V2.heap.size, 0, none⟩) 2 2] 37) = V := ⟨_, rfl⟩
  have hl_V4 : Below V2.heap.size V2 V4 := by rw [← hV4]; exact ((Below.refl _ _).alloc (Nat.le_refl _) _).alloc (by simp) _
  have HXb4 : Hid (Blk V4 b4 37 [.int .i64 5, .int .i64 0, .slice none 0 0, .slice none 0 0, .slice (some ⟨bk, 0, none⟩) 2 2]) := Lib.hid (by
    rw [← hV4, ← hb4, ← hbk]
    have h := heap_alloc_new (V2.alloc (.cells #[.int .i64 2, .int .i64 10, .slice (some ⟨bm, 0, none⟩) 1 1, .slice none 0 0, .slice none 0 0, .int .i64 1, .int .i64 2, .slice none 0 0, .slice none 0 0, .slice none 0 0] 37)) (.cells #[.int .i64 5, .int .i64 0, .slice none 0 0, .slice none 0 0, .slice (some ⟨V2.heap.size, 0, none⟩) 2 2] 37)
    rw [hm_V4] at h
    exact Blk.mk h)
  have HKb4 : Hid (Sees V4 V4.heap.size 5 (some ⟨bk, 0, none⟩) 2 (kcells [erPX bm, erNX 2])) := Lib.hid (by
    rw [← hV4, ← hbk]
    have h : Blk (V2.alloc (.cells #[.int .i64 2, .int .i64 10, .slice (some ⟨bm, 0, none⟩) 1 1, .slice none 0 0, .slice none 0 0, .int .i64 1, .int .i64 2, .slice none 0 0, .slice none 0 0, .slice none 0 0] 37)) V2.heap.size 37 (kcells [erPX bm, erNX 2]) := Blk.mk (heap_alloc_new V2 _)
    exact (h.alloc _).sees (size := 5) (n := 2) rfl (List.prefix_refl _))
  have HX3b := Lib.hid (HX3.out.below hl_V4 HX3.out.lt)
  have HMb := Lib.hid ((HM.out.below hl_V4).more hl_V4.size)
  have HS5 := Lib.hid (HS4.out.below hl_V4)
  clear HX3 HM HS4
  rw [hV4, hb4, hbk]
  clear hm_V4 hbk hb4 hV4 hl_V4
  obtain ⟨x0, x1, x2, x3, x4⟩ := blk_cells5 HX3b.out
  go_upto_region 8 with fail
  clear x0 x1 x2 x3 x4
  have hm_V6 : (V4.alloc (.cells #[.int .i64 2, .int .i64 10, .slice (some ⟨bm, 0, none⟩) 1 1, .slice none 0 0, .slice none 0 0, .int .i64 1, .int .i64 0, .slice none 0 0, .slice none 0 0, .slice none 0 0] 37)).heap.size = V4.heap.size + 1 := by simp
  obtain ⟨bk2, hbk2⟩ : ∃ b, V4.heap.size = b := ⟨_, rfl⟩
  obtain ⟨b5, hb5⟩ : ∃ b, V4.heap.size + 1 = b := ⟨_, rfl⟩
  obtain ⟨V6, hV6⟩ : ∃ V, (V4.alloc (.cells #[.int .i64 2, .int .i64 10, .slice (some ⟨bm, 0, none⟩) 1 1, .slice none 0 0, .slice none 0 0, .int .i64 1, .int .i64 0, .slice none 0 0, .slice none 0 0, .slice none 0 0] 37)).alloc (.cells #[.int .i64 6, .int .i64 0, .slice none 0 0, .slice none 0 0, .slice (some ⟨V4.heap.size, 0, none⟩) 2 2] 37) = V := ⟨_, rfl⟩
  have hl_V6 : Below V4.heap.size V4 V6 := by rw [← hV6]; exact ((Below.refl _ _).alloc (Nat.le_refl _) _).alloc (by simp) _
  have HXb5 : Hid (Blk V6 b5 37 [.int .i64 6, .int .i64 0, .slice none 0 0, .slice none 0 0, .slice (some ⟨bk2, 0, none⟩) 2 2]) := Lib.hid (by
    rw [← hV6, ← hb5, ← hbk2]
    have h := heap_alloc_new (V4.alloc (.cells #[.int .i64 2, .int .i64 10, .slice (some ⟨bm, 0, none⟩) 1 1, .slice none 0 0, .slice none 0 0, .int .i64 1, .int .i64 0, .slice none 0 0, .slice none 0 0, .slice none 0 0] 37)) (.cells #[.int .i64 6, .int .i64 0, .slice none 0 0, .slice none 0 0, .slice (some ⟨V4.heap.size, 0, none⟩) 2 2] 37)
    rw [hm_V6] at h
    exact Blk.mk h)
  have HKb5 : Hid (Sees V6 V6.heap.size 5 (some ⟨bk2, 0, none⟩) 2 (kcells [erPX bm, erNX 0])) := Lib.hid (by
    rw [← hV6, ← hbk2]
    have h : Blk (V4.alloc (.cells #[.int .i64 2, .int .i64 10, .slice (some ⟨bm, 0, none⟩) 1 1, .slice none 0 0, .slice none 0 0, .int .i64 1, .int .i64 0, .slice none 0 0, .slice none 0 0, .slice none 0 0] 37)) V4.heap.size 37 (kcells [erPX bm, erNX 0]) := Blk.mk (heap_alloc_new V4 _)
    exact (h.alloc _).sees (size := 5) (n := 2) rfl (List.prefix_refl _))
  have HE := Lib.hid (show ErAt w g v2 bm b3 bk b4 bk2 b5 V6 from ⟨HS5.out.below hl_V6, HXb4.out.below hl_V6 HXb4.out.lt, HXb5.out, erX_ok ((HMb.out.below hl_V6).more hl_V6.size) ((HKb4.out.below hl_V6).more hl_V6.size), erX_ok ((HMb.out.below hl_V6).more hl_V6.size) HKb5.out⟩)
  clear HX3b HMb HS5 HXb4 HKb4 HXb5 HKb5
  rw [hV6, hb5, hbk2]
  clear hm_V6 hbk2 hb5 hV6 hl_V6
  obtain ⟨x0, x1, x2, x3, x4⟩ := blk_cells5 HE.out.x4
  go_wp2_with fail
  (with_reducible refine HE.out.at1.mono ?_); rintro e w7 ⟨sa, rfl, hsa, hb7⟩
  have HE7 := Lib.hid (HE.out.below hb7); have HV7 := Lib.hid hsa
  obtain ⟨A7, n7, c7, rfl⟩ := hsa.form
  clear hsa hb7 HE x0 x1 x2 x3 x4
  obtain ⟨x0, x1, x2, x3, x4⟩ := blk_cells5 HE7.out.x4
  go_wp2_with fail
  (with_reducible refine HE7.out.at2.mono ?_); rintro e w8 ⟨sb, rfl, hsb, hb8⟩
  have HE8 := Lib.hid (HE7.out.below hb8); have HV8 := Lib.hid (HV7.out.below hb8)
  obtain ⟨A8, n8, c8, rfl, hn8⟩ : ∃ A n c, sb = .slice A n c ∧ n = 0 := by
    obtain ⟨A, c, rows, rfl, hr, _⟩ := hsb
    exact ⟨A, _, c, rfl, by have := congrArg List.length hr; simpa [ptsOf] using this⟩
  subst hn8
  clear hsb hb8 HE7 HV7 x0 x1 x2 x3 x4
  obtain ⟨x0, x1, x2, x3, x4⟩ := blk_cells5 HE8.out.x5
  go_wp2_with fail
  (with_reducible refine HE8.out.at3.mono ?_); rintro e w9 ⟨sc, rfl, hsc, hb9⟩
  have HE9 := Lib.hid (HE8.out.below hb9); have HV9 := Lib.hid (HV8.out.below hb9)
  obtain ⟨A9, n9, c9, rfl⟩ := hsc.form
  clear hsc hb9 HE8 HV8 x0 x1 x2 x3 x4
  have hb10 := (Below.refl w9.heap.size w9).alloc (Nat.le_refl _) (.cells #[.slice none 0 0, .int .i64 10] 43)
  have HE10 := Lib.hid (HE9.out.below hb10)
  have HPT := Lib.hid (points_v (HV9.out.below hb10) (vat_ten (Blk.mk (heap_alloc_new w9 (.cells #[.slice none 0 0, .int .i64 10] 43)))))
  clear hb10 HE9 HV9
  go_wp2_with fail
  (with_reducible refine HPT.out.mono ?_); rintro e w10 ⟨rfl, hb11⟩
  simp only [decide_true]
  have HE11 := Lib.hid (HE10.out.below hb11)
  clear hb11 HE10 HPT
  obtain ⟨x0, x1, x2, x3, x4⟩ := blk_cells5 HE11.out.x4
  go_wp2_with fail
  (with_reducible refine HE11.out.chg.mono ?_); rintro e w12 ⟨A12, c12, rfl, hown, hb12, hc12, hd12⟩
  have HE12 := Lib.hid (HE11.out.below hb12)
  have HI12 := Lib.hid (Sees.of_own hown)
  have hb13 := (Below.refl w12.heap.size w12).alloc (Nat.le_refl _) (.cells #[.int .i64 10, .int .i64 20] 3)
  have HL13 : Hid (Sees (w12.alloc (.cells #[.int .i64 10, .int .i64 20] 3)) (w12.alloc (.cells #[.int .i64 10, .int .i64 20] 3)).heap.size 1 (some ⟨w12.heap.size, 0, none⟩) 2 (ints [10, 20])) := Lib.hid (lit_ints2 (w := w12) (t := 3) [10, 20])
  have HI13 := Lib.hid (HI12.out.below hb13)
  have HB13 := Lib.hid ((HE12.out.sto.bel).trans (hb13.mono HE12.out.sto.bel.size))
  clear hown hb12 hb13 HE11 HE12 HI12 x0 x1 x2 x3 x4
  go_wp2_with fail
  (with_reducible refine (same_int A12 _ 2 c12 2 2 _ _ [10, 20] [10, 20] _ HI13.out HL13.out (by omega) (by omega)).mono ?_); rintro e w14 ⟨rfl, q2, rfl⟩
  simp only [decide_true]
  have HB14 := Lib.hid (HB13.out.trans (below_drewN3 ((Below.refl _ _).mono HB13.out.size) q2))
  go_wp2_with fail
  go_ret
  exact ⟨rfl, HB14.out⟩
end Go.Proofs.YtlmakdclebbbkaaGreat

namespace Go.Proofs.YtlmakdclebbbkaaGreat
open Go.ChangeShapes Go.WideShapes Go.ChangeAt Go.RowKit
set_option linter.unusedVariables false
set_option linter.unusedSimpArgs false
set_option maxRecDepth 100000
theorem keepValue_sizeT : ∀ a, a < 8 → (keepValues.getD a ⟨#[]⟩).size ≤ 3 := by
  intro a ha
  match a, ha with
  | 0, _ => decide
  | 1, _ => decide
  | 2, _ => decide
  | 3, _ => decide
  | 4, _ => decide
  | 5, _ => decide
  | 6, _ => decide
  | 7, _ => decide
theorem keepN_posT {d : Nat} {x : XE} (h : keepN d x) : 0 < d := by
  cases d with
  | zero => exact h.elim
  | succ d => omega
theorem keepV_posT {d : Nat} {x : XE} (h : keepV d x) : 0 < d := by
  cases d with
  | zero => exact h.elim
  | succ d => omega
theorem keepNames_memT {a : Nat} (h : a < 3) : keepNames.getD a ⟨#[]⟩ ∈ keepNames := by
  match a, h with
  | 0, _ => exact (show (⟨#[97]⟩ : ByteArray) ∈ keepNames by simp [keepNames])
  | 1, _ => exact (show (⟨#[98]⟩ : ByteArray) ∈ keepNames by simp [keepNames])
  | 2, _ => exact (show (⟨#[99]⟩ : ByteArray) ∈ keepNames by simp [keepNames])
theorem keepNs_goodT {ns : List ByteArray} (h : keepNs ns) : ns.length ≤ 4 ∧ ∀ s ∈ ns, s.size ≤ 4 := by
  refine ⟨h.length_le, fun s hs => ?_⟩
  have hm : s ∈ keepNames := h.subset hs
  have : ∀ s ∈ keepNames, s.size ≤ 4 := by decide
  exact this s hm
theorem xe_peT (x : XE) : x.pe = .mk x.kd x.n x.ms x.ns (pesX x.kids) := by cases x; rfl
theorem keepName_wordFT {s : ByteArray} (h : s ∈ keepNames) : wordF s = true := by
  simp only [keepNames, List.mem_cons, List.not_mem_nil, or_false] at h
  rcases h with rfl | rfl | rfl | rfl <;> rfl
theorem keepNs_namesFT {ns : List ByteArray} (h : keepNs ns) : namesF ns = true := by
  unfold keepNs keepNames at h
  simp only [List.sublist_cons_iff, List.sublist_nil] at h
  rcases h with ((((rfl | ⟨r, rfl, rfl⟩) | ⟨r, rfl, (rfl | ⟨r2, rfl, rfl⟩)⟩) | ⟨r, rfl, ((rfl | ⟨r2, rfl, rfl⟩) | ⟨r2, rfl, (rfl | ⟨r3, rfl, rfl⟩)⟩)⟩) | ⟨r, rfl, (((rfl | ⟨r2, rfl, rfl⟩) | ⟨r2, rfl, (rfl | ⟨r3, rfl, rfl⟩)⟩) | ⟨r2, rfl, ((rfl | ⟨r3, rfl, rfl⟩) | ⟨r3, rfl, (rfl | ⟨r4, rfl, rfl⟩)⟩)⟩)⟩) <;> decide
theorem signF_fullT {k : Int} (h1 : 1 ≤ k) (h4 : k ≤ 4) : ¬ signF k = ⟨#[]⟩ := by
  have hk : k = 1 ∨ k = 2 ∨ k = 3 ∨ k = 4 := by omega
  rcases hk with rfl | rfl | rfl | rfl <;> decide
theorem mtcOk_ofT {x : Mtc} (h1 : wordF x.1 = true) (h2 : x.2.1.size ≤ 24) (h3 : 1 ≤ x.2.2) (h4 : x.2.2 ≤ 4) : mtcOk x = true := by
  unfold mtcOk
  rw [h1, decide_eq_true h2, decide_eq_false (signF_fullT h3 h4)]; rfl
theorem keepMs_rightT {ms : List Mtc} (h : keepMs ms) : rightM ms = true := by
  obtain ⟨c, _, h⟩ := h
  have h1 : (⟨#[c]⟩ : ByteArray).size ≤ 24 := by show #[c].size ≤ 24; simp
  have e1 : mtcOk (⟨#[110, 97, 109, 101]⟩, ⟨#[c]⟩, 1) = true := mtcOk_ofT (by rfl) h1 (by show (1 : Int) ≤ 1; decide) (by show (1 : Int) ≤ 4; decide)
  rcases h with rfl | ⟨a, q, kd, ha, hq, hk1, hk4, rfl⟩
  · unfold rightM; simp [e1]
  · have h3 := keepValue_sizeT q (by omega)
    have e2 : mtcOk (keepNames.getD a ⟨#[]⟩, keepValues.getD q ⟨#[]⟩, kd) = true := mtcOk_ofT (keepName_wordFT (keepNames_memT ha)) (by show (keepValues.getD q ⟨#[]⟩).size ≤ 24; omega) hk1 hk4
    unfold rightM
    rw [List.all_cons, List.all_cons, e1, e2]; rfl
structure KeepT (d : Nat) (t : Int) (x : PE) : Prop where
  ty : x.ty = t
  fits : x.fits
  small : x.small
  deep : x.deep ≤ d
theorem num_factsT (d : Nat) {n : Int} (h : I64 n) : KeepT (d + 1) 1 (.mk 1 n [] [] []) := by
  have hp : 1 ≤ 2 ^ d := Nat.one_le_two_pow
  have hp1 : 2 ^ (d + 1) = 2 ^ d + 2 ^ d := by rw [Nat.pow_succ]; omega
  refine ⟨rfl, by unfold PE.fits fitsP; exact ⟨h, trivial⟩, by unfold PE.small smallP; exact ⟨by simp, by simp, by simp, trivial⟩, by unfold PE.deep deepsP; omega⟩
theorem two_factsT {d n m : Nat} {k t ta tb : Int} {a b : PE} (h1 : 3 ≤ k) (h2 : k ≤ 16) (ha : KeepT d ta a) (hb : KeepT d tb b) (ht : twoT k [] [ta, tb] = t) : KeepT (d + 1) t (.mk k 0 [] [] [a, b]) := by
  have hp1 : 2 ^ (d + 1) = 2 ^ d + 2 ^ d := by rw [Nat.pow_succ]; omega
  refine ⟨?_, ?_, ?_, ?_⟩
  · unfold PE.ty
    rw [if_neg (by omega), if_neg (by omega), if_neg (by simp), word_none (by omega), if_neg (by simp), if_pos (sign_is h1 h2)]
    simp only [tysP]; rw [ha.ty, hb.ty]; exact ht
  · unfold PE.fits fitsP fitsP fitsP; exact ⟨by unfold I64; omega, ha.fits, hb.fits, trivial⟩
  · unfold PE.small smallP smallP smallP; exact ⟨by simp, by simp, by simp, ha.small, hb.small, trivial⟩
  · have := ha.deep; have := hb.deep
    unfold PE.deep deepsP deepsP deepsP; omega
theorem keepN_factsT : ∀ (d : Nat) (x : XE), keepN d x → KeepT d 1 x.pe
  | 0, _, h => h.elim
  | d + 1, x, h => by
    rcases h with ⟨h1, h2, h3, h4, h5, h6⟩ | ⟨h1, h2, h3, h4, h5, a, b, hk, ⟨a1, a2, a3, a4, a5, a6⟩, hb⟩
    · rw [xe_peT, h1, h4, h5, h6]; exact num_factsT d (by unfold I64; omega)
    · have hd := keepN_posT hb
      obtain ⟨d', rfl⟩ : ∃ d', d = d' + 1 := ⟨d - 1, by omega⟩
      rw [xe_peT, h3, h4, h5, hk]
      show KeepT _ 1 (.mk x.kd 0 [] [] [a.pe, b.pe])
      have ha : KeepT (d' + 1) 1 a.pe := by rw [xe_peT, a1, a4, a5, a6]; exact num_factsT d' (by unfold I64; omega)
      refine two_factsT (n := 0) (m := 0) h1 (by omega) ha (keepN_factsT _ b hb) ?_
      unfold twoT
      simp only
      rw [if_neg (by decide), if_pos (by refine ⟨by omega, ?_, ?_⟩ <;> trivial)]
theorem keepV_factsT : ∀ (d : Nat) (x : XE), keepV d x → KeepT d 2 x.pe
  | 0, _, h => h.elim
  | d + 1, x, h => by
    rcases h with ⟨h1, h2, h3, h4, h5, h6⟩ | ⟨h1, h2, h3, h4, h5, a, b, hk, ha, ⟨b1, b2, b3, b4, b5, b6⟩⟩ | ⟨h1, h2, h3, h4, h5, a, b, hk, ha, hb⟩ | ⟨h1, h2, h3, h4, h5, a, b, hk, ha, hb⟩ | ⟨h1, h2, h3, h4, h5, a, hk, ha⟩
    · rw [xe_peT, h1, h5, h6]
      show KeepT _ 2 (.mk 2 x.n x.ms [] [])
      have hr := keepMs_rightT h4
      have h6' := (rightM_facts hr).1
      have hp : 1 ≤ 2 ^ d := Nat.one_le_two_pow
      have hp1 : 2 ^ (d + 1) = 2 ^ d + 2 ^ d := by rw [Nat.pow_succ]; omega
      refine ⟨?_, by unfold PE.fits fitsP; exact ⟨by unfold I64; omega, trivial⟩, by unfold PE.small smallP; exact ⟨by omega, by simp, by simp, trivial⟩, by unfold PE.deep deepsP; omega⟩
      · unfold PE.ty
        rw [if_neg (by decide), if_pos rfl, if_pos ⟨by simp, hr, h2, by omega⟩]
    · have hd := keepV_posT ha
      obtain ⟨d', rfl⟩ : ∃ d', d = d' + 1 := ⟨d - 1, by omega⟩
      rw [xe_peT, h3, h4, h5, hk]
      show KeepT _ 2 (.mk x.kd 0 [] [] [a.pe, b.pe])
      have hb : KeepT (d' + 1) 1 b.pe := by rw [xe_peT, b1, b4, b5, b6]; exact num_factsT d' (by unfold I64; omega)
      refine two_factsT (n := 0) (m := 0) (by omega) (by omega) (keepV_factsT _ a ha) hb ?_
      unfold twoT
      simp only
      rw [if_neg (by decide), if_neg (by omega), if_neg (by omega), if_neg (by omega), if_neg (by omega)]
    · rw [xe_peT, h3, h4, h5, hk]
      show KeepT _ 2 (.mk x.kd 0 [] [] [a.pe, b.pe])
      refine two_factsT (n := 0) (m := 0) h1 h2 (keepV_factsT _ a ha) (keepV_factsT _ b hb) ?_
      unfold twoT
      simp only
      rw [if_neg (by decide), if_neg (by omega)]
      by_cases h7 : x.kd ≤ 7
      · rw [if_pos h7]
      · rw [if_neg h7, if_neg (by omega), if_neg (by omega)]
    · rw [xe_peT, h3, h4, h5, hk]
      show KeepT _ 2 (.mk x.kd 0 [] [] [a.pe, b.pe])
      refine two_factsT (n := 0) (m := 0) h1 (by omega) (keepV_factsT _ a ha) (keepN_factsT _ b hb) ?_
      unfold twoT
      simp only
      rw [if_neg (by decide), if_neg (by omega), if_pos h2]
    · have hd := keepV_posT ha
      obtain ⟨d', rfl⟩ : ∃ d', d = d' + 1 := ⟨d - 1, by omega⟩
      have hfa := keepV_factsT _ a ha
      have hp : 1 ≤ 2 ^ d' := Nat.one_le_two_pow
      have hp1 : 2 ^ (d' + 1) = 2 ^ d' + 2 ^ d' := by rw [Nat.pow_succ]; omega
      have hp2 : 2 ^ (d' + 1 + 1) = 2 ^ (d' + 1) + 2 ^ (d' + 1) := by rw [Nat.pow_succ]; omega
      have hn := keepNs_namesFT h5
      have hnl := (keepNs_goodT h5).1
      rw [xe_peT, h3, h4, hk]
      show KeepT _ 2 (.mk x.kd 0 [] x.ns [a.pe])
      refine ⟨?_, ?_, ?_, ?_⟩
      · unfold PE.ty
        rw [if_neg (by omega), if_neg (by omega), if_neg (by simp), if_pos (word_is h1 h2)]
        unfold oneT
        rw [if_pos ⟨hn, by simp only [tysP]; rw [hfa.ty]⟩]
      · unfold PE.fits fitsP fitsP; exact ⟨by unfold I64; omega, hfa.fits, trivial⟩
      · unfold PE.small smallP smallP; exact ⟨by simp, by omega, by simp, hfa.small, trivial⟩
      · have := hfa.deep
        unfold PE.deep deepsP deepsP; omega
end Go.Proofs.YtlmakdclebbbkaaGreat

namespace Go.Proofs.YtlmakdclebbbkaaGreat
open Go.ChangeShapes Go.WideShapes Go.ChangeAt Go.RowKit
set_option linter.unusedVariables false
set_option maxRecDepth 100000
section
variable {w0 W W' : World} {g g1 g2 : Nat} {v v1 v2 v' : Value} {D D1 D2 D' : List SK}
end
def lset (i : Nat) : List Lbl := [(⟨#[110]⟩, ⟨#[UInt8.ofNat (65 + i)]⟩)]
end Go.Proofs.YtlmakdclebbbkaaGreat

namespace Go.Proofs.YtlmakdclebbbkaaGreat
open Go.ChangeShapes Go.WideShapes Go.ChangeAt Go.RowKit
set_option linter.unusedVariables false
set_option maxRecDepth 100000
def sAt (L : List (Int × Int)) (t : Int) (i : Nat) : Bool := match L[i]? with | none => false | some x => x.1 == t
def eAt (L : List (Int × Int)) (k t : Int) (i : Nat) : Bool := match L[i]? with | none => false | some x => (x.1 + k == t) && (match L[i + 1]? with | none => true | some y => decide (t < y.1))
def sUp (L : List (Int × Int)) (t : Int) (j : Nat) : Bool := (List.range j).any (sAt L t)
def eUp (L : List (Int × Int)) (k t : Int) (j : Nat) : Bool := (List.range j).any (eAt L k t)
theorem eAt_last {L : List (Int × Int)} {k t : Int} {i : Nat} (h : i < L.length) (h2 : i + 1 = L.length) : eAt L k t i = (L[i].1 + k == t) := by
  unfold eAt; rw [List.getElem?_eq_getElem h, List.getElem?_eq_none (by omega)]; simp
theorem eAt_mid {L : List (Int × Int)} {k t : Int} {i : Nat} (h : i < L.length) (h2 : i + 1 < L.length) : eAt L k t i = ((L[i].1 + k == t) && decide (t < L[i + 1].1)) := by
  unfold eAt; rw [List.getElem?_eq_getElem h, List.getElem?_eq_getElem h2]
theorem sUp_cons (x : Int × Int) (L : List (Int × Int)) (t : Int) (j : Nat) : sUp (x :: L) t (j + 1) = ((x.1 == t) || sUp L t j) := by
  unfold sUp; rw [List.range_succ_eq_map, List.any_cons, List.any_map]; rfl
theorem eUp_cons (x : Int × Int) (L : List (Int × Int)) (k t : Int) (j : Nat) : eUp (x :: L) k t (j + 1) = (eAt (x :: L) k t 0 || eUp L k t j) := by
  unfold eUp; rw [List.range_succ_eq_map, List.any_cons, List.any_map]; rfl
theorem mem_inR (f t x z : Int) : z ∈ inR f t x ↔ (f ≤ x ∧ x ≤ t) ∧ z = x := by
  unfold inR; split
  · rename_i h; simp [h]
  · rename_i h; exact ⟨fun h2 => (by cases h2), fun h2 => absurd h2.1 h⟩
theorem mem_chg (k f t : Int) (L : List (Int × Int)) (z : Int) : z ∈ chg k f t L ↔ (f ≤ z ∧ z ≤ t) ∧ (sUp L z L.length = true ∨ eUp L k z L.length = true) := by
  induction L with
  | nil => simp [chg, sUp, eUp]
  | cons x r ih =>
    rw [List.length_cons, sUp_cons, eUp_cons]
    simp only [Bool.or_eq_true]
    cases r with
    | nil =>
      rw [eAt_last (by simp) (by simp)]
      simp only [chg, List.mem_append, mem_inR, List.length_nil, sUp, eUp, List.range_zero, List.any_nil, Bool.false_eq_true, or_false, List.getElem_cons_zero, beq_iff_eq]
      constructor
      · rintro (⟨h, rfl⟩ | ⟨h, rfl⟩)
        · exact ⟨h, .inl rfl⟩
        · exact ⟨h, .inr rfl⟩
      · rintro ⟨h, e | e⟩
        · exact .inl ⟨by rw [e]; exact h, e.symm⟩
        · exact .inr ⟨by rw [e]; exact h, e.symm⟩
    | cons y r =>
      rw [eAt_mid (by simp) (by simp)]
      simp only [chg, List.mem_append, ih, List.getElem_cons_zero, List.getElem_cons_succ, Bool.and_eq_true, beq_iff_eq, decide_eq_true_eq, mem_inR]
      constructor
      · rintro ((⟨h, rfl⟩ | h) | ⟨h, h2⟩)
        · exact ⟨h, .inl (.inl rfl)⟩
        · split at h
          · rename_i hlt
            rw [mem_inR] at h
            obtain ⟨h, rfl⟩ := h
            exact ⟨h, .inr (.inl ⟨rfl, hlt⟩)⟩
          · cases h
        · exact ⟨h, h2.elim (fun h => .inl (.inr h)) (fun h => .inr (.inr h))⟩
      · rintro ⟨h, (e | e) | (⟨e, e2⟩ | e)⟩
        · exact .inl (.inl ⟨by rw [e]; exact h, e.symm⟩)
        · exact .inr ⟨h, .inl e⟩
        · refine .inl (.inr ?_)
          rw [if_pos (by omega), mem_inR]
          exact ⟨by rw [e]; exact h, e.symm⟩
        · exact .inr ⟨h, .inr e⟩
end Go.Proofs.YtlmakdclebbbkaaGreat
