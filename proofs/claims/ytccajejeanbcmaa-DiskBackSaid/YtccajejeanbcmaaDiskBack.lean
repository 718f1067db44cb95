/- The walk of DiskBack, out of the contracts. -/
import Derived.Deep.DrawnRows
import Derived.Test.YtccajejeanbcmaaDiskKeeps
import Derived.Deep.RegionWith
import Derived.Deep.RegionHeld3
import Derived.IntWalk
namespace Go.Proofs.Ytccajejeanbcmaa
open Go.ChangeShapes Go.WideShapes Go.ChangeAt Go.RowKit
set_option linter.unusedVariables false
set_option maxRecDepth 100000
theorem clamp_any (n lo hi : Int) (w : World) (h : lo ≤ hi) :
    Calls Try.prog 17 #[.int .i64 n, .int .i64 lo, .int .i64 hi] w fun e w' => e = .returned (.int .i64 (nNear n lo hi)) ∧ w = w' := by
  by_cases h1 : n < lo
  · have e : nNear n lo hi = lo := by unfold nNear; rw [if_pos h1]
    rw [e]; clear e
    go_enter Try.func17, Try.ntmps17
    go_wp2_with fail
    go_ret
    exact ⟨rfl, rfl⟩
  · by_cases h2 : hi < n
    · have e : nNear n lo hi = hi := by unfold nNear; rw [if_neg h1, if_pos h2]
      rw [e]; clear e
      have h3 : n > hi := h2
      go_enter Try.func17, Try.ntmps17
      go_wp2_with fail
      go_ret
      exact ⟨rfl, rfl⟩
    · have e : nNear n lo hi = n := by unfold nNear; rw [if_neg h1, if_neg h2]
      rw [e]; clear e
      have h3 : ¬ n > hi := h2
      go_enter Try.func17, Try.ntmps17
      go_wp2_with fail
      go_ret
      exact ⟨rfl, rfl⟩
theorem nNear_in {n lo hi : Int} (h : lo ≤ hi) : lo ≤ nNear n lo hi ∧ nNear n lo hi ≤ hi := by
  unfold nNear
  split
  · omega
  · split <;> omega
theorem parts_nil (w : World) (B : Nat) (P : Option Addr) : PartsU8 w B P 0 [] := ⟨rfl, fun j l h => by simp at h⟩
theorem back_bad {d : Dk} {n : Int} (h1 : d.off = false) (h2 : n < 0 ∨ (d.bs.length : Int) < n) : d.back n = (1, d) := by
  unfold Dk.back; rw [h1, if_neg (by simp), if_pos h2]
/-- x and y are cut. -/
def BackCut (w : World) (A A2 : Option Addr) (kx ky c c2 : Nat) (x y : Value) (wx : World) : Prop := x = .slice A kx c ∧ y = .slice A2 ky c2 ∧ ∃ m, wx = w.drewN m
theorem at_two {d : Dk} {w : World} {g : Nat} {v : Value} (h : d.at w g v) (o o2 : Obj) : d.at ((w.alloc o).alloc o2) g v :=
  (h.below ((Below.refl _ _).alloc (Nat.le_refl _) o)).below ((Below.refl _ _).alloc (Nat.le_refl _) o2)
theorem below_two {B : Nat} {a w : World} (h : Below B a w) (hB : B ≤ a.heap.size) (o o2 : Obj) : Below B a ((w.alloc o).alloc o2) :=
  (h.alloc (Nat.le_trans hB h.size) o).alloc (by simp; have := h.size; omega) o2
theorem make_full {i0 : TypeInfo} (hi : Try.prog.info? 5 = some i0) (hz : i0.zero = some (.int .u8 0)) (hs : i0.size = 1) (hb : i0.bytes = 1) :
    ∃ (Z : Array Value) (l : List Int), l.length = 20001 ∧ Z = (u8s l).toArray ∧ ∀ w, (Instr.makeSlice 27 (.int .i64 20001) (.int .i64 20001)).run Try.prog w = .ok (.slice (some ⟨w.heap.size, 0, none⟩) 20001 20001) (w.alloc (.cells Z 5)) := by
  refine ⟨madeCells #[.int .u8 0] 20001, List.replicate 20001 0, List.length_replicate, ?_, fun w => ?_⟩
  · apply Array.toList_inj.1
    rw [toList_madeCells_one]
    simp only [u8s, List.map_replicate]
  · have h := run_makeSlice (P := Try.prog) w 27 5 i0 (.int .u8 0) Try.underlying27 hi hz .i64 .i64 20001 20001 (by omega) (by omega) (by rw [hs]; decide) (by rw [hb]; decide) (by decide)
    rw [hs] at h
    exact h
/-- A new disk, its room known. -/
theorem new_of (x r : Int) (w : World) (h : nNear x 0 20000 = r) :
    Calls Try.prog 8 #[.int .i64 x] w fun e w' => e = .returned (.pointer (some ⟨w.heap.size, 0, none⟩)) ∧ w.alloc (.cells #[.slice none 0 0, .int .i64 0, .int .i64 r, .int .i64 (-1), .bool false] 44) = w' := by
  subst h; exact new_any x w
theorem near_big {x : Int} (h : 20000 ≤ x) : nNear x 0 20000 = 20000 := by
  unfold nNear
  rw [if_neg (by omega)]
  split <;> omega
abbrev dkObj (r : Int) : Obj := (.cells #[.slice none 0 0, .int .i64 0, .int .i64 r, .int .i64 (-1), .bool false] 44)
/-- What Write says of a row that is too long, in whichever order the disk and the row were made. -/
theorem full_write {w W : World} {B g : Nat} {P : Option Addr} {r : Int} {l : List Int} (hb : Below B w W) (hg : B ≤ g) (hat : Dk.at ⟨[], 0, r, -1, false⟩ W g (.slice none 0 0)) (hp : PartsU8 W W.heap.size P 1 [l]) (hr : 0 ≤ r) (hr2 : r ≤ 20000) (hl : r < l.length) (hl2 : l.length ≤ 1000000) :
    Calls Try.prog 10 #[.pointer (some ⟨g, 0, none⟩), .slice P 1 1] W fun e w' => e = .returned (.int .i64 8) ∧ Below B w w' := by
  have hok : Dk.ok ⟨[], 0, r, -1, false⟩ := ⟨by show (0 : Int) ≤ 0; omega, by show (0 : Int) ≤ 0; omega, by show (0 : Int) ≤ r; omega, by show r ≤ 20000; omega, by show (-1 : Int) ≤ -1; omega, by show (-1 : Int) ≤ 9223372036854775807; omega⟩
  have hw : Dk.write ⟨[], 0, r, -1, false⟩ ([l] : List (List Int)).flatten = (8, ⟨[], 0, r, -1, false⟩) := write_full rfl (by show r - ((([] : List Int).length : Nat) : Int) < ((([l] : List (List Int)).flatten).length : Int); simp; omega)
  refine (write_any ⟨[], 0, r, -1, false⟩ g _ P 1 1 [l] W hat hok hp (by omega) (by simp; omega)).mono ?_
  rintro e w' ⟨v', rfl, hat', ht'⟩
  rw [hw]
  exact ⟨rfl, turned_below hb hat hg ht'⟩
theorem alloc_size (w : World) (o : Obj) : (w.alloc o).heap.size = w.heap.size + 1 := by simp
theorem full_one {w w0 : World} {B : Nat} {r : Int} {l : List Int} {t t' : TypeId} {Z : Array Value} (hb : Below B w w0) (hB : B ≤ w0.heap.size) (hZ : Z = (u8s l).toArray) (hr : 0 ≤ r) (hr2 : r ≤ 20000) (hl : r < l.length) (hl2 : l.length ≤ 1000000) :
    Calls Try.prog 10 #[.pointer (some ⟨w0.heap.size, 0, none⟩), .slice (some ⟨w0.heap.size + 1 + 1, 0, none⟩) 1 1] (((w0.alloc (dkObj r)).alloc (.cells Z t)).alloc (.cells #[.slice (some ⟨w0.heap.size + 1, 0, none⟩) l.length l.length] t')) fun e w' => e = .returned (.int .i64 8) ∧ Below B w w' := by
  subst hZ
  have h : Sees ((w0.alloc (dkObj r)).alloc (.cells (u8s l).toArray t)) ((w0.alloc (dkObj r)).alloc (.cells (u8s l).toArray t)).heap.size 1 (some ⟨w0.heap.size + 1, 0, none⟩) l.length (u8s l) := by
    have h := lit_sees (w := w0.alloc (dkObj r)) (t := t) l
    rwa [alloc_size w0] at h
  have hp := parts_one (t := t') (c := l.length) h (Nat.le_refl _) (Nat.le_refl _) (by omega)
  rw [show ((w0.alloc (dkObj r)).alloc (.cells (u8s l).toArray t)).heap.size = w0.heap.size + 1 + 1 by rw [alloc_size, alloc_size]] at hp
  exact full_write (((hb.alloc hB _).alloc (by rw [alloc_size]; omega) _).alloc (by rw [alloc_size, alloc_size]; omega) _) hB (at_two new_at _ _) hp hr hr2 hl hl2
theorem full_two {w w0 : World} {B : Nat} {r : Int} {l : List Int} {t t' : TypeId} {Z : Array Value} (hb : Below B w w0) (hB : B ≤ w0.heap.size) (hZ : Z = (u8s l).toArray) (hr : 0 ≤ r) (hr2 : r ≤ 20000) (hl : r < l.length) (hl2 : l.length ≤ 1000000) :
    Calls Try.prog 10 #[.pointer (some ⟨w0.heap.size + 1, 0, none⟩), .slice (some ⟨w0.heap.size + 1 + 1, 0, none⟩) 1 1] (((w0.alloc (.cells Z t)).alloc (dkObj r)).alloc (.cells #[.slice (some ⟨w0.heap.size, 0, none⟩) l.length l.length] t')) fun e w' => e = .returned (.int .i64 8) ∧ Below B w w' := by
  subst hZ
  have h : Sees ((w0.alloc (.cells (u8s l).toArray t)).alloc (dkObj r)) (w0.alloc (.cells (u8s l).toArray t)).heap.size 1 (some ⟨w0.heap.size, 0, none⟩) l.length (u8s l) := (lit_sees (w := w0) (t := t) l).alloc (Nat.le_refl _) _
  have e0 : (w0.alloc (.cells (u8s l).toArray t)).heap.size = w0.heap.size + 1 := alloc_size _ _
  have e1 : ((w0.alloc (.cells (u8s l).toArray t)).alloc (dkObj r)).heap.size = w0.heap.size + 1 + 1 := by rw [alloc_size, alloc_size]
  have e2 : (w0.alloc (.cells (u8s l).toArray t)).heap.size ≤ ((w0.alloc (.cells (u8s l).toArray t)).alloc (dkObj r)).heap.size := by rw [e0, e1]; omega
  have hp := parts_one (t := t') (c := l.length) h e2 (Nat.le_refl _) (by omega)
  rw [e1] at hp
  have hat : Dk.at ⟨[], 0, r, -1, false⟩ ((w0.alloc (.cells (u8s l).toArray t)).alloc (dkObj r)) (w0.heap.size + 1) (.slice none 0 0) := by
    have h := new_at (w := w0.alloc (.cells (u8s l).toArray t)) (r := r)
    rwa [alloc_size w0] at h
  exact full_write (((hb.alloc hB _).alloc (by rw [alloc_size]; omega) _).alloc (by rw [alloc_size, alloc_size]; omega) _) (by omega) (hat.below ((Below.refl _ _).alloc (Nat.le_refl _) _)) hp hr hr2 hl hl2
theorem full_three {w w0 : World} {B : Nat} {r : Int} {l : List Int} {t t' : TypeId} {Z : Array Value} (hb : Below B w w0) (hB : B ≤ w0.heap.size) (hZ : Z = (u8s l).toArray) (hr : 0 ≤ r) (hr2 : r ≤ 20000) (hl : r < l.length) (hl2 : l.length ≤ 1000000) :
    Calls Try.prog 10 #[.pointer (some ⟨w0.heap.size + 1 + 1, 0, none⟩), .slice (some ⟨w0.heap.size + 1, 0, none⟩) 1 1] (((w0.alloc (.cells Z t)).alloc (.cells #[.slice (some ⟨w0.heap.size, 0, none⟩) l.length l.length] t')).alloc (dkObj r)) fun e w' => e = .returned (.int .i64 8) ∧ Below B w w' := by
  subst hZ
  have h : Sees (w0.alloc (.cells (u8s l).toArray t)) (w0.alloc (.cells (u8s l).toArray t)).heap.size 1 (some ⟨w0.heap.size, 0, none⟩) l.length (u8s l) := lit_sees (w := w0) (t := t) l
  have hp0 := parts_one (t := t') (c := l.length) h (Nat.le_refl _) (Nat.le_refl _) (by omega)
  rw [show (w0.alloc (.cells (u8s l).toArray t)).heap.size = w0.heap.size + 1 by rw [alloc_size]] at hp0
  have e1 : ((w0.alloc (.cells (u8s l).toArray t)).alloc (.cells #[.slice (some ⟨w0.heap.size, 0, none⟩) l.length l.length] t')).heap.size ≤ (((w0.alloc (.cells (u8s l).toArray t)).alloc (.cells #[.slice (some ⟨w0.heap.size, 0, none⟩) l.length l.length] t')).alloc (dkObj r)).heap.size := by rw [alloc_size (World.alloc (w0.alloc (.cells (u8s l).toArray t)) _)]; omega
  have hp := (hp0.below ((Below.refl _ _).alloc (Nat.le_refl _) (dkObj r))).more e1
  have hat : Dk.at ⟨[], 0, r, -1, false⟩ (((w0.alloc (.cells (u8s l).toArray t)).alloc (.cells #[.slice (some ⟨w0.heap.size, 0, none⟩) l.length l.length] t')).alloc (dkObj r)) (w0.heap.size + 1 + 1) (.slice none 0 0) := by
    have h := new_at (w := (w0.alloc (.cells (u8s l).toArray t)).alloc (.cells #[.slice (some ⟨w0.heap.size, 0, none⟩) l.length l.length] t')) (r := r)
    rwa [alloc_size, alloc_size w0] at h
  exact full_write (((hb.alloc hB _).alloc (by rw [alloc_size]; omega) _).alloc (by rw [alloc_size, alloc_size]; omega) _) (by omega) hat hp hr hr2 hl hl2
attribute [local go_sem ↓] Go.wp_at_zero Go.wp_at_succ
set_option maxHeartbeats 40000000 in
theorem disk_back (A A2 : Option Addr) (n c n2 c2 kx ky : Nat) (xs ys : List Int) (t0 k0 r0 : Int) (w : World) (hx : Sees w w.heap.size 1 A kx (u8s xs)) (hy : Sees w w.heap.size 1 A2 ky (u8s ys))
    (hkx : min (n : Int) 40 = kx) (hky : min (n2 : Int) 40 = ky) (hnc : n ≤ c) (hcm : c ≤ 9223372036854775807) (hnc2 : n2 ≤ c2) (hcm2 : c2 ≤ 9223372036854775807) (wt : I64 t0) (wk : I64 k0) (wr : I64 r0) :
    Calls Try.prog 6 #[.slice A n c, .slice A2 n2 c2, .int .i64 t0, .int .i64 k0, .int .i64 r0] w fun e w' => e = .returned (.bool true) ∧ Below w.heap.size w w' := by
  have HX := Lib.hid hx; have HY := Lib.hid hy
  have HXL := Lib.hid hx.u8_len; have HYL := Lib.hid hy.u8_len
  clear hx hy
  have WT := Lib.hid wt; have WK := Lib.hid wk; have WR := Lib.hid wr; clear wt wk wr
  obtain ⟨hr1, hr2⟩ := nWithin_in r0 (lo := 0) (hi := 9) (by omega)
  obtain ⟨i0, hi0, hz0, hz1, hz2⟩ := info_parts Try.infoU8
  go_enter Try.func6, Try.ntmps6
  go_upto_region 1 with fail
  go_cut [11, 12] (fun x y wx => BackCut w A A2 kx ky c c2 x y wx)
  case first =>
    by_cases h1 : n ≤ 40
    · obtain rfl : kx = n := by omega
      have hm1 : ¬ (40 : Int) < kx := by omega
      by_cases h2 : n2 ≤ 40
      · obtain rfl : ky = n2 := by omega
        have hm2 : ¬ (40 : Int) < ky := by omega
        clear hkx hky
        go_wp2_with fail
        go_region
        all_goals
          go_wp2_with fail
          go_meet
          exact ⟨rfl, rfl, 1, rfl⟩
      · obtain rfl : ky = 40 := by omega
        have hm2 : (40 : Int) < n2 := by omega
        have hcc : 40 ≤ c2 := by omega
        clear hkx hky
        go_wp2_with fail
        go_region
        all_goals
          go_wp2_with fail
          go_meet
          exact ⟨rfl, rfl, 1, rfl⟩
    · obtain rfl : kx = 40 := by omega
      have hm1 : (40 : Int) < n := by omega
      have hcc1 : 40 ≤ c := by omega
      by_cases h2 : n2 ≤ 40
      · obtain rfl : ky = n2 := by omega
        have hm2 : ¬ (40 : Int) < ky := by omega
        clear hkx hky
        go_wp2_with fail
        go_region
        all_goals
          go_wp2_with fail
          go_meet
          exact ⟨rfl, rfl, 1, rfl⟩
      · obtain rfl : ky = 40 := by omega
        have hm2 : (40 : Int) < n2 := by omega
        have hcc : 40 ≤ c2 := by omega
        clear hkx hky
        go_wp2_with fail
        go_region
        all_goals
          go_wp2_with fail
          go_meet
          exact ⟨rfl, rfl, 1, rfl⟩
  case rest =>
    obtain ⟨hx, hy, m0, hw0⟩ := hcut
    subst hx; subst hy; subst hw0
    have hkx2 : kx ≤ 40 := by omega
    have hky2 : ky ≤ 40 := by omega
    have hkc : kx ≤ c := by omega
    have hkc2 : ky ≤ c2 := by omega
    have HX0 := Lib.hid (HX.out.drewN m0); have HY0 := Lib.hid (HY.out.drewN m0)
    have HB0 := Lib.hid (below_drewN2 (Below.refl w.heap.size w) m0)
    have hs0 : w.heap.size ≤ (w.drewN m0).heap.size := Nat.le_refl _
    clear hkx hky
    generalize w.drewN m0 = w0 at *
    go_wp2_with fail
    refine (new_any ((kx : Int) + ky) w0).mono ?_; rintro e w' ⟨rfl, rfl⟩
    have hnn : nNear ((kx : Int) + ky) 0 20000 = (kx : Int) + ky := by unfold nNear; rw [if_neg (by omega), if_neg (by omega)]
    rw [hnn]
    obtain ⟨R, hR⟩ : ∃ R : Int, R = (kx : Int) + ky := ⟨_, rfl⟩
    rw [← hR]
    have HRR := Lib.hid hR
    have HA1 := Lib.hid (new_at (w := w0) (r := R))
    have HB1 := Lib.hid (HB0.out.alloc hs0 (.cells #[.slice none 0 0, .int .i64 0, .int .i64 R, .int .i64 (-1), .bool false] 44))
    have HX1 := Lib.hid (HX0.out.alloc hs0 (.cells #[.slice none 0 0, .int .i64 0, .int .i64 R, .int .i64 (-1), .bool false] 44))
    have HY1 := Lib.hid (HY0.out.alloc hs0 (.cells #[.slice none 0 0, .int .i64 0, .int .i64 R, .int .i64 (-1), .bool false] 44))
    have hs1 : w.heap.size ≤ (w0.alloc (.cells #[.slice none 0 0, .int .i64 0, .int .i64 R, .int .i64 (-1), .bool false] 44)).heap.size := by simp; omega
    clear hnn hR HX0 HY0 HB0
    generalize w0.alloc (.cells #[.slice none 0 0, .int .i64 0, .int .i64 R, .int .i64 (-1), .bool false] 44) = w1 at *
    generalize w0.heap.size = g at *
    -- Write x
    have HP1 := Lib.hid (parts_one (t := 27) (c := c) HX1.out hs1 hkc hcm)
    have hb1 : Below w1.heap.size w1 (w1.alloc (.cells #[.slice A kx c] 27)) := (Below.refl _ _).alloc (Nat.le_refl _) _
    have HA2 := Lib.hid (HA1.out.below hb1)
    have HB2 := Lib.hid (HB1.out.trans (hb1.mono hs1))
    have HOK1 : Hid (Dk.ok ⟨[], 0, R, -1, false⟩) := ⟨by show (0 : Int) ≤ 0; omega, by show (0 : Int) ≤ 0; omega, by show (0 : Int) ≤ R; have := HRR.out; omega, by show R ≤ 20000; have := HRR.out; omega, by show (-1 : Int) ≤ -1; omega, by show (-1 : Int) ≤ 9223372036854775807; omega⟩
    have hw1 : Dk.write ⟨[], 0, R, -1, false⟩ ([xs] : List (List Int)).flatten = (0, ⟨xs, 0, R, -1, false⟩) := by
      rw [write_free rfl (by have := HXL.out; have := HRR.out; show ((([xs] : List (List Int)).flatten).length : Int) ≤ R - 0; simp; omega) rfl]
      simp
    have HW1 := Lib.hid hw1
    clear hb1 hw1 HA1 HB1
    go_wp2_with fail
    refine (write_any ⟨[], 0, R, -1, false⟩ g _ _ 1 1 [xs] _ HA2.out HOK1.out HP1.out (by omega) (by have := HXL.out; simp; omega)).mono ?_; rintro e w2 ⟨v2, rfl, hat2, ht2⟩
    rw [HW1.out] at hat2
    rw [HW1.out]
    have hat3 : Dk.at ⟨xs, 0, R, -1, false⟩ w2 g v2 := hat2
    have HA3 := Lib.hid hat3
    have HB3 := Lib.hid (turned_below HB2.out HA2.out hs0 ht2)
    have hxl := HXL.out
    have hyl := HYL.out
    have hrr := HRR.out
    have HOK3 : Hid (Dk.ok ⟨xs, 0, R, -1, false⟩) := ⟨by show (0 : Int) ≤ 0; omega, by show (0 : Int) ≤ ((xs).length : Int); omega, by show (((xs).length : Nat) : Int) ≤ R; omega, by show (R : Int) ≤ 20000; omega, by show (-1 : Int) ≤ -1; omega, by show (-1 : Int) ≤ 9223372036854775807; omega⟩
    have hsy : Dk.sync ⟨xs, 0, R, -1, false⟩ = (0, ⟨xs, kx, R, -1, false⟩) := by rw [sync_free rfl rfl]; show (0, Dk.mk xs (xs.length : Nat) R (-1) false) = _; rw [HXL.out]
    have HSY := Lib.hid hsy
    have HRB : Hid (R ≤ 80 ∧ 0 ≤ R) := ⟨by omega, by omega⟩
    clear hat2 hat3 ht2 HA2 HB2 HP1 HW1 HOK1 hxl hyl hrr hsy
    go_wp2_with fail
    refine (sync_any ⟨xs, 0, R, -1, false⟩ g v2 w2 HA3.out HOK3.out).mono ?_; rintro e w3 ⟨v3, rfl, hat3, ht3⟩
    rw [HSY.out] at hat3
    rw [HSY.out]
    have hat4 : Dk.at ⟨xs, kx, R, -1, false⟩ w3 g v3 := hat3
    have HA4 := Lib.hid hat4
    have HB4 := Lib.hid (turned_below HB3.out HA3.out hs0 ht3)
    have hs3 := HB4.out.size
    have HP2 := Lib.hid (parts_one (t := 27) (c := c2) (HY.out.below HB4.out) hs3 hkc2 hcm2)
    have hb2 : Below w3.heap.size w3 (w3.alloc (.cells #[.slice A2 ky c2] 27)) := (Below.refl _ _).alloc (Nat.le_refl _) _
    have HA5 := Lib.hid (HA4.out.below hb2)
    have HB5 := Lib.hid (HB4.out.trans (hb2.mono hs3))
    have hxl := HXL.out
    have hyl := HYL.out
    have hrr := HRR.out
    have HOK4 : Hid (Dk.ok ⟨xs, kx, R, -1, false⟩) := ⟨by show (0 : Int) ≤ (kx : Int); omega, by show ((kx : Int) : Int) ≤ ((xs).length : Int); omega, by show (((xs).length : Nat) : Int) ≤ R; omega, by show (R : Int) ≤ 20000; omega, by show (-1 : Int) ≤ -1; omega, by show (-1 : Int) ≤ 9223372036854775807; omega⟩
    have hw2 : Dk.write ⟨xs, kx, R, -1, false⟩ ([ys] : List (List Int)).flatten = (0, ⟨xs ++ ys, kx, R, -1, false⟩) := by
      rw [write_free rfl (by show ((([ys] : List (List Int)).flatten).length : Int) ≤ R - (xs.length : Int); simp; omega) rfl]
      simp
    have HW2 := Lib.hid hw2
    have HZL := Lib.hid (show (xs ++ ys).length = kx + ky by rw [List.length_append, hxl, hyl])
    clear hat3 hat4 ht3 hb2 hw2 HA3 HB3 HA4 HB4 HSY HOK3 hxl hyl hrr
    go_wp2_with fail
    refine (write_any ⟨xs, kx, R, -1, false⟩ g _ _ 1 1 [ys] _ HA5.out HOK4.out HP2.out (by omega) (by have := HYL.out; simp; omega)).mono ?_; rintro e w4 ⟨v4, rfl, hat4, ht4⟩
    rw [HW2.out] at hat4
    rw [HW2.out]
    have HB6 := Lib.hid (turned_below HB5.out HA5.out hs0 ht4)
    have HZS := Lib.hid (show xs ++ ys = xs ++ ys from rfl)
    generalize hzs : xs ++ ys = zs at *
    have HZE := Lib.hid hzs; clear hzs HZS
    have hat6 : Dk.at ⟨zs, kx, R, -1, false⟩ w4 g v4 := hat4
    have HA6 := Lib.hid hat6
    have hzl := HZL.out
    have hrr := HRR.out
    have HOK6 : Hid (Dk.ok ⟨zs, kx, R, -1, false⟩) := ⟨by show (0 : Int) ≤ (kx : Int); omega, by show ((kx : Int) : Int) ≤ ((zs).length : Int); omega, by show (((zs).length : Nat) : Int) ≤ R; omega, by show (R : Int) ≤ 20000; omega, by show (-1 : Int) ≤ -1; omega, by show (-1 : Int) ≤ 9223372036854775807; omega⟩
    have hs4 := HB6.out.size
    have hb7 : Below w4.heap.size w4 ((w4.alloc (.cells #[.int .u8 1] 5)).alloc (.cells #[.slice (some ⟨w4.heap.size, 0, none⟩) 1 1] 27)) := ((Below.refl _ _).alloc (Nat.le_refl _) _).alloc (by simp) _
    have HP7 := Lib.hid (parts_byte (w := w4) (b := 1) (t := 5) (t' := 27))
    have HA7 := Lib.hid (HA6.out.below hb7)
    have HB7 := Lib.hid (HB6.out.trans (hb7.mono hs4))
    have hw7 : Dk.write ⟨zs, kx, R, -1, false⟩ ([[1]] : List (List Int)).flatten = (8, ⟨zs, kx, R, -1, false⟩) := write_full rfl (by show R - (zs.length : Int) < ((([[1]] : List (List Int)).flatten).length : Int); simp; omega)
    have HW7 := Lib.hid hw7
    have hsize : ((zs.length : Int) != (kx : Int) + ky) = false := by rw [hzl]; simp
    clear hat4 hat6 ht4 hb7 hw7 HA5 HB5 HP2 HW2 HOK4 HA6 HB6 hzl hrr
    go_wp2_with fail
    refine (write_any ⟨zs, kx, R, -1, false⟩ g v4 _ 1 1 [[1]] _ HA7.out HOK6.out HP7.out (by omega) (by decide)).mono ?_; rintro e w5 ⟨v5, rfl, hat5, ht5⟩
    rw [HW7.out] at hat5
    rw [HW7.out]
    have hat8 : Dk.at ⟨zs, kx, R, -1, false⟩ w5 g v5 := hat5
    have HA8 := Lib.hid hat8
    have HB8 := Lib.hid (turned_below HB7.out HA7.out hs0 ht5)
    have hw8 : Dk.write ⟨zs, kx, R, -1, false⟩ ([] : List (List Int)).flatten = (0, ⟨zs, kx, R, -1, false⟩) := by
      rw [write_free rfl (by have := HZL.out; have := HRR.out; show ((([] : List (List Int)).flatten).length : Int) ≤ R - (zs.length : Int); simp; omega) rfl]
      simp
    have HW8 := Lib.hid hw8
    clear hat5 hat8 ht5 hw8 HA7 HB7 HP7 HW7
    go_wp2_with fail
    refine (size_any ⟨zs, kx, R, -1, false⟩ g v5 w5 HA8.out).mono ?_; rintro e w' ⟨rfl, rfl⟩
    go_wp2_with fail
    refine (write_any ⟨zs, kx, R, -1, false⟩ g v5 none 0 0 [] _ HA8.out HOK6.out (parts_nil _ _ _) (by omega) (by decide)).mono ?_; rintro e w6 ⟨v6, rfl, hat6, ht6⟩
    rw [HW8.out] at hat6
    rw [HW8.out]
    have hat9 : Dk.at ⟨zs, kx, R, -1, false⟩ w6 g v6 := hat6
    have HA9 := Lib.hid hat9
    have HB9 := Lib.hid (turned_below HB8.out HA8.out hs0 ht6)
    clear hat6 hat9 ht6 HA8 HB8 HW8 hsize
    obtain ⟨hn1, hn2⟩ := nWithin_in t0 (lo := 0) (hi := (kx : Int) + ky) (by omega)
    go_wp2_with fail
    refine (within_any t0 0 ((kx : Int) + ky) _ WT.out (by omega) (by omega) (by omega)).mono ?_; rintro e w' ⟨rfl, rfl⟩
    generalize nWithin t0 0 ((kx : Int) + ky) = nn at *
    obtain ⟨n, rfl⟩ := Int.eq_ofNat_of_zero_le hn1
    clear WT hn1
    -- all := append(append([]byte{}, x...), y...)
    have hs6 := HB9.out.size
    have hown0 : (w6.alloc (.cells #[] 5)).ownsRow w6.heap.size 5 1 (.slice (some ⟨w6.heap.size, 0, none⟩) 0 0) 0 [] := World.ownsRow_made w6 #[] 0 (Nat.le_refl _) (by unfold maxLen; omega) rfl
    have HO0 := Lib.hid hown0
    have HXW := Lib.hid ((HX.out.below HB9.out).alloc hs6 (.cells #[] 5))
    have HYW := Lib.hid ((HY.out.below HB9.out).alloc hs6 (.cells #[] 5))
    clear hown0
    go_wp2_with (at_builtin; refine wpList_append_sees rfl (.tmp 81) (.tmp 82) 27 rfl w6.heap.size 5 i0 (.int .u8 0) 1 1 Try.underlying27 hi0 hz0 hz1 hz2 rfl (by decide) _ 0 [] rfl HO0.out w.heap.size A kx c (u8s xs) rfl HXW.out (u8s_one _) (by unfold maxLen; omega) (by omega) (by simp) ?_)
    intro va w7 hown7 hgr7
    have hb7 := ((Below.refl w6.heap.size w6).alloc (Nat.le_refl _) (.cells #[] 5)).grown hgr7 (by simp) (by simp [Value.ownBlock])
    have hyw := HYW.out.grown hgr7 (by simp; omega) (by simp [Value.ownBlock]; omega)
    try simp only [Nat.zero_add, List.nil_append] at hown7
    obtain ⟨Aa, ca, rfl, hca1, hca2⟩ := own_slice hown7
    have HO7 := Lib.hid hown7; have HB10 := Lib.hid hb7; have HYW2 := Lib.hid hyw
    have hsz7 := hb7.size
    clear hown7 hb7 hyw hgr7 HO0 HXW HYW
    go_wp2_with (at_builtin; refine wpList_append_sees rfl (.tmp 83) (.tmp 84) 27 rfl w6.heap.size 5 i0 (.int .u8 0) 1 1 Try.underlying27 hi0 hz0 hz1 hz2 rfl (by decide) (.slice Aa kx ca) kx (u8s xs) rfl HO7.out w.heap.size A2 ky c2 (u8s ys) rfl HYW2.out (u8s_one _) (by unfold maxLen; omega) (by omega) (by omega) ?_)
    intro va2 w8 hown8 hgr8
    have hb8 := HB10.out.grown hgr8 (by omega) (fun j hj => (HO7.out.lt j hj).1)
    rw [← u8s_append] at hown8
    obtain ⟨Ab, cb, rfl, hcb1, hcb2⟩ := own_slice hown8
    rw [HZE.out] at hown8
    have HO8 := Lib.hid hown8; have HA10 := Lib.hid (HA9.out.below hb8); have HB11 := Lib.hid (HB9.out.trans (hb8.mono hs6))
    have hbes : Beside ⟨zs, kx, R, -1, false⟩ zs w8 g v6 (.slice Ab (kx + ky) cb) := by
      refine ⟨HA10.out, by rw [HZL.out]; exact own_mono hown8 (by have := HA9.out.1.lt; omega), fun j hj e => ?_⟩
      have h1 := (hown8.lt j hj).1
      have h2 := (HA9.out.2.lt j e).2
      omega
    have HBES := Lib.hid hbes
    clear hown8 hb8 hgr8 hbes HO7 HB10 HYW2 HA9 HB9 HA10 HO8 hsz7
    have hnz : n ≤ zs.length := by have := HZL.out; omega
    have hncb : n ≤ cb := by omega
    have HTL := Lib.hid (show (zs.take n).length = n by rw [List.length_take]; omega)
    have HCUT : Hid (∀ (d : Dk) (W : World) (v : Value), Beside d zs W g v (.slice Ab (kx + ky) cb) → Sees W W.heap.size 1 Ab n (u8s (zs.take n))) := fun d W v h => by
      have h2 := h.2.1
      rw [HZL.out] at h2
      have h3 := own_cut h2 (show n ≤ kx + ky by omega)
      rw [Nat.mul_one, u8s_take] at h3
      exact Sees.of_own h3
    have s1 : IntKind.i64.wrap ((n : Int) + 1) = n + 1 := IntWalk.i64_in _ (by omega)
    have hb0 : (0 : Int) ≤ n := by omega
    have hb1 : (n : Int) ≤ cb := by omega
    obtain ⟨M, hM⟩ : ∃ M : Int, (if kx < n then (kx : Int) else n) = M := ⟨_, rfl⟩
    have hmin : min (kx : Int) n = M := by rw [← hM]; split <;> omega
    have hm1 : 0 ≤ M := by omega
    have hm2 : M ≤ n := by omega
    have HC1 : Hid (∀ W v, Dk.at ⟨zs, kx, R, -1, false⟩ W g v → Calls Try.prog 19 #[.pointer (some ⟨g, 0, none⟩), .int .i64 n] W (DkAns2 ⟨zs.take n, M, R, -1, false⟩ g v W (.int .i64 0))) := fun W v h => by
      have h2 := back_all ⟨zs, kx, R, -1, false⟩ g v n W h HOK6.out
      rw [back_free rfl hnz rfl] at h2
      have e : Dk.keep ⟨zs, kx, R, -1, false⟩ n = ⟨zs.take n, M, R, -1, false⟩ := by unfold Dk.keep; rw [hmin]
      rw [e] at h2
      exact h2
    have HOK7 : Hid (Dk.ok ⟨zs.take n, M, R, -1, false⟩) := by
      have h1 := HTL.out
      have h2 := HRR.out
      exact ⟨by show (0 : Int) ≤ M; omega, by show M ≤ (((zs.take n).length : Nat) : Int); omega, by show ((((zs.take n).length : Nat)) : Int) ≤ R; omega, by show R ≤ 20000; omega, by show (-1 : Int) ≤ -1; omega, by show (-1 : Int) ≤ 9223372036854775807; omega⟩
    have HC2 : Hid (∀ W v, Dk.at ⟨zs.take n, M, R, -1, false⟩ W g v → Calls Try.prog 19 #[.pointer (some ⟨g, 0, none⟩), .int .i64 ((n : Int) + 1)] W (DkAns2 ⟨zs.take n, M, R, -1, false⟩ g v W (.int .i64 1))) := fun W v h => by
      have h2 := back_all ⟨zs.take n, M, R, -1, false⟩ g v ((n : Int) + 1) W h HOK7.out
      rw [back_bad rfl (.inr (by show (((zs.take n).length : Nat) : Int) < (n : Int) + 1; rw [HTL.out]; omega))] at h2
      exact h2
    have HC3 : Hid (∀ W v, Dk.at ⟨zs.take n, M, R, -1, false⟩ W g v → Calls Try.prog 19 #[.pointer (some ⟨g, 0, none⟩), .int .i64 (-1)] W (DkAns2 ⟨zs.take n, M, R, -1, false⟩ g v W (.int .i64 1))) := fun W v h => by
      have h2 := back_all ⟨zs.take n, M, R, -1, false⟩ g v (-1) W h HOK7.out
      rw [back_bad rfl (.inl (by omega))] at h2
      exact h2
    have HCR : Hid (∀ W v, Dk.at ⟨zs.take n, M, R, -1, false⟩ W g v → Calls Try.prog 15 #[.pointer (some ⟨g, 0, none⟩)] W (OwnAns 5 1 n (u8s (zs.take n)) W)) := fun W v h => by
      have h2 := read_on ⟨zs.take n, M, R, -1, false⟩ g v W h rfl (by show (zs.take n).length ≤ 1000000; rw [HTL.out]; omega)
      have e : (Dk.bs ⟨zs.take n, M, R, -1, false⟩).length = n := HTL.out
      rw [e] at h2
      exact h2
    have HMIN := Lib.hid hmin; clear hmin
    go_upto_region 9 with fail
    go_cut [119] (fun t wx => t = .bool false ∧ ∃ v11, Beside ⟨zs.take n, M, R, -1, false⟩ zs wx g v11 (.slice Ab (kx + ky) cb) ∧ Below w.heap.size w wx)
    case first => as_aux_lemma =>
      go_region_held3 (fun _ => True) (exact trivial) (first
        | (go_at_call 19; (refine (HC1.out _ _ HBES.out.1.drew).mono ?_; rintro e w9 ⟨v9, rfl, hat9, ht9, hwh9⟩; have HBS9 := Lib.hid (HBES.out.drew.turned hat9 ht9 hwh9); have HB12 := Lib.hid (turned_below HB11.out.drew HBES.out.1.drew hs0 ht9); clear hat9 ht9 hwh9 HBES HB11))
        | (go_at_call 19; (refine (HC2.out _ _ HBS9.out.1).mono ?_; rintro e w10 ⟨v10, rfl, hat10, ht10, hwh10⟩; have HBS10 := Lib.hid (HBS9.out.turned hat10 ht10 hwh10); have HB13 := Lib.hid (turned_below HB12.out HBS9.out.1 hs0 ht10); clear hat10 ht10 hwh10 HBS9 HB12))
        | (go_at_call 19; (refine (HC3.out _ _ HBS10.out.1).mono ?_; rintro e w11 ⟨v11, rfl, hat11, ht11, hwh11⟩; have HBS11 := Lib.hid (HBS10.out.turned hat11 ht11 hwh11); have HB14 := Lib.hid (turned_below HB13.out HBS10.out.1 hs0 ht11); clear hat11 ht11 hwh11 HBS10 HB13))
        | (go_at_call 16; refine (firm_any ⟨zs.take n, M, R, -1, false⟩ g _ _ HBS11.out.1).mono ?_; rintro e w' ⟨rfl, rfl⟩)
        | (go_at_call 15; refine (HCR.out _ _ HBS11.out.1).mono ?_; rintro e w12 ⟨A12, c12, rfl, hown12, hbel12, hc12, hc13⟩; have HBS12 := Lib.hid (HBS11.out.below hbel12); have HB15 := Lib.hid (HB14.out.trans (hbel12.mono HB14.out.size)); have HR12 := Lib.hid (Sees.of_own hown12); clear hown12 hbel12 HBS11 HB14)
        | (go_at_call 14; refine (same_u8 A12 Ab n c12 n cb _ _ (zs.take n) (zs.take n) _ HR12.out (HCUT.out _ _ _ HBS12.out) (by omega) (by omega)).mono ?_; rintro e w13 ⟨rfl, q, rfl⟩; rw [decide_eq_true (rfl : zs.take n = zs.take n)]))
      all_goals
        go_wp2_with fail
        go_meet
        exact ⟨rfl, _, HBS12.out.below (below_drewN2 (Below.refl _ _) q), below_drewN2 HB15.out q⟩
    case rest => as_aux_lemma =>
      obtain ⟨rfl, v11, hbes, hbel⟩ := hcut
      have HBS := Lib.hid hbes; have HB := Lib.hid hbel
      clear hbes hbel HBES HB11 HC1 HC2 HC3 HCR
      obtain ⟨hl1, hl2⟩ := Dk.left_in HOK7.out k0
      have hl1' : M ≤ Dk.left ⟨zs.take n, M, R, -1, false⟩ k0 := hl1
      have hl2' : Dk.left ⟨zs.take n, M, R, -1, false⟩ k0 ≤ n := by have h := hl2; have e : (Dk.bs ⟨zs.take n, M, R, -1, false⟩).length = n := HTL.out; rw [e] at h; exact h
      have HLF : Hid (M + nNear k0 0 (n - M) = Dk.left ⟨zs.take n, M, R, -1, false⟩ k0) := by
        have e : ((zs.take n).length : Int) = n := by rw [HTL.out]
        show M + nNear k0 0 (n - M) = M + nNear k0 0 (((zs.take n).length : Int) - M)
        rw [e]
      have he : Dk.boot ⟨zs.take n, M, R, -1, false⟩ k0 = ⟨(zs.take n).take (Dk.left ⟨zs.take n, M, R, -1, false⟩ k0).toNat, Dk.left ⟨zs.take n, M, R, -1, false⟩ k0, R, -1, false⟩ := rfl
      have hbo := Dk.boot_ok HOK7.out k0
      have hboot := fun W v h => boot_any ⟨zs.take n, M, R, -1, false⟩ g v k0 W h HOK7.out
      rw [he] at hboot hbo
      generalize Dk.left ⟨zs.take n, M, R, -1, false⟩ k0 = q at *
      obtain ⟨p, rfl⟩ := Int.eq_ofNat_of_zero_le (show 0 ≤ q by omega)
      have hpn : p ≤ n := by omega
      rw [Int.toNat_natCast, List.take_take, Nat.min_eq_left hpn] at hboot hbo
      have HBOOT := Lib.hid hboot; have HOK8 := Lib.hid hbo
      clear hboot hbo he hl1 hl2 hl1' hl2'
      go_wp2_with fail
      refine (HBOOT.out _ _ HBS.out.1).mono ?_; rintro e w20 ⟨v20, rfl, hat20, ht20⟩
      have hall := ht20.own HBS.out.2.1 (fun e => by have := (HBS.out.2.1.lt g e).1; omega) HBS.out.2.2
      have HALL := Lib.hid hall
      have HA20 := Lib.hid hat20
      have HB20 := Lib.hid (turned_below HB.out HBS.out.1 hs0 ht20)
      clear hall hat20 ht20 HBOOT HBS HB
      go_wp2_with fail
      have HF20 := Lib.hid (firm_any ⟨zs.take p, (p : Int), R, -1, false⟩ g)
      clear HOK6 HOK7
      refine (clamp_any k0 0 ((n : Int) - M) _ (by omega)).mono ?_; rintro e w' ⟨rfl, rfl⟩
      have hlf := HLF.out
      obtain ⟨K, hK⟩ : ∃ K, nNear k0 0 ((n : Int) - M) = K := ⟨_, rfl⟩
      rw [hK] at hlf ⊢
      clear hK HLF
      have hpk : (p : Int) ≤ cb := by omega
      have hp0 : (0 : Int) ≤ p := by omega
      have hpr : p ≤ kx + ky := by omega
      obtain ⟨Z, L1, hL1, hZ, hmk⟩ := make_full hi0 hz0 hz1 hz2
      have HLP := Lib.hid (show (zs.take p).length = p by rw [List.length_take]; have := HZL.out; omega)
      have HCR : Hid (∀ W v, Dk.at ⟨zs.take p, (p : Int), R, -1, false⟩ W g v → Calls Try.prog 15 #[.pointer (some ⟨g, 0, none⟩)] W (OwnAns 5 1 p (u8s (zs.take p)) W)) := fun W v h => by
        have h2 := read_on ⟨zs.take p, (p : Int), R, -1, false⟩ g v W h rfl (by show (zs.take p).length ≤ 1000000; rw [HLP.out]; omega)
        have e : (Dk.bs ⟨zs.take p, (p : Int), R, -1, false⟩).length = p := HLP.out
        rw [e] at h2
        exact h2
      have HCUT2 : Hid (∀ (W : World), W.ownsRow (g + 1) 5 1 (.slice Ab (kx + ky) cb) zs.length (u8s zs) → Sees W W.heap.size 1 Ab p (u8s (zs.take p))) := fun W h => by
        have h2 := h
        rw [HZL.out] at h2
        have h3 := own_cut h2 hpr
        rw [Nat.mul_one, u8s_take] at h3
        exact Sees.of_own h3
      have s2 : IntKind.i64.wrap (1073741824 + nWithin r0 0 9) = 1073741824 + nWithin r0 0 9 := IntWalk.i64_in _ (by omega)
      have HS2 := Lib.hid (show 20000 ≤ 1073741824 + nWithin r0 0 9 by omega)
      have HN5 : Hid (nNear (-5) 0 20000 = 0) := Lib.hid (by decide)
      have HZ := Lib.hid hZ; have HLL1 := Lib.hid hL1
      clear hL1 hZ
      have HG1 : Hid (∀ W : World, Below w.heap.size w W → Calls Try.prog 10 #[.pointer (some ⟨W.heap.size, 0, none⟩), .slice (some ⟨W.heap.size + 1 + 1, 0, none⟩) 1 1] (((W.alloc (.cells #[.slice none 0 0, .int .i64 0, .int .i64 0, .int .i64 (-1), .bool false] 44)).alloc (.cells #[.int .u8 1] 5)).alloc (.cells #[.slice (some ⟨W.heap.size + 1, 0, none⟩) 1 1] 27)) fun e w' => e = .returned (.int .i64 8) ∧ Below w.heap.size w w') := Lib.hid fun W h => full_one (r := 0) (l := [1]) (t := 5) (t' := 27) h h.size rfl (by omega) (by omega) (by decide) (by decide)
      have HG2 : Hid (∀ W : World, Below w.heap.size w W → Calls Try.prog 10 #[.pointer (some ⟨W.heap.size + 1, 0, none⟩), .slice (some ⟨W.heap.size + 1 + 1, 0, none⟩) 1 1] (((W.alloc (.cells #[.int .u8 1] 5)).alloc (.cells #[.slice none 0 0, .int .i64 0, .int .i64 0, .int .i64 (-1), .bool false] 44)).alloc (.cells #[.slice (some ⟨W.heap.size, 0, none⟩) 1 1] 27)) fun e w' => e = .returned (.int .i64 8) ∧ Below w.heap.size w w') := Lib.hid fun W h => full_two (r := 0) (l := [1]) (t := 5) (t' := 27) h h.size rfl (by omega) (by omega) (by decide) (by decide)
      have HG3 : Hid (∀ W : World, Below w.heap.size w W → Calls Try.prog 10 #[.pointer (some ⟨W.heap.size + 1 + 1, 0, none⟩), .slice (some ⟨W.heap.size + 1, 0, none⟩) 1 1] (((W.alloc (.cells #[.int .u8 1] 5)).alloc (.cells #[.slice (some ⟨W.heap.size, 0, none⟩) 1 1] 27)).alloc (.cells #[.slice none 0 0, .int .i64 0, .int .i64 0, .int .i64 (-1), .bool false] 44)) fun e w' => e = .returned (.int .i64 8) ∧ Below w.heap.size w w') := Lib.hid fun W h => full_three (r := 0) (l := [1]) (t := 5) (t' := 27) h h.size rfl (by omega) (by omega) (by decide) (by decide)
      have HF1 : Hid (∀ W : World, Below w.heap.size w W → Calls Try.prog 10 #[.pointer (some ⟨W.heap.size, 0, none⟩), .slice (some ⟨W.heap.size + 1 + 1, 0, none⟩) 1 1] (((W.alloc (.cells #[.slice none 0 0, .int .i64 0, .int .i64 20000, .int .i64 (-1), .bool false] 44)).alloc (.cells Z 5)).alloc (.cells #[.slice (some ⟨W.heap.size + 1, 0, none⟩) 20001 20001] 27)) fun e w' => e = .returned (.int .i64 8) ∧ Below w.heap.size w w') := Lib.hid fun W h => by
        have h2 := full_one (r := 20000) (l := L1) (t := 5) (t' := 27) h h.size HZ.out (by omega) (by omega) (by rw [HLL1.out]; decide) (by rw [HLL1.out]; decide)
        rw [HLL1.out] at h2
        exact h2
      have HF2 : Hid (∀ W : World, Below w.heap.size w W → Calls Try.prog 10 #[.pointer (some ⟨W.heap.size + 1, 0, none⟩), .slice (some ⟨W.heap.size + 1 + 1, 0, none⟩) 1 1] (((W.alloc (.cells Z 5)).alloc (.cells #[.slice none 0 0, .int .i64 0, .int .i64 20000, .int .i64 (-1), .bool false] 44)).alloc (.cells #[.slice (some ⟨W.heap.size, 0, none⟩) 20001 20001] 27)) fun e w' => e = .returned (.int .i64 8) ∧ Below w.heap.size w w') := Lib.hid fun W h => by
        have h2 := full_two (r := 20000) (l := L1) (t := 5) (t' := 27) h h.size HZ.out (by omega) (by omega) (by rw [HLL1.out]; decide) (by rw [HLL1.out]; decide)
        rw [HLL1.out] at h2
        exact h2
      have HF3 : Hid (∀ W : World, Below w.heap.size w W → Calls Try.prog 10 #[.pointer (some ⟨W.heap.size + 1 + 1, 0, none⟩), .slice (some ⟨W.heap.size + 1, 0, none⟩) 1 1] (((W.alloc (.cells Z 5)).alloc (.cells #[.slice (some ⟨W.heap.size, 0, none⟩) 20001 20001] 27)).alloc (.cells #[.slice none 0 0, .int .i64 0, .int .i64 20000, .int .i64 (-1), .bool false] 44)) fun e w' => e = .returned (.int .i64 8) ∧ Below w.heap.size w w') := Lib.hid fun W h => by
        have h2 := full_three (r := 20000) (l := L1) (t := 5) (t' := 27) h h.size HZ.out (by omega) (by omega) (by rw [HLL1.out]; decide) (by rw [HLL1.out]; decide)
        rw [HLL1.out] at h2
        exact h2
      go_wp2_with fail
      clear hlf
      go_region_held3 (fun _ => True) (exact trivial) (first
        | (go_at_call 15; refine (HCR.out _ _ HA20.out.drew).mono ?_; rintro e w21 ⟨A21, c21, rfl, hown21, hbel21, h211, h212⟩; have HA21 := Lib.hid (HA20.out.drew.below hbel21); have HALL21 := Lib.hid (HCUT2.out _ (own_below HALL.out.drew hbel21 (Nat.le_refl _))); have HB21 := Lib.hid (HB20.out.drew.trans (hbel21.mono HB20.out.size)); have HR21 := Lib.hid (Sees.of_own hown21); clear hown21 hbel21 HA20 HALL HB20)
        | (go_at_call 14; refine (same_u8 A21 Ab p c21 p cb _ _ (zs.take p) (zs.take p) _ HR21.out HALL21.out (by omega) (by omega)).mono ?_; rintro e w22 ⟨rfl, q, hq⟩; have HA22 := Lib.hid (show Dk.at ⟨zs.take p, (p : Int), R, -1, false⟩ w22 g v20 by rw [hq]; exact HA21.out.drewN q); have HB22 := Lib.hid (show Below w.heap.size w w22 by rw [hq]; exact below_drewN2 HB21.out q); clear hq HA21 HALL21 HB21 HR21; rw [decide_eq_true (rfl : zs.take p = zs.take p)])
        | (go_at_call 16; refine (HF20.out _ _ HA22.out).mono ?_; rintro e w' ⟨rfl, rfl⟩)
        | (go_at_call 8; refine (new_of (-5) 0 _ HN5.out).mono ?_; rintro e w23 ⟨rfl, rfl⟩)
        | (go_at_call 10; clear HN5; (with_reducible refine (HG1.out _ HB22.out).mono ?_); rintro e w24 ⟨rfl, hb24⟩; have HB24 := Lib.hid hb24; clear hb24 HB22)
        | (go_at_call 10; clear HN5; (with_reducible refine (HG2.out _ HB22.out).mono ?_); rintro e w24 ⟨rfl, hb24⟩; have HB24 := Lib.hid hb24; clear hb24 HB22)
        | (go_at_call 10; clear HN5; (with_reducible refine (HG3.out _ HB22.out).mono ?_); rintro e w24 ⟨rfl, hb24⟩; have HB24 := Lib.hid hb24; clear hb24 HB22)
        | (go_at_call 20; refine (within_any r0 0 9 _ WR.out (by omega) (by omega) (by omega)).mono ?_; rintro e w' ⟨rfl, rfl⟩)
        | (go_at_call 8; refine (new_of _ 20000 _ (near_big HS2.out)).mono ?_; rintro e w25 ⟨rfl, rfl⟩)
        | (go_at_call 10; (with_reducible refine (HF1.out _ HB24.out).mono ?_); rintro e w26 ⟨rfl, hb26⟩; have HB26 := Lib.hid hb26; clear hb26 HB24)
        | (go_at_call 10; (with_reducible refine (HF2.out _ HB24.out).mono ?_); rintro e w26 ⟨rfl, hb26⟩; have HB26 := Lib.hid hb26; clear hb26 HB24)
        | (go_at_call 10; (with_reducible refine (HF3.out _ HB24.out).mono ?_); rintro e w26 ⟨rfl, hb26⟩; have HB26 := Lib.hid hb26; clear hb26 HB24)
        | (go_at_call 3; refine (disk_runs _).mono ?_; rintro e w27 ⟨rfl, hb27⟩; have HB27 := Lib.hid (HB26.out.trans (hb27.mono HB26.out.size)); clear hb27 HB26))
      all_goals
        go_wp2_with fail
        go_ret
        exact ⟨rfl, HB27.out⟩
end Go.Proofs.Ytccajejeanbcmaa
