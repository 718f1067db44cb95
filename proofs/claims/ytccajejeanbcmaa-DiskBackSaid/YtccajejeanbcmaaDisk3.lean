/- Package disk: Boot. -/
import Derived.Test.YtccajejeanbcmaaDisk2
namespace Go.Proofs.Ytccajejeanbcmaa
open Go.ChangeShapes Go.WideShapes Go.ChangeAt Go.RowKit
set_option linter.unusedVariables false
set_option maxRecDepth 100000
/-- How many bytes stay. -/
def Dk.left (d : Dk) (k : Int) : Int := d.firm + nNear k 0 (d.bs.length - d.firm)
def Dk.boot (d : Dk) (k : Int) : Dk := ⟨d.bs.take (d.left k).toNat, d.left k, d.room, -1, false⟩
theorem Dk.left_in {d : Dk} (hd : d.ok) (k : Int) : d.firm ≤ d.left k ∧ d.left k ≤ d.bs.length := by
  have h1 := hd.firm
  unfold Dk.left nNear
  split
  · omega
  · split <;> omega
set_option maxHeartbeats 1000000 in
theorem boot_any (d : Dk) (g : Nat) (v : Value) (k : Int) (w : World) (h : d.at w g v) (hd : d.ok) :
    Calls Try.prog 13 #[.pointer (some ⟨g, 0, none⟩), .int .i64 k] w (DkAns (d.boot k) g v w (.tuple #[])) := by
  obtain ⟨A, c, rfl, hnc, hcm⟩ := own_slice h.2
  obtain ⟨h0, h1, h2, h3, h4, hfz, hg⟩ := h.cells
  obtain ⟨hl1, hl2⟩ := Dk.left_in hd k
  have hf0 := hd.firm0
  have hf1 := hd.firm
  have hsz := hd.size
  have hrm := hd.room
  have H := Lib.hid h; clear h hd
  have hadd : d.firm + nNear k 0 (d.bs.length - d.firm) = d.left k := rfl
  obtain ⟨n, hn⟩ := Int.eq_ofNat_of_zero_le (show 0 ≤ d.left k by omega)
  have he : d.boot k = ⟨d.bs.take n, n, d.room, -1, false⟩ := by unfold Dk.boot; rw [hn]; rfl
  rw [he]
  rw [hn] at hl1 hl2 hadd
  have HADD := Lib.hid hadd
  clear he hn hadd
  have hnk : n ≤ d.bs.length := by omega
  generalize hq : nNear k 0 (d.bs.length - d.firm) = q at *
  have HQ := Lib.hid hq; clear hq
  have hqn : d.firm + q = n := HADD.out
  have hq1 : 0 ≤ q := by omega
  have hq2 : q ≤ 20000 := by omega
  have hqeq : q = n - d.firm := by omega
  subst hqeq
  clear hqn
  have hnear : ∀ w', Calls Try.prog 21 #[.int .i64 k, .int .i64 0, .int .i64 (d.bs.length - d.firm)] w' fun e w'' => e = .returned (.int .i64 (n - d.firm)) ∧ w' = w'' := fun w' => by
    have := nearest_any k 0 (d.bs.length - d.firm) w' (by omega)
    rwa [HQ.out] at this
  have HN := Lib.hid hnear; clear hnear
  go_enter Try.func13, Try.ntmps13
  have s1 : IntKind.i64.wrap ((d.bs.length : Int) - d.firm) = d.bs.length - d.firm := IntWalk.i64_in _ (by omega)
  have s2 : IntKind.i64.wrap (d.firm + ((n : Int) - d.firm)) = n := by rw [IntWalk.i64_in _ (by omega)]; omega
  go_wp2_with fail
  go_still_tail 18, (by kernel_rfl)
  still_call ((HN.out _).mono fun e w' h => ⟨h.1, h.2.symm⟩)
  repeat still_step
  refine wpStill_nil ?_
  change wpList _ _ _ _ _ w.drew
  go_wp2_with fail
  refine (keep_any d g _ n _ H.out.drew hnk).mono ?_; rintro e w' ⟨v', rfl, hat, ht⟩
  have hlen : (d.keep n).bs.length = n := by unfold Dk.keep; simp; omega
  have hat2 := ((hat.firm n).fuse (-1)).off false
  have ht2 := ((ht.setCell 1 (.int .i64 n)).setCell 3 (.int .i64 (-1))).setCell 4 (.bool false)
  have HA := Lib.hid hat2; have HT := Lib.hid ht2; clear hat2 ht2
  obtain ⟨A2, c2, rfl, hnc2, hcm2⟩ := own_slice hat.2
  obtain ⟨k0, k1, k2, k3, k4, kfz, kg⟩ := hat.cells
  rw [hlen] at k0
  clear hat ht h0 h1 h2 h3 h4 hfz hg hnc2
  clear hlen
  go_wp2_with fail
  go_end0
  exact dkAns rfl HA.out ((Turned.drew (Turned.refl _ _ _)).trans' HT.out)
theorem Dk.boot_ok {d : Dk} (hd : d.ok) (k : Int) : (d.boot k).ok := by
  have h1 := Dk.left_in hd k
  have h2 := hd.firm0
  have h3 := hd.size
  have h4 := hd.room
  have hl : ((d.bs.take (d.left k).toNat).length : Int) = d.left k := by rw [List.length_take]; omega
  exact ⟨by show 0 ≤ d.left k; omega, by show d.left k ≤ ((d.bs.take (d.left k).toNat).length : Int); omega, by show ((d.bs.take (d.left k).toNat).length : Int) ≤ d.room; omega, h4, by show (-1 : Int) ≤ -1; omega, by show (-1 : Int) ≤ 9223372036854775807; omega⟩
theorem turned_below {B g : Nat} {v : Value} {d : Dk} {w0 w w' : World} (hb : Below B w0 w) (hat : d.at w g v) (hB : B ≤ g) (ht : Turned g v w w') : Below B w0 w' :=
  hb.trans (ht.below hB (fun k hk => by have := hat.own k hk; omega) (by have := hat.1.lt; omega))
theorem new_at {w : World} {r : Int} : Dk.at ⟨[], 0, r, -1, false⟩ (w.alloc (.cells #[.slice none 0 0, .int .i64 0, .int .i64 r, .int .i64 (-1), .bool false] 44)) w.heap.size (.slice none 0 0) :=
  ⟨Blk.mk (heap_alloc_new w _), by simpa [u8s] using World.ownsRow_nil _ _ _ _⟩
theorem below_drewN2 {B : Nat} {a w : World} (h : Below B a w) (n : Nat) : Below B a (w.drewN n) := ⟨h.os, h.tape, h.output, h.size, h.block⟩
/-- One slice as a row of parts. -/
theorem parts_one {w : World} {A : Option Addr} {n c : Nat} {l : List Int} {t : TypeId} {B : Nat} (h : Sees w B 1 A n (u8s l)) (hB : B ≤ w.heap.size) (hc : n ≤ c) (hm : c ≤ 9223372036854775807) :
    PartsU8 (w.alloc (.cells #[.slice A n c] t)) (w.alloc (.cells #[.slice A n c] t)).heap.size (some ⟨w.heap.size, 0, none⟩) 1 [l] := by
  have hk : Blk (w.alloc (.cells #[.slice A n c] t)) w.heap.size t [.slice A n c] := Blk.mk (heap_alloc_new w _)
  refine ⟨rfl, fun j l' hj => ?_⟩
  match j, hj with
  | 0, hj =>
    injection hj with hj; subst hj
    refine ⟨_, A, n, c, rfl, by simp, ?_, (h.alloc hB _).more (by simp; omega), h.u8_len.symm, hc, hm⟩
    rw [add_zero']; exact hk.cell 0
theorem parts_none (w : World) (B : Nat) (P : Option Addr) : PartsU8 w B P 0 [] := ⟨rfl, fun j l h => by simp at h⟩
/-- Bytes that are written out. -/
theorem lit_sees {w : World} {t : TypeId} (l : List Int) : Sees (w.alloc (.cells (u8s l).toArray t)) (w.alloc (.cells (u8s l).toArray t)).heap.size 1 (some ⟨w.heap.size, 0, none⟩) l.length (u8s l) := by
  have hk : Blk (w.alloc (.cells (u8s l).toArray t)) w.heap.size t (u8s l) := Blk.mk (heap_alloc_new w _)
  exact hk.sees (by rw [u8s_length, Nat.mul_one]) (List.prefix_refl _)
/-- Two rows of two bytes as parts. -/
theorem parts_lit {w : World} {a b c d : Int} {t t' : TypeId} :
    PartsU8 (((w.alloc (.cells #[.int .u8 a, .int .u8 b] t)).alloc (.cells #[.int .u8 c, .int .u8 d] t)).alloc (.cells #[.slice (some ⟨w.heap.size, 0, none⟩) 2 2, .slice (some ⟨w.heap.size + 1, 0, none⟩) 2 2] t'))
      (((w.alloc (.cells #[.int .u8 a, .int .u8 b] t)).alloc (.cells #[.int .u8 c, .int .u8 d] t)).alloc (.cells #[.slice (some ⟨w.heap.size, 0, none⟩) 2 2, .slice (some ⟨w.heap.size + 1, 0, none⟩) 2 2] t')).heap.size (some ⟨w.heap.size + 1 + 1, 0, none⟩) 2 [[a, b], [c, d]] := by
  have k0 : Blk (w.alloc (.cells #[.int .u8 a, .int .u8 b] t)) w.heap.size t [.int .u8 a, .int .u8 b] := Blk.mk (heap_alloc_new w _)
  have k1 : Blk ((w.alloc (.cells #[.int .u8 a, .int .u8 b] t)).alloc (.cells #[.int .u8 c, .int .u8 d] t)) (w.heap.size + 1) t [.int .u8 c, .int .u8 d] := Blk.mk (by simpa using heap_alloc_new (w.alloc (.cells #[.int .u8 a, .int .u8 b] t)) (.cells #[.int .u8 c, .int .u8 d] t))
  have k2 := (k0.alloc (.cells #[.int .u8 c, .int .u8 d] t)).alloc (.cells #[.slice (some ⟨w.heap.size, 0, none⟩) 2 2, .slice (some ⟨w.heap.size + 1, 0, none⟩) 2 2] t')
  have k3 := k1.alloc (.cells #[.slice (some ⟨w.heap.size, 0, none⟩) 2 2, .slice (some ⟨w.heap.size + 1, 0, none⟩) 2 2] t')
  have k4 : Blk (((w.alloc (.cells #[.int .u8 a, .int .u8 b] t)).alloc (.cells #[.int .u8 c, .int .u8 d] t)).alloc (.cells #[.slice (some ⟨w.heap.size, 0, none⟩) 2 2, .slice (some ⟨w.heap.size + 1, 0, none⟩) 2 2] t')) (w.heap.size + 1 + 1) t' [.slice (some ⟨w.heap.size, 0, none⟩) 2 2, .slice (some ⟨w.heap.size + 1, 0, none⟩) 2 2] :=
    Blk.mk (by simpa using heap_alloc_new ((w.alloc (.cells #[.int .u8 a, .int .u8 b] t)).alloc (.cells #[.int .u8 c, .int .u8 d] t)) (.cells #[.slice (some ⟨w.heap.size, 0, none⟩) 2 2, .slice (some ⟨w.heap.size + 1, 0, none⟩) 2 2] t'))
  refine ⟨rfl, fun j l hj => ?_⟩
  match j, hj with
  | 0, hj =>
    injection hj with hj; subst hj
    refine ⟨_, some ⟨w.heap.size, 0, none⟩, 2, 2, rfl, by simp, ?_, k2.sees rfl (List.prefix_refl _), rfl, Nat.le_refl _, by omega⟩
    rw [add_zero']; exact k4.cell 0
  | 1, hj =>
    injection hj with hj; subst hj
    refine ⟨_, some ⟨w.heap.size + 1, 0, none⟩, 2, 2, rfl, by simp, ?_, k3.sees rfl (List.prefix_refl _), rfl, Nat.le_refl _, by omega⟩
    exact k4.cell 1
set_option maxHeartbeats 1000000 in
theorem disk_runs (w : World) : Calls Try.prog 3 #[] w fun e w' => e = .returned (.bool true) ∧ Below w.heap.size w w' := by
  go_enter Try.func3, Try.ntmps3
  go_wp2_with fail
  refine (new_any 99 w).mono ?_; rintro e w' ⟨rfl, rfl⟩
  have hnn : nNear 99 0 20000 = 99 := by decide
  rw [hnn]
  have HA0 := Lib.hid (new_at (w := w) (r := 99))
  have HB0 := Lib.hid ((Below.refl w.heap.size w).alloc (Nat.le_refl _) (.cells #[.slice none 0 0, .int .i64 0, .int .i64 99, .int .i64 (-1), .bool false] 44))
  clear hnn
  generalize w.alloc (.cells #[.slice none 0 0, .int .i64 0, .int .i64 99, .int .i64 (-1), .bool false] 44) = w0 at *
  generalize hg : w.heap.size = g at *
  have HG := Lib.hid hg; clear hg
  go_wp2_with fail
  refine (arm_any _ g _ 3 w0 HA0.out (by omega)).mono ?_; rintro e w' ⟨rfl, rfl⟩
  have HA1 := Lib.hid (HA0.out.fuse 3)
  have HB1 := Lib.hid (HB0.out.setCell (p := ⟨g, 3, none⟩) (Nat.le_refl _) (.int .i64 3))
  clear HA0 HB0
  generalize w0.setCell ⟨g, 3, none⟩ (.int .i64 3) = w1 at *
  have hg1 := HA1.out.1.lt
  have HP := Lib.hid (parts_lit (w := w1) (a := 1) (b := 2) (c := 3) (d := 4) (t := 5) (t' := 27))
  have hb2 : Below w1.heap.size w1 (((w1.alloc (.cells #[.int .u8 1, .int .u8 2] 5)).alloc (.cells #[.int .u8 3, .int .u8 4] 5)).alloc (.cells #[.slice (some ⟨w1.heap.size, 0, none⟩) 2 2, .slice (some ⟨w1.heap.size + 1, 0, none⟩) 2 2] 27)) :=
    (((Below.refl _ _).alloc (Nat.le_refl _) _).alloc (by simp) _).alloc (by simp; omega) _
  have HA2 := Lib.hid (HA1.out.below hb2); have HB2 := Lib.hid (HB1.out.trans (hb2.mono (Nat.le_of_lt hg1)))
  have ok1 : Dk.ok ⟨[], 0, 99, 3, false⟩ := ⟨by decide, by decide, by decide, by decide, by decide, by decide⟩
  have HOK := Lib.hid ok1
  clear hb2 ok1 HA1 HB1
  go_wp2_with fail
  refine (write_any ⟨[], 0, 99, 3, false⟩ g _ _ 2 2 [[1, 2], [3, 4]] _ HA2.out HOK.out HP.out (by omega) (by decide)).mono ?_; rintro e w3 ⟨v3, rfl, hat3, ht3⟩
  have hw : Dk.write ⟨[], 0, 99, 3, false⟩ ([[1, 2], [3, 4]] : List (List Int)).flatten = (9, ⟨[1, 2, 3], 0, 99, 0, true⟩) := rfl
  rw [hw] at hat3
  rw [hw]
  have HA3 := Lib.hid hat3
  have HB3 := Lib.hid (turned_below HB2.out HA2.out (Nat.le_refl _) ht3)
  have hg3 := hat3.1.lt
  clear hat3 ht3 hw HA2 HB2 HP HOK hg1
  go_wp2_with fail
  refine (size_any _ g v3 w3 HA3.out).mono ?_; rintro e w' ⟨rfl, rfl⟩
  go_wp2_with fail
  refine (off_any _ g v3 w3 HA3.out).mono ?_; rintro e w' ⟨rfl, rfl⟩
  go_wp2_with fail
  refine (boot_any _ g v3 2 w3 HA3.out ⟨by decide, by decide, by decide, by decide, by decide, by decide⟩).mono ?_; rintro e w4 ⟨v4, rfl, hat4, ht4⟩
  have hbo : Dk.boot ⟨[1, 2, 3], 0, 99, 0, true⟩ 2 = ⟨[1, 2], 2, 99, -1, false⟩ := rfl
  rw [hbo] at hat4
  have HA4 := Lib.hid hat4
  have HB4 := Lib.hid (turned_below HB3.out HA3.out (Nat.le_refl _) ht4)
  have hg4 := hat4.1.lt
  clear hat4 ht4 hbo HA3 HB3
  go_wp2_with fail
  refine (read_on _ g v4 w4 HA4.out rfl (by decide)).mono ?_; rintro e w5 ⟨A5, c5, rfl, hown5, hbel5, hc5, hc6⟩
  have hs5 := hbel5.size
  have HS5 := Lib.hid (Sees.of_own hown5)
  have HA5 := Lib.hid (HA4.out.below hbel5)
  have HB5 := Lib.hid (HB4.out.trans (hbel5.mono (Nat.le_of_lt hg4)))
  clear hown5 hbel5 HA4 HB4
  have hb6 : Below w5.heap.size w5 (w5.alloc (.cells #[.int .u8 1, .int .u8 2] 5)) := (Below.refl _ _).alloc (Nat.le_refl _) _
  have HS6 := Lib.hid (lit_sees (w := w5) (t := 5) [1, 2])
  have HS7 := Lib.hid (HS5.out.below hb6)
  have HA6 := Lib.hid (HA5.out.below hb6)
  have HB6 := Lib.hid (HB5.out.trans (hb6.mono (by omega)))
  clear hb6 HS5 HA5 HB5
  go_wp2_with fail
  refine (same_u8 A5 _ 2 c5 2 2 _ _ [1, 2] [1, 2] _ HS7.out HS6.out (by omega) (by omega)).mono ?_; rintro e w6 ⟨rfl, m, rfl⟩
  have hd : decide (([1, 2] : List Int) = [1, 2]) = true := rfl
  rw [hd]
  clear hd
  go_wp2_with fail
  refine (firm_any _ g v4 _ (HA6.out.drewN m)).mono ?_; rintro e w' ⟨rfl, rfl⟩
  go_wp2_with fail
  go_ret
  rw [HG.out]
  exact ⟨rfl, below_drewN2 HB6.out m⟩
end Go.Proofs.Ytccajejeanbcmaa
