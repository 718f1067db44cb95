/- The walk of DiskFuse, out of the contracts. -/
import Derived.Test.YtccajejeanbcmaaDisk3
import Derived.Test.YtccajejeanbcmaaRowsU8
import Derived.Deep.CutBlock
namespace Go.Proofs.Ytccajejeanbcmaa
open Go.ChangeShapes Go.WideShapes Go.ChangeAt Go.RowKit
set_option linter.unusedVariables false
set_option maxRecDepth 100000
section
variable {d : Dk} {xs : List Int}
theorem write_free (h1 : d.off = false) (h2 : (xs.length : Int) ≤ d.room - d.bs.length) (h3 : d.fuse = -1) : d.write xs = (0, ⟨d.bs ++ xs, d.firm, d.room, d.fuse, d.off⟩) := by
  unfold Dk.write; rw [h1, if_neg (by simp), if_neg (by omega), if_pos h3]
theorem write_burn (h1 : d.off = false) (h2 : (xs.length : Int) ≤ d.room - d.bs.length) (h3 : d.fuse ≠ -1) (h4 : (xs.length : Int) ≤ d.fuse) : d.write xs = (0, ⟨d.bs ++ xs, d.firm, d.room, d.fuse - xs.length, d.off⟩) := by
  unfold Dk.write; rw [h1, if_neg (by simp), if_neg (by omega), if_neg h3, if_neg (by omega)]
theorem write_cut (h1 : d.off = false) (h2 : (xs.length : Int) ≤ d.room - d.bs.length) (h3 : d.fuse ≠ -1) (h4 : d.fuse < xs.length) : d.write xs = (9, ⟨d.bs ++ xs.take d.fuse.toNat, d.firm, d.room, 0, true⟩) := by
  unfold Dk.write; rw [h1, if_neg (by simp), if_neg (by omega), if_neg h3, if_pos h4]
theorem write_full (h1 : d.off = false) (h2 : d.room - d.bs.length < xs.length) : d.write xs = (8, d) := by
  unfold Dk.write; rw [h1, if_neg (by simp), if_pos h2]
theorem sync_free (h1 : d.off = false) (h3 : d.fuse = -1) : d.sync = (0, ⟨d.bs, d.bs.length, d.room, d.fuse, d.off⟩) := by
  unfold Dk.sync; rw [h1, if_neg (by simp), if_pos h3]
theorem sync_over (h1 : d.off = false) (h3 : d.fuse ≠ -1) (h4 : d.fuse < 1) : d.sync = (9, ⟨d.bs, d.firm, d.room, 0, true⟩) := by
  unfold Dk.sync; rw [h1, if_neg (by simp), if_neg h3, if_pos h4]
theorem sync_ok (h1 : d.off = false) (h3 : d.fuse ≠ -1) (h4 : ¬ d.fuse < 1) : d.sync = (0, ⟨d.bs, d.bs.length, d.room, d.fuse - 1, d.off⟩) := by
  unfold Dk.sync; rw [h1, if_neg (by simp), if_neg h3, if_neg h4]
theorem back_free {n : Nat} (h1 : d.off = false) (h2 : n ≤ d.bs.length) (h3 : d.fuse = -1) : d.back n = (0, d.keep n) := by
  unfold Dk.back; rw [h1, if_neg (by simp), if_neg (by omega), if_pos h3]; rfl
theorem boot_all (hd : d.ok) (h : (d.bs.length : Int) ≤ 20000) : d.boot 20000 = ⟨d.bs, d.bs.length, d.room, -1, false⟩ := by
  have h1 := hd.firm0
  have h2 := hd.firm
  have hl : d.left 20000 = d.bs.length := by
    unfold Dk.left nNear
    rw [if_neg (by omega)]
    split <;> omega
  unfold Dk.boot
  rw [hl, Int.toNat_natCast, List.take_length]
end
/-- A byte as parts. -/
theorem parts_byte {w : World} {b : Int} {t t' : TypeId} :
    PartsU8 ((w.alloc (.cells #[.int .u8 b] t)).alloc (.cells #[.slice (some ⟨w.heap.size, 0, none⟩) 1 1] t')) ((w.alloc (.cells #[.int .u8 b] t)).alloc (.cells #[.slice (some ⟨w.heap.size, 0, none⟩) 1 1] t')).heap.size (some ⟨w.heap.size + 1, 0, none⟩) 1 [[b]] := by
  have h : Sees (w.alloc (.cells #[.int .u8 b] t)) (w.alloc (.cells #[.int .u8 b] t)).heap.size 1 (some ⟨w.heap.size, 0, none⟩) 1 (u8s [b]) := lit_sees (w := w) (t := t) [b]
  have := parts_one (t := t') (c := 1) h (Nat.le_refl _) (Nat.le_refl _) (by decide)
  rwa [show (w.alloc (.cells #[.int .u8 b] t)).heap.size = w.heap.size + 1 by simp] at this
/-- What the loop leaves. -/
def FuseCut (g : Nat) (w : World) (sz : Value) (wx : World) : Prop :=
  ∃ (bs : List Int) (firm fu : Int) (off : Bool) (v : Value), Dk.at ⟨bs, firm, 20000, fu, off⟩ wx g v ∧ Dk.ok ⟨bs, firm, 20000, fu, off⟩ ∧ sz = .int .i64 bs.length ∧ bs.length ≤ 200 ∧ Below w.heap.size w wx
set_option maxHeartbeats 4000000 in
theorem disk_fuse (P : Option Addr) (len cap : Nat) (f0 : Int) (zs : List (List Int)) (w : World) (hp : PartsU8 w w.heap.size P len zs) (hlc : len ≤ cap) (hcm : cap ≤ 9223372036854775807) (wf : I64 f0) :
    Calls Try.prog 7 #[.slice P len cap, .int .i64 f0] w fun e w' => e = .returned (.bool true) ∧ Below w.heap.size w w' := by
  have HP := Lib.hid hp; clear hp
  have HPL := Lib.hid HP.out.1
  have WF := Lib.hid wf; clear wf
  obtain ⟨hf1, hf2⟩ := nWithin_in f0 (lo := 0) (hi := 80) (by omega)
  go_enter Try.func7, Try.ntmps7
  go_wp2_with fail
  refine (new_any 20000 w).mono ?_; rintro e w' ⟨rfl, rfl⟩
  have hnn : nNear 20000 0 20000 = 20000 := by decide
  rw [hnn]
  have HA0 := Lib.hid (new_at (w := w) (r := 20000))
  have HB0 := Lib.hid ((Below.refl w.heap.size w).alloc (Nat.le_refl _) (.cells #[.slice none 0 0, .int .i64 0, .int .i64 20000, .int .i64 (-1), .bool false] 44))
  clear hnn
  generalize w.alloc (.cells #[.slice none 0 0, .int .i64 0, .int .i64 20000, .int .i64 (-1), .bool false] 44) = w0 at *
  obtain ⟨g, hg⟩ : ∃ g, w.heap.size = g := ⟨_, rfl⟩
  have HG := Lib.hid hg
  rw [hg] at HA0
  rw [show (⟨w.heap.size, 0, none⟩ : Addr) = ⟨g, 0, none⟩ by rw [hg]]
  clear hg
  go_wp2_with fail
  refine (within_any f0 0 80 _ WF.out (by omega) (by omega) (by omega)).mono ?_; rintro e w' ⟨rfl, rfl⟩
  generalize nWithin f0 0 80 = f at *
  clear WF
  go_wp2_with fail
  refine (arm_any _ g _ f w0 HA0.out (by omega)).mono ?_; rintro e w' ⟨rfl, rfl⟩
  have HA1 := Lib.hid (HA0.out.fuse f)
  have HB1 := Lib.hid (HB0.out.setCell (p := ⟨g, 3, none⟩) (Nat.le_of_eq HG.out) (.int .i64 f))
  clear HA0 HB0
  generalize w0.setCell ⟨g, 3, none⟩ (.int .i64 f) = w1 at *
  go_upto_block 0 with fail
  go_cut [6, 7, 8, 9, 10, 11] from 20 to 87 (fun lf sz x b go n wx => FuseCut g w sz wx)
  case first =>
    go_wp2_with fail
    go_loopw [6, 7, 8] (fun lf sz x wr => ∃ (i : Nat) (bs : List Int) (firm left : Int) (v : Value), i ≤ len ∧ i ≤ 12 ∧ x = .int .i64 i ∧ sz = .int .i64 bs.length ∧ lf = .int .i64 left ∧ bs.length ≤ 15 * i ∧ 0 ≤ left ∧ left ≤ 80 ∧ 0 ≤ firm ∧ firm ≤ bs.length ∧ Dk.at ⟨bs, firm, 20000, left, false⟩ wr g v ∧ Below w.heap.size w wr) (fun _ _ x _ => len - (intOf x).toNat)
    case atStart => exact ⟨0, [], 0, f, _, Nat.zero_le _, Nat.zero_le _, rfl, rfl, rfl, by simp, by omega, by omega, by omega, by simp, HA1.out, HB1.out⟩
    case round =>
      obtain ⟨i, bs, firm, left, v, hi, hi12, rfl, rfl, rfl, hbl, hlf0, hlf1, hfm0, hfm1, hat, hbel⟩ := hrel
      have HAT := Lib.hid hat; have HBT := Lib.hid hbel; clear hat hbel
      have HOK : Hid (Dk.ok ⟨bs, firm, 20000, left, false⟩) := ⟨hfm0, hfm1, by show (bs.length : Int) ≤ 20000; omega, by show (20000 : Int) ≤ 20000; omega, by show (-1 : Int) ≤ left; omega, by show left ≤ 9223372036854775807; omega⟩
      by_cases hlt : i < len ∧ i < 12
      · obtain ⟨hlt, hlt12⟩ := hlt
        obtain ⟨l, hl⟩ : ∃ l, zs[i]? = some l := ⟨_, List.getElem?_eq_getElem (by have := HPL.out; omega)⟩
        obtain ⟨ad, A, n, c, rfl, h2, h3, h4, h5, h6, h7⟩ := (HP.out.below HBT.out).2 i l hl
        have HS := Lib.hid h4; have H5 := Lib.hid h5; clear h4 hl h5
        have h3d : wr.drew.cell? (ad.add i) = some (.slice A n c) := h3
        by_cases h15 : n ≤ 15
        · have hmin : ¬ (15 : Int) < n := by omega
          have hsl : (l.take n).length = n := by rw [List.length_take, ← H5.out]; omega
          go_wp2_with fail
          go_region
          all_goals
            have hsx : Sees wr w.heap.size 1 A n (u8s (l.take n)) := by
              have := HS.out.take (k := n) (by omega)
              rwa [Nat.mul_one, u8s_take] at this
            have HAW := Lib.hid HAT.out.drew
            have HBW := Lib.hid HBT.out.drew
            have hsw : Sees wr.drew w.heap.size 1 A n (u8s (l.take n)) := ⟨hsx.len, hsx.at_⟩
            have hszw : w.heap.size ≤ wr.drew.heap.size := HBT.out.size
            generalize wr.drew = W at *
            have HP1 := Lib.hid (parts_one (t := 27) (c := c) hsw hszw (by omega) (by omega))
            have hb1 : Below W.heap.size W (W.alloc (.cells #[.slice A n c] 27)) := (Below.refl _ _).alloc (Nat.le_refl _) _
            have HA1 := Lib.hid (HAW.out.below hb1)
            have HB1 := Lib.hid (HBW.out.trans (hb1.mono hszw))
            have HSL := Lib.hid hsl
            have HXS := Lib.hid (show ([l.take n] : List (List Int)).flatten = l.take n by simp)
            have HOKW := HOK
            clear hsx hsw hb1 HAW HBW HAT HBT HS hsl
            have hnf : ((-1 : Int) == left) = false := by simp; omega
            by_cases hgo : (n : Int) ≤ left
            · have hw : Dk.write ⟨bs, firm, 20000, left, false⟩ ([l.take n] : List (List Int)).flatten = (0, ⟨bs ++ l.take n, firm, 20000, left - n, false⟩) := by
                rw [HXS.out]
                rw [write_burn rfl (by rw [HSL.out]; show (n : Int) ≤ 20000 - (bs.length : Int); omega) (by show left ≠ -1; omega) (by rw [HSL.out]; show (n : Int) ≤ left; omega), HSL.out]
                try rfl
              have HW := Lib.hid hw
              have hl2 : (bs ++ l.take n).length = bs.length + n := by rw [List.length_append, HSL.out]
              clear hw
              go_wp2_with fail
              refine (write_any ⟨bs, firm, 20000, left, false⟩ g v _ 1 1 [l.take n] _ HA1.out HOKW.out HP1.out (by omega) (by rw [HXS.out, HSL.out]; omega)).mono ?_; rintro e w2 ⟨v2, rfl, hat2, ht2⟩
              rw [HW.out] at hat2
              rw [HW.out]
              have HB2 := Lib.hid (turned_below HB1.out HA1.out (Nat.le_of_eq HG.out) ht2)
              have HA2 := Lib.hid hat2
              clear hat2 ht2 HA1 HB1 HP1 HW HXS HSL HOK HOKW
              generalize bs ++ l.take n = bs' at *
              have hsz : ((bs'.length : Int) != (bs.length : Int) + n) = false := by rw [hl2]; simp
              have HL2 := Lib.hid hl2
              have hbl : (bs'.length : Int) = bs.length + n := by omega
              have HBL := Lib.hid hbl
              clear hl2
              have HOK2 : Hid (Dk.ok ⟨bs', firm, 20000, left - n, false⟩) := ⟨by show (0 : Int) ≤ firm; omega, by show firm ≤ (bs'.length : Int); omega, by show (bs'.length : Int) ≤ 20000; omega, by show (20000 : Int) ≤ 20000; omega, by show (-1 : Int) ≤ left - n; omega, by show left - n ≤ 9223372036854775807; omega⟩
              have hbb : bs'.length ≤ 15 * i + 15 := by omega
              clear hbl
              go_wp2_with fail
              refine (size_any _ g v2 w2 HA2.out).mono ?_; rintro e w' ⟨rfl, rfl⟩
              go_wp2_with fail
              refine (off_any _ g v2 w2 HA2.out).mono ?_; rintro e w' ⟨rfl, rfl⟩
              by_cases hz : left - n < 1
              · have hs : Dk.sync ⟨bs', firm, 20000, left - n, false⟩ = (9, ⟨bs', firm, 20000, 0, true⟩) := sync_over rfl (by show left - n ≠ -1; omega) hz
                have HSY := Lib.hid hs
                have hlz : (left - n == 0) = true := by simp; omega
                have hlp : ¬ ((n : Int) < left) := by omega
                clear hs
                go_wp2_with fail
                refine (sync_any ⟨bs', firm, 20000, left - n, false⟩ g v2 w2 HA2.out HOK2.out).mono ?_; rintro e w3 ⟨v3, rfl, hat3, ht3⟩
                rw [HSY.out] at hat3
                rw [HSY.out]
                have HBT := Lib.hid (turned_below HB2.out HA2.out (Nat.le_of_eq HG.out) ht3)
                have HAT := Lib.hid hat3
                have HOKT : Hid (Dk.ok ⟨bs', firm, 20000, 0, true⟩) := ⟨HOK2.out.firm0, HOK2.out.firm, HOK2.out.size, HOK2.out.room, by show (-1 : Int) ≤ 0; omega, by show (0 : Int) ≤ 9223372036854775807; omega⟩
                clear hat3 ht3 HA2 HB2 HOK2 HSY hsz
                have hsz2 : ((bs'.length : Int) == (bs.length : Int) + n) = true := by rw [HBL.out]; simp
                go_wp2_with fail
                go_meet
                exact ⟨bs', firm, 0, true, _, HAT.out, HOKT.out, by rw [HBL.out], by omega, HBT.out⟩
              · have hs : Dk.sync ⟨bs', firm, 20000, left - n, false⟩ = (0, ⟨bs', bs'.length, 20000, left - n - 1, false⟩) := sync_ok rfl (by show left - n ≠ -1; omega) hz
                have HSY := Lib.hid hs
                have hlz : (left - n == 0) = false := by simp; omega
                have hlp : (n : Int) < left := by omega
                clear hs
                go_wp2_with fail
                refine (sync_any ⟨bs', firm, 20000, left - n, false⟩ g v2 w2 HA2.out HOK2.out).mono ?_; rintro e w3 ⟨v3, rfl, hat3, ht3⟩
                rw [HSY.out] at hat3
                rw [HSY.out]
                have HB3 := Lib.hid (turned_below HB2.out HA2.out (Nat.le_of_eq HG.out) ht3)
                have HA3 := Lib.hid hat3
                clear hat3 ht3 HA2 HB2 HSY hsz
                go_wp2_with fail
                go_roundw
                case rel => exact ⟨i + 1, bs', bs'.length, left - n - 1, v3, by omega, by omega, by go_num, by rw [HBL.out], rfl, by omega, by omega, by omega, by omega, Int.le_refl _, HA3.out, HB3.out⟩
                case measure => simp [intOf]; omega
            · have hgo2 : left < (n : Int) := by omega
              obtain ⟨m, rfl⟩ := Int.eq_ofNat_of_zero_le hlf0
              have hmk : m < n := by omega
              have hw : Dk.write ⟨bs, firm, 20000, m, false⟩ ([l.take n] : List (List Int)).flatten = (9, ⟨bs ++ (l.take n).take m, firm, 20000, 0, true⟩) := by
                rw [HXS.out]
                rw [write_cut rfl (by rw [HSL.out]; show (n : Int) ≤ 20000 - (bs.length : Int); omega) (by show (m : Int) ≠ -1; omega) (by rw [HSL.out]; show (m : Int) < n; omega)]
                rfl
              have HW := Lib.hid hw
              have hl2 : (bs ++ (l.take n).take m).length = bs.length + m := by rw [List.length_append, List.length_take, HSL.out]; omega
              clear hw
              go_wp2_with fail
              refine (write_any ⟨bs, firm, 20000, m, false⟩ g v _ 1 1 [l.take n] _ HA1.out HOKW.out HP1.out (by omega) (by rw [HXS.out, HSL.out]; omega)).mono ?_; rintro e w2 ⟨v2, rfl, hat2, ht2⟩
              rw [HW.out] at hat2
              rw [HW.out]
              have HBT := Lib.hid (turned_below HB1.out HA1.out (Nat.le_of_eq HG.out) ht2)
              have HAT := Lib.hid hat2
              clear hat2 ht2 HA1 HB1 HP1 HW HXS HSL HOK HOKW
              generalize bs ++ (l.take n).take m = bs' at *
              have hsz : ((bs'.length : Int) != (bs.length : Int) + m) = false := by rw [hl2]; simp
              have hsz2 : ((bs'.length : Int) == (bs.length : Int) + m) = true := by rw [hl2]; simp
              have hbl : (bs'.length : Int) = bs.length + m := by omega
              have HBL := Lib.hid hbl
              have HOKT : Hid (Dk.ok ⟨bs', firm, 20000, 0, true⟩) := ⟨by show (0 : Int) ≤ firm; omega, by show firm ≤ (bs'.length : Int); omega, by show (bs'.length : Int) ≤ 20000; omega, by show (20000 : Int) ≤ 20000; omega, by show (-1 : Int) ≤ 0; omega, by show (0 : Int) ≤ 9223372036854775807; omega⟩
              have hbb : bs'.length ≤ 15 * i + 15 := by omega
              clear hl2 hbl
              go_wp2_with fail
              refine (size_any _ g v2 w2 HAT.out).mono ?_; rintro e w' ⟨rfl, rfl⟩
              go_wp2_with fail
              refine (off_any _ g v2 w2 HAT.out).mono ?_; rintro e w' ⟨rfl, rfl⟩
              go_wp2_with fail
              go_meet
              exact ⟨bs', firm, 0, true, _, HAT.out, HOKT.out, by rw [HBL.out], by omega, HBT.out⟩
        · have hmin : (15 : Int) < n := by omega
          have hcc : 15 ≤ c := by omega
          have hsl : (l.take 15).length = 15 := by rw [List.length_take, ← H5.out]; omega
          go_wp2_with fail
          go_region
          all_goals
            have hsx : Sees wr w.heap.size 1 A 15 (u8s (l.take 15)) := by
              have := HS.out.take (k := 15) (by omega)
              rwa [Nat.mul_one, u8s_take] at this
            have HAW := Lib.hid HAT.out.drew
            have HBW := Lib.hid HBT.out.drew
            have hsw : Sees wr.drew w.heap.size 1 A 15 (u8s (l.take 15)) := ⟨hsx.len, hsx.at_⟩
            have hszw : w.heap.size ≤ wr.drew.heap.size := HBT.out.size
            generalize wr.drew = W at *
            have HP1 := Lib.hid (parts_one (t := 27) (c := c) hsw hszw (by omega) (by omega))
            have hb1 : Below W.heap.size W (W.alloc (.cells #[.slice A 15 c] 27)) := (Below.refl _ _).alloc (Nat.le_refl _) _
            have HA1 := Lib.hid (HAW.out.below hb1)
            have HB1 := Lib.hid (HBW.out.trans (hb1.mono hszw))
            have HSL := Lib.hid hsl
            have HXS := Lib.hid (show ([l.take 15] : List (List Int)).flatten = l.take 15 by simp)
            have HOKW := HOK
            clear hsx hsw hb1 HAW HBW HAT HBT HS hsl
            have hnf : ((-1 : Int) == left) = false := by simp; omega
            by_cases hgo : (15 : Int) ≤ left
            · have hw : Dk.write ⟨bs, firm, 20000, left, false⟩ ([l.take 15] : List (List Int)).flatten = (0, ⟨bs ++ l.take 15, firm, 20000, left - 15, false⟩) := by
                rw [HXS.out]
                rw [write_burn rfl (by rw [HSL.out]; show (15 : Int) ≤ 20000 - (bs.length : Int); omega) (by show left ≠ -1; omega) (by rw [HSL.out]; show (15 : Int) ≤ left; omega), HSL.out]
                try rfl
              have HW := Lib.hid hw
              have hl2 : (bs ++ l.take 15).length = bs.length + 15 := by rw [List.length_append, HSL.out]
              clear hw
              go_wp2_with fail
              refine (write_any ⟨bs, firm, 20000, left, false⟩ g v _ 1 1 [l.take 15] _ HA1.out HOKW.out HP1.out (by omega) (by rw [HXS.out, HSL.out]; omega)).mono ?_; rintro e w2 ⟨v2, rfl, hat2, ht2⟩
              rw [HW.out] at hat2
              rw [HW.out]
              have HB2 := Lib.hid (turned_below HB1.out HA1.out (Nat.le_of_eq HG.out) ht2)
              have HA2 := Lib.hid hat2
              clear hat2 ht2 HA1 HB1 HP1 HW HXS HSL HOK HOKW
              generalize bs ++ l.take 15 = bs' at *
              have hsz : ((bs'.length : Int) != (bs.length : Int) + 15) = false := by rw [hl2]; simp
              have HL2 := Lib.hid hl2
              have hbl : (bs'.length : Int) = bs.length + 15 := by omega
              have HBL := Lib.hid hbl
              clear hl2
              have HOK2 : Hid (Dk.ok ⟨bs', firm, 20000, left - 15, false⟩) := ⟨by show (0 : Int) ≤ firm; omega, by show firm ≤ (bs'.length : Int); omega, by show (bs'.length : Int) ≤ 20000; omega, by show (20000 : Int) ≤ 20000; omega, by show (-1 : Int) ≤ left - 15; omega, by show left - 15 ≤ 9223372036854775807; omega⟩
              have hbb : bs'.length ≤ 15 * i + 15 := by omega
              clear hbl
              go_wp2_with fail
              refine (size_any _ g v2 w2 HA2.out).mono ?_; rintro e w' ⟨rfl, rfl⟩
              go_wp2_with fail
              refine (off_any _ g v2 w2 HA2.out).mono ?_; rintro e w' ⟨rfl, rfl⟩
              by_cases hz : left - 15 < 1
              · have hs : Dk.sync ⟨bs', firm, 20000, left - 15, false⟩ = (9, ⟨bs', firm, 20000, 0, true⟩) := sync_over rfl (by show left - 15 ≠ -1; omega) hz
                have HSY := Lib.hid hs
                have hlz : (left - 15 == 0) = true := by simp; omega
                have hlp : ¬ ((15 : Int) < left) := by omega
                clear hs
                go_wp2_with fail
                refine (sync_any ⟨bs', firm, 20000, left - 15, false⟩ g v2 w2 HA2.out HOK2.out).mono ?_; rintro e w3 ⟨v3, rfl, hat3, ht3⟩
                rw [HSY.out] at hat3
                rw [HSY.out]
                have HBT := Lib.hid (turned_below HB2.out HA2.out (Nat.le_of_eq HG.out) ht3)
                have HAT := Lib.hid hat3
                have HOKT : Hid (Dk.ok ⟨bs', firm, 20000, 0, true⟩) := ⟨HOK2.out.firm0, HOK2.out.firm, HOK2.out.size, HOK2.out.room, by show (-1 : Int) ≤ 0; omega, by show (0 : Int) ≤ 9223372036854775807; omega⟩
                clear hat3 ht3 HA2 HB2 HOK2 HSY hsz
                have hsz2 : ((bs'.length : Int) == (bs.length : Int) + 15) = true := by rw [HBL.out]; simp
                go_wp2_with fail
                go_meet
                exact ⟨bs', firm, 0, true, _, HAT.out, HOKT.out, by rw [HBL.out], by omega, HBT.out⟩
              · have hs : Dk.sync ⟨bs', firm, 20000, left - 15, false⟩ = (0, ⟨bs', bs'.length, 20000, left - 15 - 1, false⟩) := sync_ok rfl (by show left - 15 ≠ -1; omega) hz
                have HSY := Lib.hid hs
                have hlz : (left - 15 == 0) = false := by simp; omega
                have hlp : (15 : Int) < left := by omega
                clear hs
                go_wp2_with fail
                refine (sync_any ⟨bs', firm, 20000, left - 15, false⟩ g v2 w2 HA2.out HOK2.out).mono ?_; rintro e w3 ⟨v3, rfl, hat3, ht3⟩
                rw [HSY.out] at hat3
                rw [HSY.out]
                have HB3 := Lib.hid (turned_below HB2.out HA2.out (Nat.le_of_eq HG.out) ht3)
                have HA3 := Lib.hid hat3
                clear hat3 ht3 HA2 HB2 HSY hsz
                go_wp2_with fail
                go_roundw
                case rel => exact ⟨i + 1, bs', bs'.length, left - 15 - 1, v3, by omega, by omega, by go_num, by rw [HBL.out], rfl, by omega, by omega, by omega, by omega, Int.le_refl _, HA3.out, HB3.out⟩
                case measure => simp [intOf]; omega
            · have hgo2 : left < (15 : Int) := by omega
              obtain ⟨m, rfl⟩ := Int.eq_ofNat_of_zero_le hlf0
              have hmk : m < 15 := by omega
              have hw : Dk.write ⟨bs, firm, 20000, m, false⟩ ([l.take 15] : List (List Int)).flatten = (9, ⟨bs ++ (l.take 15).take m, firm, 20000, 0, true⟩) := by
                rw [HXS.out]
                rw [write_cut rfl (by rw [HSL.out]; show (15 : Int) ≤ 20000 - (bs.length : Int); omega) (by show (m : Int) ≠ -1; omega) (by rw [HSL.out]; show (m : Int) < 15; omega)]
                rfl
              have HW := Lib.hid hw
              have hl2 : (bs ++ (l.take 15).take m).length = bs.length + m := by rw [List.length_append, List.length_take, HSL.out]; omega
              clear hw
              go_wp2_with fail
              refine (write_any ⟨bs, firm, 20000, m, false⟩ g v _ 1 1 [l.take 15] _ HA1.out HOKW.out HP1.out (by omega) (by rw [HXS.out, HSL.out]; omega)).mono ?_; rintro e w2 ⟨v2, rfl, hat2, ht2⟩
              rw [HW.out] at hat2
              rw [HW.out]
              have HBT := Lib.hid (turned_below HB1.out HA1.out (Nat.le_of_eq HG.out) ht2)
              have HAT := Lib.hid hat2
              clear hat2 ht2 HA1 HB1 HP1 HW HXS HSL HOK HOKW
              generalize bs ++ (l.take 15).take m = bs' at *
              have hsz : ((bs'.length : Int) != (bs.length : Int) + m) = false := by rw [hl2]; simp
              have hsz2 : ((bs'.length : Int) == (bs.length : Int) + m) = true := by rw [hl2]; simp
              have hbl : (bs'.length : Int) = bs.length + m := by omega
              have HBL := Lib.hid hbl
              have HOKT : Hid (Dk.ok ⟨bs', firm, 20000, 0, true⟩) := ⟨by show (0 : Int) ≤ firm; omega, by show firm ≤ (bs'.length : Int); omega, by show (bs'.length : Int) ≤ 20000; omega, by show (20000 : Int) ≤ 20000; omega, by show (-1 : Int) ≤ 0; omega, by show (0 : Int) ≤ 9223372036854775807; omega⟩
              have hbb : bs'.length ≤ 15 * i + 15 := by omega
              clear hl2 hbl
              go_wp2_with fail
              refine (size_any _ g v2 w2 HAT.out).mono ?_; rintro e w' ⟨rfl, rfl⟩
              go_wp2_with fail
              refine (off_any _ g v2 w2 HAT.out).mono ?_; rintro e w' ⟨rfl, rfl⟩
              go_wp2_with fail
              go_meet
              exact ⟨bs', firm, 0, true, _, HAT.out, HOKT.out, by rw [HBL.out], by omega, HBT.out⟩
      · have hge : ¬ ((i : Int) < len ∧ (i : Int) < 12) := by omega
        have HOKT := HOK
        by_cases hlt : i < len
        all_goals
          go_wp2_with fail
          go_meet
          exact ⟨bs, firm, left, false, _, HAT.out, HOKT.out, rfl, by omega, HBT.out⟩
  case rest =>
    obtain ⟨bs, firm, fu, off, v, hat, hokt, hsz, hbl, hbel⟩ := hcut
    subst hsz
    have HAT := Lib.hid hat; have HBT := Lib.hid hbel; have HOKT := Lib.hid hokt; clear hat hbel hokt
    go_wp2_with fail
    refine (boot_any ⟨bs, firm, 20000, fu, off⟩ g _ 20000 _ HAT.out HOKT.out).mono ?_; rintro e w6 ⟨v6, rfl, hat6, ht6⟩
    rw [boot_all HOKT.out (by show ((bs).length : Int) ≤ 20000; omega)] at hat6
    have hat6' : Dk.at ⟨bs, (bs).length, 20000, -1, false⟩ w6 g v6 := hat6
    have HA6 := Lib.hid hat6'
    have HB6 := Lib.hid (turned_below HBT.out HAT.out (Nat.le_of_eq HG.out) ht6)
    clear hat6 hat6' ht6 HAT HBT HOKT
    go_wp2_with fail
    refine (size_any _ g v6 w6 HA6.out).mono ?_; rintro e w' ⟨rfl, rfl⟩
    go_wp2_with fail
    refine (firm_any _ g v6 w6 HA6.out).mono ?_; rintro e w' ⟨rfl, rfl⟩
    go_wp2_with fail
    refine (off_any _ g v6 w6 HA6.out).mono ?_; rintro e w' ⟨rfl, rfl⟩
    have hg6 := HA6.out.1.lt
    have hb7 : Below w6.heap.size w6 (w6.alloc (.cells #[.int .u8 1] 5)) := (Below.refl _ _).alloc (Nat.le_refl _) _
    have hb8 : Below w6.heap.size w6 ((w6.alloc (.cells #[.int .u8 1] 5)).alloc (.cells #[.slice (some ⟨w6.heap.size, 0, none⟩) 1 1] 27)) := hb7.alloc (by simp) _
    have HP8 := Lib.hid (parts_byte (w := w6) (b := 1) (t := 5) (t' := 27))
    have HA8 := Lib.hid (HA6.out.below hb8)
    have HB8 := Lib.hid (HB6.out.trans (hb8.mono (by have := HG.out; omega)))
    have HOK8 : Hid (Dk.ok ⟨bs, (bs).length, 20000, -1, false⟩) := ⟨by show (0 : Int) ≤ ((bs).length : Int); omega, Int.le_refl _, by show ((bs).length : Int) ≤ 20000; omega, by show (20000 : Int) ≤ 20000; omega, by show (-1 : Int) ≤ -1; omega, by show (-1 : Int) ≤ 9223372036854775807; omega⟩
    clear hb7 hb8 HA6 HB6
    go_wp2_with fail
    refine (write_any ⟨bs, (bs).length, 20000, -1, false⟩ g v6 _ 1 1 [[1]] _ HA8.out HOK8.out HP8.out (by omega) (by decide)).mono ?_; rintro e w9 ⟨v9, rfl, hat9, ht9⟩
    rw [write_free (xs := ([[1]] : List (List Int)).flatten) rfl (by show ((([[1]] : List (List Int)).flatten).length : Int) ≤ 20000 - ((bs).length : Int); simp; omega) rfl] at hat9
    rw [write_free (xs := ([[1]] : List (List Int)).flatten) rfl (by show ((([[1]] : List (List Int)).flatten).length : Int) ≤ 20000 - ((bs).length : Int); simp; omega) rfl]
    have hat9' : Dk.at ⟨bs ++ [1], (bs).length, 20000, -1, false⟩ w9 g v9 := hat9
    have HA9 := Lib.hid hat9'
    have HB9 := Lib.hid (turned_below HB8.out HA8.out (Nat.le_of_eq HG.out) ht9)
    have hl9 : (bs ++ [1]).length = (bs).length + 1 := by simp
    have HOK9 : Hid (Dk.ok ⟨bs ++ [1], (bs).length, 20000, -1, false⟩) := ⟨by show (0 : Int) ≤ ((bs).length : Int); omega, by show ((bs).length : Int) ≤ (((bs ++ [1]).length : Nat) : Int); omega, by show (((bs ++ [1]).length : Nat) : Int) ≤ 20000; omega, by show (20000 : Int) ≤ 20000; omega, by show (-1 : Int) ≤ -1; omega, by show (-1 : Int) ≤ 9223372036854775807; omega⟩
    have HL9 := Lib.hid hl9
    clear hat9 hat9' ht9 HA8 HB8 HP8 HOK8 hl9
    go_wp2_with fail
    refine (sync_any ⟨bs ++ [1], (bs).length, 20000, -1, false⟩ g v9 w9 HA9.out HOK9.out).mono ?_; rintro e w10 ⟨v10, rfl, hat10, ht10⟩
    rw [sync_free rfl rfl] at hat10
    rw [sync_free rfl rfl]
    have hat10' : Dk.at ⟨bs ++ [1], (bs ++ [1]).length, 20000, -1, false⟩ w10 g v10 := hat10
    have HA10 := Lib.hid hat10'
    have HB10 := Lib.hid (turned_below HB9.out HA9.out (Nat.le_of_eq HG.out) ht10)
    have HOK10 : Hid (Dk.ok ⟨bs ++ [1], (bs ++ [1]).length, 20000, -1, false⟩) := by
      have hl := HL9.out
      exact ⟨by show (0 : Int) ≤ (((bs ++ [1]).length : Nat) : Int); omega, Int.le_refl _, by show (((bs ++ [1]).length : Nat) : Int) ≤ 20000; omega, by show (20000 : Int) ≤ 20000; omega, by show (-1 : Int) ≤ -1; omega, by show (-1 : Int) ≤ 9223372036854775807; omega⟩
    clear hat10 hat10' ht10 HA9 HB9 HOK9
    go_wp2_with fail
    refine (back_any ⟨bs ++ [1], (bs ++ [1]).length, 20000, -1, false⟩ g v10 (bs).length w10 HA10.out HOK10.out).mono ?_; rintro e w11 ⟨v11, rfl, hat11, ht11⟩
    rw [back_free rfl (by have := HL9.out; show (bs).length ≤ (bs ++ [1]).length; omega) rfl]
    have HB11 := Lib.hid (turned_below HB10.out HA10.out (Nat.le_of_eq HG.out) ht11)
    clear hat11 ht11 HA10 HB10 HOK10
    go_wp2_with fail
    refine (disk_runs _).mono ?_; rintro e w12 ⟨rfl, hbel⟩
    have HB12 := Lib.hid (HB11.out.trans (hbel.mono HB11.out.size)); clear hbel
    go_wp2_with fail
    go_ret
    exact ⟨rfl, HB12.out⟩
end Go.Proofs.Ytccajejeanbcmaa
