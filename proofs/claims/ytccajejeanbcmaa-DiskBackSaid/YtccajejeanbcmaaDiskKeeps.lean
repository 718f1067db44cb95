/- The walk of DiskKeeps, out of the contracts. -/
import Derived.Test.YtccajejeanbcmaaDiskFuse
namespace Go.Proofs.Ytccajejeanbcmaa
open Go.ChangeShapes Go.WideShapes Go.ChangeAt Go.RowKit
set_option linter.unusedVariables false
set_option maxRecDepth 100000
/-- A disk, and a row of bytes that lies apart from it. -/
def Beside (d : Dk) (all : List Int) (w : World) (g : Nat) (v va : Value) : Prop :=
  d.at w g v ∧ w.ownsRow (g + 1) 5 1 va all.length (u8s all) ∧ ∀ k, va.ownBlock = some k → v.ownBlock ≠ some k
section
variable {d d' : Dk} {all all' : List Int} {w w' : World} {g : Nat} {v v' va va' : Value}
theorem Beside.below (h : Beside d all w g v va) (hb : Below w.heap.size w w') : Beside d all w' g v va := ⟨h.1.below hb, own_below h.2.1 hb (Nat.le_refl _), h.2.2⟩
theorem Beside.drew (h : Beside d all w g v va) : Beside d all w.drew g v va := ⟨h.1.drew, h.2.1.drew, h.2.2⟩
theorem Beside.append (h : Beside d all w g v va) (hg : w.grownBy w' va.ownBlock) (ho : w'.ownsRow (g + 1) 5 1 va' all'.length (u8s all')) (hw : Where w va va') : Beside d all' w' g v va' := by
  refine ⟨⟨h.1.1.grown hg (fun e => by have := (h.2.1.lt g e.symm).1; omega), h.1.2.kept hg ?_⟩, ho, ?_⟩
  · cases hv : v.ownBlock with
    | none => exact .inl rfl
    | some k => exact .inr fun e => h.2.2 k e.symm hv
  · intro k hk hv
    exact hw.apart (u := v) (fun j hj => ⟨(h.1.2.lt j hj).2, fun e => h.2.2 j e hj⟩) k hv hk
theorem Beside.turned (h : Beside d all w g v va) (hat : d'.at w' g v') (ht : Turned g v w w') (hw : Where w v v') : Beside d' all w' g v' va := by
  refine ⟨hat, ht.own h.2.1 (fun e => by have := (h.2.1.lt g e).1; omega) h.2.2, ?_⟩
  exact hw.apart fun j hj => ⟨(h.2.1.lt j hj).2, h.2.2 j hj⟩
end
/-- What the loop leaves. -/
def KeepsCut (g : Nat) (w : World) (va sy : Value) (wx : World) : Prop :=
  ∃ (all bs : List Int) (firm fu : Int) (off : Bool) (v : Value) (A : Option Addr) (c : Nat) (n : Nat), Beside ⟨bs, firm, 20000, fu, off⟩ all wx g v (.slice A all.length c) ∧ Dk.ok ⟨bs, firm, 20000, fu, off⟩ ∧ va = .slice A all.length c ∧ sy = .int .i64 n ∧ (n : Int) ≤ firm ∧ bs <+: all ∧ all.length ≤ 300 ∧ Below w.heap.size w wx
set_option maxHeartbeats 4000000 in
theorem disk_keeps (P : Option Addr) (len cap : Nat) (f0 k0 : Int) (zs : List (List Int)) (w : World) (hp : PartsU8 w w.heap.size P len zs) (hlc : len ≤ cap) (hcm : cap ≤ 9223372036854775807) (wf : I64 f0) (wk : I64 k0) :
    Calls Try.prog 5 #[.slice P len cap, .int .i64 f0, .int .i64 k0] w fun e w' => e = .returned (.bool true) ∧ Below w.heap.size w w' := by
  have HP := Lib.hid hp; clear hp
  have HPL := Lib.hid HP.out.1
  have WF := Lib.hid wf; have WK := Lib.hid wk; clear wf wk
  obtain ⟨hf1, hf2⟩ := nWithin_in f0 (lo := 0) (hi := 120) (by omega)
  obtain ⟨hk1, hk2⟩ := nWithin_in k0 (lo := 0) (hi := 30) (by omega)
  obtain ⟨i0, hi0, hz0, hz1, hz2⟩ := info_parts Try.infoU8
  go_enter Try.func5, Try.ntmps5
  go_wp2_with fail
  refine (new_any 20000 w).mono ?_; rintro e w' ⟨rfl, rfl⟩
  have hnn : nNear 20000 0 20000 = 20000 := by decide
  rw [hnn]
  have HA0 := Lib.hid (new_at (w := w) (r := 20000))
  have HB0 := Lib.hid ((Below.refl w.heap.size w).alloc (Nat.le_refl _) (.cells #[.slice none 0 0, .int .i64 0, .int .i64 20000, .int .i64 (-1), .bool false] 44))
  clear hnn
  generalize w.alloc (.cells #[.slice none 0 0, .int .i64 0, .int .i64 20000, .int .i64 (-1), .bool false] 44) = w0 at *
  obtain ⟨g, hg⟩ : ∃ g, w.heap.size = g := ⟨_, rfl⟩
  have HG := Lib.hid hg
  rw [hg] at HA0
  rw [show (⟨w.heap.size, 0, none⟩ : Addr) = ⟨g, 0, none⟩ by rw [hg]]
  clear hg
  go_wp2_with fail
  refine (within_any f0 0 120 _ WF.out (by omega) (by omega) (by omega)).mono ?_; rintro e w' ⟨rfl, rfl⟩
  generalize nWithin f0 0 120 = f at *
  clear WF
  go_wp2_with fail
  refine (arm_any _ g _ f w0 HA0.out (by omega)).mono ?_; rintro e w' ⟨rfl, rfl⟩
  have HA1 := Lib.hid (HA0.out.fuse f)
  have HB1 := Lib.hid (HB0.out.setCell (p := ⟨g, 3, none⟩) (Nat.le_of_eq HG.out) (.int .i64 f))
  clear HA0 HB0
  generalize w0.setCell ⟨g, 3, none⟩ (.int .i64 f) = w1 at *
  go_upto_block 0 with fail
  go_cut [8, 9, 10, 11] from 20 to 53 (fun va sy x b wx => KeepsCut g w va sy wx)
  case first =>
    go_wp2_with fail
    go_loopw [8, 9, 10] (fun va sy x wr => ∃ (i : Nat) (bs : List Int) (left : Int) (v : Value) (Aa : Option Addr) (ca : Nat), i ≤ len ∧ i ≤ 10 ∧ x = .int .i64 i ∧ va = .slice Aa bs.length ca ∧ sy = .int .i64 bs.length ∧ bs.length ≤ 20 * i ∧ 0 ≤ left ∧ left ≤ 120 ∧ Beside ⟨bs, bs.length, 20000, left, false⟩ bs wr g v (.slice Aa bs.length ca) ∧ Below w.heap.size w wr) (fun _ _ x _ => len - (intOf x).toNat)
    case atStart => exact ⟨0, [], f, _, none, 0, Nat.zero_le _, Nat.zero_le _, rfl, rfl, rfl, by simp, by omega, by omega, ⟨HA1.out, by simpa [u8s] using World.ownsRow_nil w1 (g + 1) 5 1, (fun k hk => by cases hk)⟩, HB1.out⟩
    case round =>
      obtain ⟨i, bs, left, v, Aa, ca, hi, hi10, rfl, rfl, rfl, hbl, hlf0, hlf1, hat, hbel⟩ := hrel
      have HAT := Lib.hid hat; have HBT := Lib.hid hbel; clear hat hbel
      have HOK : Hid (Dk.ok ⟨bs, bs.length, 20000, left, false⟩) := ⟨by show (0 : Int) ≤ (bs.length : Int); omega, Int.le_refl _, by show (bs.length : Int) ≤ 20000; omega, by show (20000 : Int) ≤ 20000; omega, by show (-1 : Int) ≤ left; omega, by show left ≤ 9223372036854775807; omega⟩
      by_cases hlt : i < len ∧ i < 10
      · obtain ⟨hlt, hlt12⟩ := hlt
        obtain ⟨l, hl⟩ : ∃ l, zs[i]? = some l := ⟨_, List.getElem?_eq_getElem (by have := HPL.out; omega)⟩
        obtain ⟨ad, A, n, c, rfl, h2, h3, h4, h5, h6, h7⟩ := (HP.out.below HBT.out).2 i l hl
        have HS := Lib.hid h4; have H5 := Lib.hid h5; clear h4 hl h5
        have h3d : wr.drew.cell? (ad.add i) = some (.slice A n c) := h3
        by_cases h15 : n ≤ 20
        · have hmin : ¬ (20 : Int) < n := by omega
          have hsl : (l.take n).length = n := by rw [List.length_take, ← H5.out]; omega
          go_wp2_with fail
          go_region
          all_goals
            have hsx : Sees wr w.heap.size 1 A n (u8s (l.take n)) := by
              have := HS.out.take (k := n) (by omega)
              rwa [Nat.mul_one, u8s_take] at this
            have HBO := Lib.hid HAT.out.drew
            have HBW := Lib.hid HBT.out.drew
            have hsw : Sees wr.drew w.heap.size 1 A n (u8s (l.take n)) := ⟨hsx.len, hsx.at_⟩
            have hszw : w.heap.size ≤ wr.drew.heap.size := HBT.out.size
            have hgw : g < wr.drew.heap.size := HAT.out.1.1.lt
            generalize wr.drew = W at *
            have HSL := Lib.hid hsl
            have HSW := Lib.hid hsw
            clear hsx hsw HAT HBT HS hsl
            have HOA := Lib.hid HBO.out.2.1
            go_wp2_with (at_builtin; refine wpList_append_at rfl (.tmp 41) (.tmp 42) 27 rfl (g + 1) 5 i0 (.int .u8 0) 1 1 Try.underlying27 hi0 hz0 hz1 hz2 rfl (by decide) (.slice Aa bs.length ca) bs.length (u8s bs) rfl HOA.out w.heap.size A n c (u8s (l.take n)) rfl HSW.out (u8s_one _) (by unfold maxLen; omega) (by omega) (by omega) ?_)
            intro va2 W2 hown2 hgr2 hwh2
            obtain ⟨Aa2, ca2, rfl, hca3, hca4⟩ := own_slice hown2
            have hl2 : (bs ++ l.take n).length = bs.length + n := by rw [List.length_append, HSL.out]
            have hown3 : W2.ownsRow (g + 1) 5 1 (.slice Aa2 (bs.length + n) ca2) (bs ++ l.take n).length (u8s (bs ++ l.take n)) := by rw [hl2, u8s_append]; exact hown2
            have HB3 := Lib.hid (HBO.out.append hgr2 hown3 hwh2)
            have HBW2 := Lib.hid (HBW.out.grown hgr2 (by have := HG.out; omega) (fun j hj => by have := (HOA.out.lt j hj).1; have := HG.out; omega))
            have hs2 := hgr2.size
            have hsw2 : Sees W2 w.heap.size 1 A n (u8s (l.take n)) := HSW.out.grown hgr2 hszw (fun j hj => by have := (HOA.out.lt j hj).1; have := HG.out; omega)
            have hszw2 : w.heap.size ≤ W2.heap.size := by omega
            have HP1 := Lib.hid (parts_one (t := 27) (c := c) hsw2 hszw2 (by omega) (by omega))
            have hb1 : Below W2.heap.size W2 (W2.alloc (.cells #[.slice A n c] 27)) := (Below.refl _ _).alloc (Nat.le_refl _) _
            have HB4 := Lib.hid (HB3.out.below hb1)
            have HBW3 := Lib.hid (HBW2.out.trans (hb1.mono hszw2))
            have HXS := Lib.hid (show ([l.take n] : List (List Int)).flatten = l.take n by simp)
            have HOKW := HOK
            have HL2 := Lib.hid hl2
            clear hown2 hown3 hgr2 hwh2 HBO HOA HBW HSW hsw2 hb1 HB3 HBW2 hl2
            by_cases hgo : (n : Int) ≤ left
            · have hw : Dk.write ⟨bs, bs.length, 20000, left, false⟩ ([l.take n] : List (List Int)).flatten = (0, ⟨bs ++ l.take n, bs.length, 20000, left - n, false⟩) := by
                rw [HXS.out]
                rw [write_burn rfl (by rw [HSL.out]; show (n : Int) ≤ 20000 - (bs.length : Int); omega) (by show left ≠ -1; omega) (by rw [HSL.out]; show (n : Int) ≤ left; omega), HSL.out]
                try rfl
              have HW := Lib.hid hw
              clear hw
              go_wp2_with fail
              refine (write_all ⟨bs, bs.length, 20000, left, false⟩ g v _ 1 1 [l.take n] _ HB4.out.1 HOKW.out HP1.out (by omega) (by rw [HXS.out, HSL.out]; omega)).mono ?_; rintro e w2 ⟨v2, rfl, hat2, ht2, hwh2⟩
              rw [HW.out] at hat2
              rw [HW.out]
              have HB5 := Lib.hid (HB4.out.turned hat2 ht2 hwh2)
              have HBW4 := Lib.hid (turned_below HBW3.out HB4.out.1 (Nat.le_of_eq HG.out) ht2)
              clear hat2 ht2 hwh2 HB4 HBW3 HP1 HW HXS HSL HOK HOKW
              generalize bs ++ l.take n = bs' at *
              have hbl : (bs'.length : Int) = bs.length + n := by have := HL2.out; omega
              have HBL := Lib.hid hbl
              have HOK2 : Hid (Dk.ok ⟨bs', bs.length, 20000, left - n, false⟩) := ⟨by show (0 : Int) ≤ (bs.length : Int); omega, by show (bs.length : Int) ≤ (bs'.length : Int); omega, by show (bs'.length : Int) ≤ 20000; omega, by show (20000 : Int) ≤ 20000; omega, by show (-1 : Int) ≤ left - n; omega, by show left - n ≤ 9223372036854775807; omega⟩
              have hbb : bs'.length ≤ 20 * i + 20 := by omega
              clear hbl
              rw [← HL2.out] at HB5
              by_cases hz : left - n < 1
              · have hs : Dk.sync ⟨bs', bs.length, 20000, left - n, false⟩ = (9, ⟨bs', bs.length, 20000, 0, true⟩) := sync_over rfl (by show left - n ≠ -1; omega) hz
                have HSY := Lib.hid hs
                clear hs
                go_wp2_with fail
                refine (sync_all ⟨bs', bs.length, 20000, left - n, false⟩ g v2 w2 HB5.out.1 HOK2.out).mono ?_; rintro e w3 ⟨v3, rfl, hat3, ht3, hwh3⟩
                rw [HSY.out] at hat3
                rw [HSY.out]
                have HBT := Lib.hid (turned_below HBW4.out HB5.out.1 (Nat.le_of_eq HG.out) ht3)
                have HAT := Lib.hid (HB5.out.turned hat3 ht3 hwh3)
                have HOKT : Hid (Dk.ok ⟨bs', bs.length, 20000, 0, true⟩) := ⟨HOK2.out.firm0, HOK2.out.firm, HOK2.out.size, HOK2.out.room, by show (-1 : Int) ≤ 0; omega, by show (0 : Int) ≤ 9223372036854775807; omega⟩
                have HPRE := Lib.hid (List.prefix_refl bs')
                clear hat3 ht3 hwh3 HB5 HBW4 HOK2 HSY
                rw [← HL2.out]
                go_wp2_with fail
                go_meet
                exact ⟨bs', bs', bs.length, 0, true, _, _, _, bs.length, HAT.out, HOKT.out, rfl, rfl, by omega, HPRE.out, by omega, HBT.out⟩
              · have hs : Dk.sync ⟨bs', bs.length, 20000, left - n, false⟩ = (0, ⟨bs', bs'.length, 20000, left - n - 1, false⟩) := sync_ok rfl (by show left - n ≠ -1; omega) hz
                have HSY := Lib.hid hs
                clear hs
                go_wp2_with fail
                refine (sync_all ⟨bs', bs.length, 20000, left - n, false⟩ g v2 w2 HB5.out.1 HOK2.out).mono ?_; rintro e w3 ⟨v3, rfl, hat3, ht3, hwh3⟩
                rw [HSY.out] at hat3
                rw [HSY.out]
                have HBT := Lib.hid (turned_below HBW4.out HB5.out.1 (Nat.le_of_eq HG.out) ht3)
                have HAT := Lib.hid (HB5.out.turned hat3 ht3 hwh3)
                clear hat3 ht3 hwh3 HB5 HBW4 HOK2 HSY
                rw [← HL2.out]
                go_wp2_with fail
                go_roundw
                case rel => exact ⟨i + 1, bs', left - n - 1, v3, _, _, by omega, by omega, by go_num, rfl, rfl, by omega, by omega, by omega, HAT.out, HBT.out⟩
                case measure => simp [intOf]; omega
            · have hgo2 : left < (n : Int) := by omega
              obtain ⟨m, rfl⟩ := Int.eq_ofNat_of_zero_le hlf0
              have hmk : m < n := by omega
              have hw : Dk.write ⟨bs, bs.length, 20000, m, false⟩ ([l.take n] : List (List Int)).flatten = (9, ⟨bs ++ (l.take n).take m, bs.length, 20000, 0, true⟩) := by
                rw [HXS.out]
                rw [write_cut rfl (by rw [HSL.out]; show (n : Int) ≤ 20000 - (bs.length : Int); omega) (by show (m : Int) ≠ -1; omega) (by rw [HSL.out]; show (m : Int) < n; omega)]
                rfl
              have HW := Lib.hid hw
              have hl3 : (bs ++ (l.take n).take m).length = bs.length + m := by rw [List.length_append, List.length_take, HSL.out]; omega
              have HPRE := Lib.hid (List.prefix_append_right_inj bs |>.2 (List.take_prefix m (l.take n)))
              clear hw
              go_wp2_with fail
              refine (write_all ⟨bs, bs.length, 20000, m, false⟩ g v _ 1 1 [l.take n] _ HB4.out.1 HOKW.out HP1.out (by omega) (by rw [HXS.out, HSL.out]; omega)).mono ?_; rintro e w2 ⟨v2, rfl, hat2, ht2, hwh2⟩
              rw [HW.out] at hat2
              rw [HW.out]
              have HAT := Lib.hid (HB4.out.turned hat2 ht2 hwh2)
              have HBT := Lib.hid (turned_below HBW3.out HB4.out.1 (Nat.le_of_eq HG.out) ht2)
              clear hat2 ht2 hwh2 HB4 HBW3 HP1 HW HXS HSL HOK HOKW
              generalize bs ++ (l.take n).take m = bs2 at *
              generalize bs ++ l.take n = bs' at *
              have hbl : (bs2.length : Int) = bs.length + m := by omega
              have hbb : bs'.length ≤ 20 * i + 20 := by have := HL2.out; omega
              have HOKT : Hid (Dk.ok ⟨bs2, bs.length, 20000, 0, true⟩) := ⟨by show (0 : Int) ≤ (bs.length : Int); omega, by show (bs.length : Int) ≤ (bs2.length : Int); omega, by show (bs2.length : Int) ≤ 20000; omega, by show (20000 : Int) ≤ 20000; omega, by show (-1 : Int) ≤ 0; omega, by show (0 : Int) ≤ 9223372036854775807; omega⟩
              clear hl3 hbl
              rw [← HL2.out] at HAT
              rw [← HL2.out]
              go_wp2_with fail
              go_meet
              exact ⟨bs', bs2, bs.length, 0, true, _, _, _, bs.length, HAT.out, HOKT.out, rfl, rfl, by omega, HPRE.out, by omega, HBT.out⟩
        · have hmin : (20 : Int) < n := by omega
          have hcc : 20 ≤ c := by omega
          have hsl : (l.take 20).length = 20 := by rw [List.length_take, ← H5.out]; omega
          go_wp2_with fail
          go_region
          all_goals
            have hsx : Sees wr w.heap.size 1 A 20 (u8s (l.take 20)) := by
              have := HS.out.take (k := 20) (by omega)
              rwa [Nat.mul_one, u8s_take] at this
            have HBO := Lib.hid HAT.out.drew
            have HBW := Lib.hid HBT.out.drew
            have hsw : Sees wr.drew w.heap.size 1 A 20 (u8s (l.take 20)) := ⟨hsx.len, hsx.at_⟩
            have hszw : w.heap.size ≤ wr.drew.heap.size := HBT.out.size
            have hgw : g < wr.drew.heap.size := HAT.out.1.1.lt
            generalize wr.drew = W at *
            have HSL := Lib.hid hsl
            have HSW := Lib.hid hsw
            clear hsx hsw HAT HBT HS hsl
            have HOA := Lib.hid HBO.out.2.1
            go_wp2_with (at_builtin; refine wpList_append_at rfl (.tmp 41) (.tmp 42) 27 rfl (g + 1) 5 i0 (.int .u8 0) 1 1 Try.underlying27 hi0 hz0 hz1 hz2 rfl (by decide) (.slice Aa bs.length ca) bs.length (u8s bs) rfl HOA.out w.heap.size A 20 c (u8s (l.take 20)) rfl HSW.out (u8s_one _) (by unfold maxLen; omega) (by omega) (by omega) ?_)
            intro va2 W2 hown2 hgr2 hwh2
            obtain ⟨Aa2, ca2, rfl, hca3, hca4⟩ := own_slice hown2
            have hl2 : (bs ++ l.take 20).length = bs.length + 20 := by rw [List.length_append, HSL.out]
            have hown3 : W2.ownsRow (g + 1) 5 1 (.slice Aa2 (bs.length + 20) ca2) (bs ++ l.take 20).length (u8s (bs ++ l.take 20)) := by rw [hl2, u8s_append]; exact hown2
            have HB3 := Lib.hid (HBO.out.append hgr2 hown3 hwh2)
            have HBW2 := Lib.hid (HBW.out.grown hgr2 (by have := HG.out; omega) (fun j hj => by have := (HOA.out.lt j hj).1; have := HG.out; omega))
            have hs2 := hgr2.size
            have hsw2 : Sees W2 w.heap.size 1 A 20 (u8s (l.take 20)) := HSW.out.grown hgr2 hszw (fun j hj => by have := (HOA.out.lt j hj).1; have := HG.out; omega)
            have hszw2 : w.heap.size ≤ W2.heap.size := by omega
            have HP1 := Lib.hid (parts_one (t := 27) (c := c) hsw2 hszw2 (by omega) (by omega))
            have hb1 : Below W2.heap.size W2 (W2.alloc (.cells #[.slice A 20 c] 27)) := (Below.refl _ _).alloc (Nat.le_refl _) _
            have HB4 := Lib.hid (HB3.out.below hb1)
            have HBW3 := Lib.hid (HBW2.out.trans (hb1.mono hszw2))
            have HXS := Lib.hid (show ([l.take 20] : List (List Int)).flatten = l.take 20 by simp)
            have HOKW := HOK
            have HL2 := Lib.hid hl2
            clear hown2 hown3 hgr2 hwh2 HBO HOA HBW HSW hsw2 hb1 HB3 HBW2 hl2
            by_cases hgo : (20 : Int) ≤ left
            · have hw : Dk.write ⟨bs, bs.length, 20000, left, false⟩ ([l.take 20] : List (List Int)).flatten = (0, ⟨bs ++ l.take 20, bs.length, 20000, left - 20, false⟩) := by
                rw [HXS.out]
                rw [write_burn rfl (by rw [HSL.out]; show (20 : Int) ≤ 20000 - (bs.length : Int); omega) (by show left ≠ -1; omega) (by rw [HSL.out]; show (20 : Int) ≤ left; omega), HSL.out]
                try rfl
              have HW := Lib.hid hw
              clear hw
              go_wp2_with fail
              refine (write_all ⟨bs, bs.length, 20000, left, false⟩ g v _ 1 1 [l.take 20] _ HB4.out.1 HOKW.out HP1.out (by omega) (by rw [HXS.out, HSL.out]; omega)).mono ?_; rintro e w2 ⟨v2, rfl, hat2, ht2, hwh2⟩
              rw [HW.out] at hat2
              rw [HW.out]
              have HB5 := Lib.hid (HB4.out.turned hat2 ht2 hwh2)
              have HBW4 := Lib.hid (turned_below HBW3.out HB4.out.1 (Nat.le_of_eq HG.out) ht2)
              clear hat2 ht2 hwh2 HB4 HBW3 HP1 HW HXS HSL HOK HOKW
              generalize bs ++ l.take 20 = bs' at *
              have hbl : (bs'.length : Int) = bs.length + 20 := by have := HL2.out; omega
              have HBL := Lib.hid hbl
              have HOK2 : Hid (Dk.ok ⟨bs', bs.length, 20000, left - 20, false⟩) := ⟨by show (0 : Int) ≤ (bs.length : Int); omega, by show (bs.length : Int) ≤ (bs'.length : Int); omega, by show (bs'.length : Int) ≤ 20000; omega, by show (20000 : Int) ≤ 20000; omega, by show (-1 : Int) ≤ left - 20; omega, by show left - 20 ≤ 9223372036854775807; omega⟩
              have hbb : bs'.length ≤ 20 * i + 20 := by omega
              clear hbl
              rw [← HL2.out] at HB5
              by_cases hz : left - 20 < 1
              · have hs : Dk.sync ⟨bs', bs.length, 20000, left - 20, false⟩ = (9, ⟨bs', bs.length, 20000, 0, true⟩) := sync_over rfl (by show left - 20 ≠ -1; omega) hz
                have HSY := Lib.hid hs
                clear hs
                go_wp2_with fail
                refine (sync_all ⟨bs', bs.length, 20000, left - 20, false⟩ g v2 w2 HB5.out.1 HOK2.out).mono ?_; rintro e w3 ⟨v3, rfl, hat3, ht3, hwh3⟩
                rw [HSY.out] at hat3
                rw [HSY.out]
                have HBT := Lib.hid (turned_below HBW4.out HB5.out.1 (Nat.le_of_eq HG.out) ht3)
                have HAT := Lib.hid (HB5.out.turned hat3 ht3 hwh3)
                have HOKT : Hid (Dk.ok ⟨bs', bs.length, 20000, 0, true⟩) := ⟨HOK2.out.firm0, HOK2.out.firm, HOK2.out.size, HOK2.out.room, by show (-1 : Int) ≤ 0; omega, by show (0 : Int) ≤ 9223372036854775807; omega⟩
                have HPRE := Lib.hid (List.prefix_refl bs')
                clear hat3 ht3 hwh3 HB5 HBW4 HOK2 HSY
                rw [← HL2.out]
                go_wp2_with fail
                go_meet
                exact ⟨bs', bs', bs.length, 0, true, _, _, _, bs.length, HAT.out, HOKT.out, rfl, rfl, by omega, HPRE.out, by omega, HBT.out⟩
              · have hs : Dk.sync ⟨bs', bs.length, 20000, left - 20, false⟩ = (0, ⟨bs', bs'.length, 20000, left - 20 - 1, false⟩) := sync_ok rfl (by show left - 20 ≠ -1; omega) hz
                have HSY := Lib.hid hs
                clear hs
                go_wp2_with fail
                refine (sync_all ⟨bs', bs.length, 20000, left - 20, false⟩ g v2 w2 HB5.out.1 HOK2.out).mono ?_; rintro e w3 ⟨v3, rfl, hat3, ht3, hwh3⟩
                rw [HSY.out] at hat3
                rw [HSY.out]
                have HBT := Lib.hid (turned_below HBW4.out HB5.out.1 (Nat.le_of_eq HG.out) ht3)
                have HAT := Lib.hid (HB5.out.turned hat3 ht3 hwh3)
                clear hat3 ht3 hwh3 HB5 HBW4 HOK2 HSY
                rw [← HL2.out]
                go_wp2_with fail
                go_roundw
                case rel => exact ⟨i + 1, bs', left - 20 - 1, v3, _, _, by omega, by omega, by go_num, rfl, rfl, by omega, by omega, by omega, HAT.out, HBT.out⟩
                case measure => simp [intOf]; omega
            · have hgo2 : left < (20 : Int) := by omega
              obtain ⟨m, rfl⟩ := Int.eq_ofNat_of_zero_le hlf0
              have hmk : m < 20 := by omega
              have hw : Dk.write ⟨bs, bs.length, 20000, m, false⟩ ([l.take 20] : List (List Int)).flatten = (9, ⟨bs ++ (l.take 20).take m, bs.length, 20000, 0, true⟩) := by
                rw [HXS.out]
                rw [write_cut rfl (by rw [HSL.out]; show (20 : Int) ≤ 20000 - (bs.length : Int); omega) (by show (m : Int) ≠ -1; omega) (by rw [HSL.out]; show (m : Int) < 20; omega)]
                rfl
              have HW := Lib.hid hw
              have hl3 : (bs ++ (l.take 20).take m).length = bs.length + m := by rw [List.length_append, List.length_take, HSL.out]; omega
              have HPRE := Lib.hid (List.prefix_append_right_inj bs |>.2 (List.take_prefix m (l.take 20)))
              clear hw
              go_wp2_with fail
              refine (write_all ⟨bs, bs.length, 20000, m, false⟩ g v _ 1 1 [l.take 20] _ HB4.out.1 HOKW.out HP1.out (by omega) (by rw [HXS.out, HSL.out]; omega)).mono ?_; rintro e w2 ⟨v2, rfl, hat2, ht2, hwh2⟩
              rw [HW.out] at hat2
              rw [HW.out]
              have HAT := Lib.hid (HB4.out.turned hat2 ht2 hwh2)
              have HBT := Lib.hid (turned_below HBW3.out HB4.out.1 (Nat.le_of_eq HG.out) ht2)
              clear hat2 ht2 hwh2 HB4 HBW3 HP1 HW HXS HSL HOK HOKW
              generalize bs ++ (l.take 20).take m = bs2 at *
              generalize bs ++ l.take 20 = bs' at *
              have hbl : (bs2.length : Int) = bs.length + m := by omega
              have hbb : bs'.length ≤ 20 * i + 20 := by have := HL2.out; omega
              have HOKT : Hid (Dk.ok ⟨bs2, bs.length, 20000, 0, true⟩) := ⟨by show (0 : Int) ≤ (bs.length : Int); omega, by show (bs.length : Int) ≤ (bs2.length : Int); omega, by show (bs2.length : Int) ≤ 20000; omega, by show (20000 : Int) ≤ 20000; omega, by show (-1 : Int) ≤ 0; omega, by show (0 : Int) ≤ 9223372036854775807; omega⟩
              clear hl3 hbl
              rw [← HL2.out] at HAT
              rw [← HL2.out]
              go_wp2_with fail
              go_meet
              exact ⟨bs', bs2, bs.length, 0, true, _, _, _, bs.length, HAT.out, HOKT.out, rfl, rfl, by omega, HPRE.out, by omega, HBT.out⟩
      · have hge : ¬ ((i : Int) < len ∧ (i : Int) < 10) := by omega
        have HOKT := HOK
        have HPRE := Lib.hid (List.prefix_refl bs)
        by_cases hlt : i < len
        all_goals
          go_wp2_with fail
          go_meet
          exact ⟨bs, bs, bs.length, left, false, _, _, _, bs.length, HAT.out, HOKT.out, rfl, rfl, by omega, HPRE.out, by omega, HBT.out⟩
  case rest =>
    obtain ⟨all, bs, firm, fu, off, v, A, c, n, hbes, hokt, hva, hsy, hn, hpre, hal, hbel⟩ := hcut
    subst hva; subst hsy
    have HBS := Lib.hid hbes; have HBT := Lib.hid hbel; have HOKT := Lib.hid hokt; have HPRE := Lib.hid hpre; clear hbes hbel hokt hpre
    go_wp2_with fail
    refine (within_any k0 0 30 _ WK.out (by omega) (by omega) (by omega)).mono ?_; rintro e w' ⟨rfl, rfl⟩
    generalize nWithin k0 0 30 = q at *
    clear WK
    go_wp2_with fail
    refine (boot_any ⟨bs, firm, 20000, fu, off⟩ g _ q _ HBS.out.1 HOKT.out).mono ?_; rintro e w6 ⟨v6, rfl, hat6, ht6⟩
    obtain ⟨hl1, hl2⟩ := Dk.left_in HOKT.out q
    have hf0 := HOKT.out.firm0
    have hfb := HOKT.out.firm
    simp only at hl1 hl2 hf0 hfb
    have hbo := Dk.boot_ok HOKT.out q
    have he : Dk.boot ⟨bs, firm, 20000, fu, off⟩ q = ⟨bs.take (Dk.left ⟨bs, firm, 20000, fu, off⟩ q).toNat, Dk.left ⟨bs, firm, 20000, fu, off⟩ q, 20000, -1, false⟩ := rfl
    rw [he] at hat6 hbo
    generalize Dk.left ⟨bs, firm, 20000, fu, off⟩ q = lf at *
    obtain ⟨m, rfl⟩ := Int.eq_ofNat_of_zero_le (show 0 ≤ lf by omega)
    have hmb : m ≤ bs.length := by omega
    have hbal : bs.length ≤ all.length := HPRE.out.length_le
    have hlm : (bs.take m).length = m := by rw [List.length_take]; omega
    have hte : bs.take m = all.take m := by
      obtain ⟨t, ht⟩ := HPRE.out
      rw [← ht, List.take_append_of_le_length hmb]
    have hat7 : Dk.at ⟨bs.take m, m, 20000, -1, false⟩ w6 g v6 := hat6
    have hok7 : Dk.ok ⟨bs.take m, m, 20000, -1, false⟩ := hbo
    rw [hte] at hat7 hok7 hlm
    have HA7 := Lib.hid hat7; have HOK7 := Lib.hid hok7
    have HB7 := Lib.hid (turned_below HBT.out HBS.out.1 (Nat.le_of_eq HG.out) ht6)
    have hown := ht6.own HBS.out.2.1 (fun e => by have := (HBS.out.2.1.lt g e).1; omega) HBS.out.2.2
    have HO7 := Lib.hid hown; have HLM := Lib.hid hlm
    have hg6 := hat7.1.lt
    have hgw := HG.out
    clear hat6 hat7 hok7 ht6 hbo he hte hown hlm HBS HBT HOKT HPRE
    generalize hxs : all.take m = xs at *
    have HXS := Lib.hid hxs; clear hxs
    go_wp2_with fail
    refine (read_on ⟨xs, m, 20000, -1, false⟩ g v6 w6 HA7.out rfl (by have := HLM.out; show xs.length ≤ 1000000; omega)).mono ?_; rintro e w7 ⟨A7, c7, rfl, hown7, hbel7, hc7, hc8⟩
    have hs7 := hbel7.size
    have HR7 := Lib.hid (Sees.of_own hown7)
    have HA8 := Lib.hid (HA7.out.below hbel7)
    have HB8 := Lib.hid (HB7.out.trans (hbel7.mono (by omega)))
    have ho8 := own_cut (own_below HO7.out hbel7 (Nat.le_refl _)) (show m ≤ all.length by omega)
    rw [Nat.mul_one, u8s_take, HXS.out] at ho8
    have HO8 := Lib.hid (Sees.of_own ho8)
    have hxl : Dk.bs ⟨xs, m, 20000, -1, false⟩ = xs := rfl
    rw [hxl, HLM.out] at HR7 hc7 ⊢
    obtain ⟨hca1, hca2⟩ : all.length ≤ c ∧ c ≤ 9223372036854775807 := by
      obtain ⟨A', c', he, h1, h2⟩ := own_slice HO7.out
      injection he with _ _ he; subst he
      exact ⟨h1, h2⟩
    have hmc : m ≤ c := by omega
    clear hown7 hbel7 HA7 HB7 ho8 hxl HO7
    have hnm : (n : Int) ≤ m := by omega
    have hma : (m : Int) ≤ all.length := by omega
    go_wp2_with fail
    refine (same_u8 A7 A m c7 m c w7.heap.size w7.heap.size xs xs w7 HR7.out HO8.out (by omega) (by omega)).mono ?_; rintro e w8 ⟨rfl, q2, rfl⟩
    have hdec : decide (xs = xs) = true := by simp
    rw [hdec]; clear hdec
    go_wp2_with fail
    refine (firm_any ⟨xs, m, 20000, -1, false⟩ g v6 _ (HA8.out.drewN q2)).mono ?_; rintro e w' ⟨rfl, rfl⟩
    go_wp2_with fail
    refine (off_any ⟨xs, m, 20000, -1, false⟩ g v6 _ (HA8.out.drewN q2)).mono ?_; rintro e w' ⟨rfl, rfl⟩
    go_wp2_with fail
    refine (sync_any ⟨xs, m, 20000, -1, false⟩ g v6 _ (HA8.out.drewN q2) HOK7.out).mono ?_; rintro e w10 ⟨v10, rfl, hat10, ht10⟩
    rw [sync_free rfl rfl]
    have HB10 := Lib.hid (turned_below (below_drewN2 HB8.out q2) (HA8.out.drewN q2) (Nat.le_of_eq HG.out) ht10)
    clear hat10 ht10
    go_wp2_with fail
    refine (disk_runs _).mono ?_; rintro e w12 ⟨rfl, hbel⟩
    have HB12 := Lib.hid (HB10.out.trans (hbel.mono HB10.out.size)); clear hbel
    go_wp2_with fail
    go_ret
    exact ⟨rfl, HB12.out⟩
end Go.Proofs.Ytccajejeanbcmaa
