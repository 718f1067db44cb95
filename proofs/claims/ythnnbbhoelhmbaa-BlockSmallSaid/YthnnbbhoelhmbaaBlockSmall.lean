/- klaxonlaw5.BlockSmall: the walk. -/
import Derived.Test.YthnnbbhoelhmbaaBlockLawMath
namespace Go.Proofs.Ythnnbbhoelhmbaa
open Go.ChangeShapes Go.WideShapes Go.ChangeAt Go.RowKit
set_option linter.unusedVariables false
set_option maxRecDepth 100000
theorem putF_nil_len : (putF []).length = 1 := by decide +kernel
set_option maxHeartbeats 4000000 in
theorem block_small (n st v : Int) (w : World) (wn : I64 n) (ws : I64 st) (wv : I64 v) :
    Calls Try.prog 6 #[.int .i64 n, .int .i64 st, .int .i64 v] w fun e w' => e = .returned (.bool true) ∧ Below w.heap.size w w' := by
  obtain ⟨k1, k2⟩ := nWithin_in n (lo := 2) (hi := 60) (by omega)
  obtain ⟨s1, s2⟩ := nWithin_in st (lo := 1) (hi := 1000) (by omega)
  have HK := Lib.hid (within_any n 2 60 w wn (by omega) (by omega) (by omega))
  have HS := Lib.hid (within_any st 1 1000 w ws (by omega) (by omega) (by omega))
  have HWV := Lib.hid wv
  clear wn ws wv
  generalize nWithin st 1 1000 = s at *
  obtain ⟨m, hm⟩ : ∃ m : Nat, nWithin n 2 60 = ((m + 2 : Nat) : Int) := ⟨(nWithin n 2 60 - 2).toNat, by omega⟩
  rw [hm] at HK k1 k2
  clear hm
  obtain ⟨q, hq⟩ : ∃ q, m + 2 = q := ⟨_, rfl⟩
  rw [hq] at HK k1 k2
  obtain ⟨i0, hi, hz0, hz1, hz2⟩ := info_parts Try.infoSmp
  have HQ := Lib.hid hq; clear hq
  go_enter Try.func6, Try.ntmps6
  go_wp2_with fail
  refine HK.out.mono ?_; rintro e w' ⟨rfl, rfl⟩
  go_wp2_with fail
  refine HS.out.mono ?_; rintro e w' ⟨rfl, rfl⟩
  go_wp2_with fail
  go_loopg [9, 10] q (fun g x9 x10 wr => ∃ k : Nat, k + g = q ∧ x10 = .int .i64 k ∧ wr.ownsRow w.heap.size 25 2 x9 k (smps (apart s v 0 k)) ∧ Below w.heap.size w wr)
  case atStart => exact ⟨0, by omega, rfl, by simpa [apart, smps] using World.ownsRow_nil _ _ _ _, Below.refl _ _⟩
  case round =>
    clear HK HS
    obtain ⟨k, hkg, rfl, hown, hbel⟩ := hrel
    have HO := Lib.hid hown; have HB := Lib.hid hbel
    have hsz := hbel.size
    clear hown hbel
    cases gk with
    | zero =>
      obtain rfl : k = q := by omega
      obtain ⟨A1, c1, rfl, h1, h2⟩ := own_slice HO.out
      have hS := Sees.of_own HO.out
      have hk2 : 2 ≤ k := by omega
      have hT := hS.take hk2
      have e2 : (smps (apart s v 0 k)).take (2 * 2) = smps (apart s v 0 2) := by
        have := HQ.out
        subst this
        rw [apart, apart]
        simp [smps, apart]
      rw [e2] at hT
      have hp1 := apart_put HWV.out (by omega) (by omega) 1 (by omega)
      have hp2 := apart_put HWV.out (by omega) (by omega) (m + 1) (by have := HQ.out; omega)
      rw [show m + 1 + 1 = k by have := HQ.out; omega] at hp2
      have HT := Lib.hid hT
      have HP1 := Lib.hid (put_any A1 2 c1 _ (apart s v 0 2) wr hT (Nat.le_refl _) (by omega))
      have HS := Lib.hid hS
      have HLE := Lib.hid (show ((putF (apart s v 0 k)).length : Int) = (putF (apart s v 0 2)).length + 2 * ((k : Int) - 2) ∧ 0 < (putF (apart s v 0 2)).length ∧ (putF (apart s v 0 2)).length ≤ 1000 by
        have := num_len s; have := num_len v; have := HQ.out; simp only [Nat.reduceAdd] at hp1; omega)
      clear hT hS e2 hp1 hp2
      go_wp2_with fail
      refine HP1.out.mono ?_; rintro e w2 ⟨A2, c2, rfl, hown2, hb2, h3, h4⟩
      have HB2 := Lib.hid (HB.out.trans (hb2.mono hsz))
      have hs2 := hb2.size
      have HP2 := Lib.hid (put_any A1 k c1 _ (apart s v 0 k) w2 (HS.out.below hb2) hs2 (by omega))
      clear hown2 hb2 HP1 HT HO HB h3 h4
      go_wp2_with fail
      refine HP2.out.mono ?_; rintro e w3 ⟨A3, c3, rfl, hown3, hb3, h3, h4⟩
      have HB3 := Lib.hid (HB2.out.trans (hb3.mono (by omega)))
      have hs3 := HB3.out.size
      have HP3 := Lib.hid (put_any none 0 0 0 [] w3 Sees.nil (Nat.zero_le _) (by omega))
      have HP3L := Lib.hid putF_nil_len
      clear hown3 hb3 HP2 HB2 HS h3 h4
      obtain ⟨l1, l2, l3⟩ := HLE.out
      generalize (putF (apart s v 0 2)).length = p1 at *
      generalize (putF (apart s v 0 k)).length = p2 at *
      have he : ((p2 : Int) == p1 + 2 * ((k : Int) - 2)) = true := by simp; omega
      clear l1 HLE
      go_wp2_with fail
      refine HP3.out.mono ?_; rintro e w4 ⟨A4, c4, rfl, hown4, hb4, h3, h4⟩
      rw [HP3L.out]
      have HB4 := Lib.hid (HB3.out.trans (hb4.mono hs3))
      have hs4 := HB4.out.size
      clear hown4 hb4 HB3 HP3 h3 h4
      go_wp2_with fail
      refine (block_runs w4).mono ?_; rintro e w5 ⟨rfl, hb5⟩
      have HB5 := Lib.hid (HB4.out.trans (hb5.mono hs4))
      clear hb5 HB4
      go_wp2_with fail
      go_ret
      exact ⟨rfl, HB5.out⟩
    | succ g =>
      have hlt : k < q := by omega
      have hmb := mul_bd (s := s) (j := k + 1) (by omega) (by omega) (by omega)
      rw [show ((k + 1 : Nat) : Int) = (k : Int) + 1 by omega] at hmb
      obtain ⟨hm1, hm2⟩ := hmb
      have HSN := Lib.hid (show apart s v 0 (k + 1) = apart s v 0 k ++ [(s * ((k : Int) + 1), v)] by rw [apart_snoc, Nat.zero_add])
      have HX := Lib.hid (new_sees wr 25 (smps [(s * ((k : Int) + 1), v)]) 2 1 rfl)
      have HOA := Lib.hid (HO.out.alloc (.cells (smps [(s * ((k : Int) + 1), v)]).toArray 25))
      have HBA := Lib.hid (HB.out.alloc hsz (.cells (smps [(s * ((k : Int) + 1), v)]).toArray 25))
      clear HO HB
      go_wp2_with (at_builtin; refine wpList_append_at rfl (.tmp 22) (.tmp 29) 26 rfl w.heap.size 25 i0 (.agg #[.int .i64 0, .int .i64 0]) 2 16 Try.underlying26 hi hz0 hz1 hz2 rfl (by decide) _ k (smps (apart s v 0 k)) rfl HOA.out _ _ 1 1 (smps [(s * ((k : Int) + 1), v)]) rfl HX.out (smps_one _) (by unfold maxLen; omega) (by omega) (by simp; omega) ?_)
      intro v3 w3 hown3 hgr3 hwh3
      have HO3 := Lib.hid (show w3.ownsRow w.heap.size 25 2 v3 (k + 1) (smps (apart s v 0 (k + 1))) by rw [HSN.out, smps_append]; exact hown3)
      have HB3 := Lib.hid (HBA.out.grown hgr3 HBA.out.size (fun b hb => (HOA.out.lt b hb).1))
      clear hown3 hgr3 hwh3 HX HOA HBA
      go_wp2_with fail
      go_roundg g
      case measure => omega
      case rel => exact ⟨k + 1, by omega, by go_num, HO3.out, HB3.out⟩
end Go.Proofs.Ythnnbbhoelhmbaa
