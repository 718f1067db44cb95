/- Texts, merged in one. -/
import Derived.Test.YtlmakdclebbbkaaGreatRows
import Derived.Test.YtlmakdclebbbkaaGreatBase
import Derived.Test.YtlmakdclebbbkaaGreatBase7
import Derived.WalkSpells
import Derived.Lib.AppendZerosOnto
import Derived.Lib.AppendZeros
import Derived.Lib.Hide
import Derived.WalkKit
import Derived.ProofKit
import Derived.Deep.QuietTactic
import Derived.BigQuiet
import Derived.Laws.CopyOwn
namespace Go.Proofs.YtlmakdclebbbkaaGreat
open Go.ChangeShapes Go.WideShapes Go.ChangeAt Go.RowKit
set_option linter.unusedVariables false
set_option maxRecDepth 100000
theorem Tryz.infoSmp : (Tryz.prog.info? 30).map (fun i => (i.zero, i.size, i.bytes)) = some (some (.agg #[.int .i64 0, .int .i64 0]), 2, 16) := by kernel_rfl
theorem grow_Smp_none (w : World) : Calls Tryz.prog 112 #[.slice none 0 0, .int .i64 0] w fun e w' => e = .returned (.slice none 0 0) ∧ w = w' := by
  go_enter Tryz.func112, Tryz.ntmps112
  go_wp2
  go_ret
  exact ⟨rfl, rfl⟩
theorem grow_Smp_some (n : Nat) (w : World) (h0 : 0 < n) (hn : n ≤ 1000000) :
    Calls Tryz.prog 112 #[.slice none 0 0, .int .i64 n] w (OwnAns 30 2 0 [] w) := by
  obtain ⟨i0, hi, hz0, hz1, hz2⟩ := info_parts Tryz.infoSmp
  have hzr : ∀ ty, (Builtin.append_ #[86, 3] ty #[.slice none 0 0, .int .i64 (n : Int)]).run Tryz.prog w =
      .ok (.slice (some ⟨w.heap.size, 0, none⟩) (0 + n) (grownCap w (0 + n) 0 30)) (w.drew.alloc (.cells (#[] ++ Builtin.zeroCells (.agg #[.int .i64 0, .int .i64 0] : Value).cells n ++ Builtin.zeroCells (.agg #[.int .i64 0, .int .i64 0] : Value).cells (grownCap w (0 + n) 0 30 - (0 + n))) 30)) := fun ty =>
    Lib.run_append_grow_zeros w 86 3 ty 30 i0 (.agg #[.int .i64 0, .int .i64 0]) .i64 .i64 Tryz.underlying86 Tryz.underlying3 hi hz0 none 0 0 [] (run_firstCells_none w.drew i0.size 0 0 0) n h0 (by rw [hz1]; decide) (by omega) (by omega) (by rw [hz2]; omega)
      (growslice_fits (by omega) (by rw [hz2]; omega))
  have hG := grownCap_ge w (0 + n) 0 30
  have hG2 := grownCap_le_maxLen w (0 + n) 0 30 (by unfold maxLen; omega)
  have hsz : (#[] ++ Builtin.zeroCells (.agg #[.int .i64 0, .int .i64 0] : Value).cells n ++ Builtin.zeroCells (.agg #[.int .i64 0, .int .i64 0] : Value).cells (grownCap w (0 + n) 0 30 - (0 + n))).size = grownCap w (0 + n) 0 30 * 2 := by
    have hzs : (.agg #[.int .i64 0, .int .i64 0] : Value).cells.size = 2 := rfl
    rw [Array.size_append, Array.size_append, size_zeroCells, size_zeroCells, hzs]; simp only [List.size_toArray, List.length_nil]; omega
  generalize grownCap w (0 + n) 0 30 = G at *
  rw [Nat.zero_add] at hG hsz
  simp only [Nat.zero_add] at hzr
  generalize (#[] ++ Builtin.zeroCells (.agg #[.int .i64 0, .int .i64 0] : Value).cells n ++ Builtin.zeroCells (.agg #[.int .i64 0, .int .i64 0] : Value).cells (G - n)) = X at *
  have hown : (w.drew.alloc (.cells X 30)).ownsRow w.heap.size 30 2 (.slice (some ⟨w.heap.size, 0, none⟩) 0 G) 0 [] := World.ownsRow_made w.drew X G (Nat.le_refl _) hG2 hsz
  have HO := Lib.hid hown; clear hown hsz hz0 hz1 hz2
  unfold maxLen at hG2
  go_enter Tryz.func112, Tryz.ntmps112
  go_wp2_with (at_builtin; refine Lib.wpList_append_run _ rfl _ _ _ _ rfl _ _ rfl rfl _ _ (hzr _) ?_)
  go_ret
  exact ownAns HO.out (((Below.refl _ w).drew).alloc (Nat.le_refl _) _) rfl (by omega) (by omega)
def PartsSmp (w : World) (B : Nat) (P : Option Addr) (np : Nat) (ls : List (List (Int × Int))) : Prop :=
  ls.length = np ∧ ∀ j l, ls[j]? = some l → ∃ ad A n c, P = some ad ∧ ad.block < B ∧ w.cell? (ad.add j) = some (.slice A n c) ∧ Sees w B 2 A n (smps l) ∧ n = l.length ∧ n ≤ c ∧ c ≤ 9223372036854775807
theorem PartsSmp.below {w w' : World} {B : Nat} {P : Option Addr} {np : Nat} {ls : List (List (Int × Int))} (h : PartsSmp w B P np ls) (hb : Below B w w') : PartsSmp w' B P np ls :=
  ⟨h.1, fun j l hj => by
    obtain ⟨ad, A, n, c, h1, h2, h3, h4, h5, h6, h7⟩ := h.2 j l hj
    exact ⟨ad, A, n, c, h1, h2, (hb.cell (by rw [add_block]; exact h2)).trans h3, h4.below hb, h5, h6, h7⟩⟩
theorem PartsSmp.more {w : World} {B B' : Nat} {P : Option Addr} {np : Nat} {ls : List (List (Int × Int))} (h : PartsSmp w B P np ls) (hb : B ≤ B') : PartsSmp w B' P np ls :=
  ⟨h.1, fun j l hj => by
    obtain ⟨ad, A, n, c, h1, h2, h3, h4, h5, h6, h7⟩ := h.2 j l hj
    exact ⟨ad, A, n, c, h1, by omega, h3, h4.more hb, h5, h6, h7⟩⟩
theorem flat_takeSmp {ls : List (List (Int × Int))} {j : Nat} {l : List (Int × Int)} (h : ls[j]? = some l) : (ls.take (j + 1)).flatten = (ls.take j).flatten ++ l := by
  have hj := (List.getElem?_eq_some_iff.1 h).1
  rw [List.take_succ_eq_append_getElem hj, List.flatten_append]
  have := (List.getElem?_eq_some_iff.1 h).2
  simp [this]
theorem flat_leSmp (ls : List (List (Int × Int))) (j : Nat) : ((ls.take j).flatten).length ≤ ls.flatten.length := by
  have h := congrArg List.flatten (List.take_append_drop j ls)
  rw [List.flatten_append] at h
  have := congrArg List.length h
  rw [List.length_append] at this
  omega
set_option maxHeartbeats 1000000 in
theorem concat_Smp (P : Option Addr) (np cp : Nat) (ls : List (List (Int × Int))) (w : World) (h : PartsSmp w w.heap.size P np ls) (hn : np ≤ 1000000) (hN : ls.flatten.length ≤ 1000000) :
    Calls Tryz.prog 66 #[.slice P np cp] w (OwnAns 30 2 ls.flatten.length (smps ls.flatten) w) := by
  have H := Lib.hid h; clear h
  obtain ⟨i0, hi, hz0, hz1, hz2⟩ := info_parts Tryz.infoSmp
  have HL := Lib.hid H.out.1
  generalize hNn : ls.flatten.length = N at *
  have HN := Lib.hid hNn; clear hNn
  go_enter Tryz.func66, Tryz.ntmps66
  go_wp2_with fail
  go_loop [3, 11] (fun s i => ∃ j m : Nat, j ≤ np ∧ i = .int .i64 j ∧ s = .int .i64 m ∧ m ≤ N ∧ m = (ls.take j).flatten.length) (fun _ i => np - (intOf i).toNat)
  case atStart => exact ⟨0, 0, Nat.zero_le _, rfl, rfl, Nat.zero_le _, by simp⟩
  case round =>
    obtain ⟨j, m, hj, rfl, rfl, hmN, hm⟩ := hrel
    have HM := Lib.hid hm; clear hm
    by_cases hlt : j < np
    · obtain ⟨l, hl⟩ : ∃ l, ls[j]? = some l := ⟨_, List.getElem?_eq_getElem (by have := HL.out; omega)⟩
      obtain ⟨ad, A, n, c, rfl, h2, h3, h4, h5, h6, h7⟩ := H.out.2 j l hl
      have hle : m + n ≤ N := by
        have h8 := flat_leSmp ls (j + 1)
        rw [flat_takeSmp hl, List.length_append, HN.out] at h8
        have := HM.out; omega
      have HLL := Lib.hid hl; have H5 := Lib.hid h5; clear hl h4 h5
      go_wp2_with fail
      go_round
      case rel => exact ⟨j + 1, m + n, by omega, by go_num, by go_num, by omega, by rw [flat_takeSmp HLL.out, List.length_append, HM.out, H5.out]⟩
      case measure => simp [intOf]; omega
    · obtain rfl : j = np := by omega
      have hmn : m = N := by rw [HM.out, List.take_of_length_le (by rw [HL.out]; exact Nat.le_refl _), HN.out]
      subst hmn
      clear HM
      by_cases h0 : m = 0
      · have hfl : ls.flatten = [] := List.eq_nil_of_length_eq_zero (by rw [HN.out]; exact h0)
        have HF := Lib.hid hfl
        subst h0
        go_wp2_with fail
        refine (grow_Smp_none w).mono ?_; rintro e w' ⟨rfl, rfl⟩
        go_wp2_with fail
        go_loopw [6, 27] (fun v i wr => ∃ j' : Nat, j' ≤ j ∧ i = .int .i64 j' ∧ wr.ownsRow w.heap.size 30 2 v (ls.take j').flatten.length (smps (ls.take j').flatten) ∧ Below w.heap.size w wr) (fun _ i _ => j - (intOf i).toNat)
        case atStart => exact ⟨0, Nat.zero_le _, rfl, by simpa [smps] using World.ownsRow_nil w w.heap.size 30 2, Below.refl _ _⟩
        case round =>
          obtain ⟨j', hj', rfl, hown, hbel⟩ := hrel
          have HBW := Lib.hid hbel; have hsz := hbel.size; clear hbel
          by_cases hlt2 : j' < j
          · obtain ⟨l, hl⟩ : ∃ l, ls[j']? = some l := ⟨_, List.getElem?_eq_getElem (by have := HL.out; omega)⟩
            obtain ⟨ad, A, n, c, rfl, h2, h3, h4, h5, h6, h7⟩ := (H.out.below HBW.out).2 j' l hl
            have hle : (ls.take j').flatten.length + n ≤ 0 := by
              have h8 := flat_leSmp ls (j' + 1)
              rw [flat_takeSmp hl, List.length_append, HN.out] at h8
              omega
            have HFT := Lib.hid (flat_takeSmp hl)
            have HS := Lib.hid h4; have H5 := Lib.hid h5; clear hl h4 h5
            have HLO := Lib.hid hown.lt
            have HO := Lib.hid hown; clear hown
            generalize (ls.take j').flatten = F at *
            go_wp2_with (at_builtin; refine wpList_append_sees rfl (.tmp 31) (.tmp 32) 86 rfl w.heap.size 30 i0 (.agg #[.int .i64 0, .int .i64 0]) 2 16 Tryz.underlying86 hi hz0 hz1 hz2 rfl (by decide) _ _ _ rfl HO.out w.heap.size A n _ (smps l) rfl HS.out (smps_one _) (by unfold maxLen; omega) (by omega) (by omega) ?_)
            intro v' w2 hown hg
            have hb := HBW.out.grown hg (by omega) (fun g hg => (HLO.out g hg).1)
            have H1 := Lib.hid hown; have H2 := Lib.hid hb; clear hown hb hg
            go_wp2_with fail
            go_roundw
            case rel => exact ⟨j' + 1, by omega, by go_num, by rw [HFT.out, List.length_append, ← H5.out, smps_append]; exact H1.out, H2.out⟩
            case measure => simp [intOf]; omega
          · obtain rfl : j' = j := by omega
            obtain ⟨A2, c2, rfl, hc3, hc4⟩ := own_slice hown
            rw [List.take_of_length_le (by rw [HL.out]; exact Nat.le_refl _)] at hown hc3
            rw [HN.out] at hown hc3
            rw [List.take_of_length_le (by rw [HL.out]; exact Nat.le_refl _), HN.out]
            have HO := Lib.hid hown; clear hown
            go_wp2_with fail
            go_ret
            exact ownAns HO.out HBW.out rfl hc3 hc4
      · have hpos : 0 < m := by omega
        clear h0
        go_wp2_with fail
        refine (grow_Smp_some m w hpos (by omega)).mono ?_; rintro e w1 ⟨A1, c1, rfl, hown1, hbel1, hc1, hc2⟩
        have HO1 := Lib.hid hown1; have HB1 := Lib.hid hbel1; clear hown1 hbel1
        go_wp2_with fail
        go_loopw [6, 27] (fun v i wr => ∃ j' : Nat, j' ≤ j ∧ i = .int .i64 j' ∧ wr.ownsRow w.heap.size 30 2 v (ls.take j').flatten.length (smps (ls.take j').flatten) ∧ Below w.heap.size w wr) (fun _ i _ => j - (intOf i).toNat)
        case atStart => exact ⟨0, Nat.zero_le _, rfl, by simpa [smps] using HO1.out, HB1.out⟩
        case round =>
          obtain ⟨j', hj', rfl, hown, hbel⟩ := hrel
          have HBW := Lib.hid hbel; have hsz := hbel.size; clear hbel
          by_cases hlt2 : j' < j
          · obtain ⟨l, hl⟩ : ∃ l, ls[j']? = some l := ⟨_, List.getElem?_eq_getElem (by have := HL.out; omega)⟩
            obtain ⟨ad, A, n, c, rfl, h2, h3, h4, h5, h6, h7⟩ := (H.out.below HBW.out).2 j' l hl
            have hle : (ls.take j').flatten.length + n ≤ m := by
              have h8 := flat_leSmp ls (j' + 1)
              rw [flat_takeSmp hl, List.length_append, HN.out] at h8
              omega
            have HFT := Lib.hid (flat_takeSmp hl)
            have HS := Lib.hid h4; have H5 := Lib.hid h5; clear hl h4 h5
            have HLO := Lib.hid hown.lt
            have HO := Lib.hid hown; clear hown
            generalize (ls.take j').flatten = F at *
            go_wp2_with (at_builtin; refine wpList_append_sees rfl (.tmp 31) (.tmp 32) 86 rfl w.heap.size 30 i0 (.agg #[.int .i64 0, .int .i64 0]) 2 16 Tryz.underlying86 hi hz0 hz1 hz2 rfl (by decide) _ _ _ rfl HO.out w.heap.size A n _ (smps l) rfl HS.out (smps_one _) (by unfold maxLen; omega) (by omega) (by omega) ?_)
            intro v' w2 hown hg
            have hb := HBW.out.grown hg (by omega) (fun g hg => (HLO.out g hg).1)
            have H1 := Lib.hid hown; have H2 := Lib.hid hb; clear hown hb hg
            go_wp2_with fail
            go_roundw
            case rel => exact ⟨j' + 1, by omega, by go_num, by rw [HFT.out, List.length_append, ← H5.out, smps_append]; exact H1.out, H2.out⟩
            case measure => simp [intOf]; omega
          · obtain rfl : j' = j := by omega
            obtain ⟨A2, c2, rfl, hc3, hc4⟩ := own_slice hown
            rw [List.take_of_length_le (by rw [HL.out]; exact Nat.le_refl _)] at hown hc3
            rw [HN.out] at hown hc3
            rw [List.take_of_length_le (by rw [HL.out]; exact Nat.le_refl _), HN.out]
            have HO := Lib.hid hown; clear hown
            go_wp2_with fail
            go_ret
            exact ownAns HO.out HBW.out rfl hc3 hc4
end Go.Proofs.YtlmakdclebbbkaaGreat

namespace Go.Proofs.YtlmakdclebbbkaaGreat
open Go.ChangeShapes Go.WideShapes Go.ChangeAt Go.RowKit
set_option linter.unusedVariables false
theorem take_eq_snoc {zs ys : List Int} {k : Nat} (h1 : k < zs.length) (h2 : k < ys.length) (h : zs.take k = ys.take k) (he : zs[k] = ys[k]) : zs.take (k + 1) = ys.take (k + 1) := by
  rw [List.take_succ_eq_append_getElem h1, List.take_succ_eq_append_getElem h2, h, he]
theorem same_int (A A2 : Option Addr) (n c n2 c2 B B2 : Nat) (zs ys : List Int) (w : World) (h : Sees w B 1 A n (ints zs)) (h2 : Sees w B2 1 A2 n2 (ints ys)) (hn : n ≤ 9223372036854775807) (hn2 : n2 ≤ 9223372036854775807) :
    Calls Tryz.prog 12 #[.slice A n c, .slice A2 n2 c2] w fun e w' => e = .returned (.bool (decide (zs = ys))) ∧ ∃ m, w' = w.drewN m := by
  have H := Lib.hid h; clear h
  have H2 := Lib.hid h2; clear h2
  have HL := Lib.hid H.out.int_len
  have HL2 := Lib.hid H2.out.int_len
  by_cases hnn : n = n2
  · subst hnn
    go_enter Tryz.func12, Tryz.ntmps12
    go_wp2
    go_loopw [5] (fun i wr => ∃ k m : Nat, k ≤ n ∧ i = .int .i64 k ∧ wr = w.drewN m ∧ zs.take k = ys.take k) (fun i _ => n - (intOf i).toNat)
    case atStart => exact ⟨0, 0, Nat.zero_le _, rfl, rfl, rfl⟩
    case round =>
      obtain ⟨k, m, hk, rfl, rfl, ht⟩ := hrel
      have HT := Lib.hid ht; clear ht
      by_cases hlt : k < n
      · obtain ⟨ad, hkl, rfl, hc⟩ := H.out.int hlt
        obtain ⟨ad2, hkl2, rfl, hc2⟩ := H2.out.int hlt
        have hq := Lib.hid (take_eq_snoc hkl hkl2 HT.out)
        have hne : Hid (zs[k] ≠ ys[k] → zs ≠ ys) := fun h e => h (by subst e; rfl)
        generalize zs[k] = x at *
        generalize ys[k] = y at *
        by_cases hxy : x = y
        · subst hxy
          have hd : (x == x) = true := by simp
          go_wp2
          go_quiet (fail)
          go_wp2
          go_roundw
          case rel => exact ⟨k + 1, _, by omega, by go_num, rfl, hq.out (by simp)⟩
          case measure => simp [intOf]; omega
        · have hd : (x == y) = false := by simpa using hxy
          have hz := Lib.hid (hne.out hxy); clear hxy
          go_wp2
          go_quiet (fail)
          go_wp2
          go_ret
          exact ⟨ret_bool (decide_eq_false hz.out).symm, _, World.drewN_drewN _ _ _⟩
      · obtain rfl : k = n := by omega
        have he : zs = ys := by
          have := HT.out; rwa [List.take_of_length_le (by rw [HL.out]; omega), List.take_of_length_le (by rw [HL2.out]; omega)] at this
        have HE := Lib.hid (decide_eq_true he); clear he
        go_wp2
        go_ret
        exact ⟨ret_bool HE.out.symm, m, rfl⟩
  · have hz : zs ≠ ys := fun e => hnn (by rw [← HL.out, ← HL2.out, e])
    have hb : ((n : Int) == n2) = false := beq_eq_false_iff_ne.2 (by omega)
    have HE := Lib.hid (decide_eq_false hz); clear hz
    go_enter Tryz.func12, Tryz.ntmps12
    go_wp2
    go_ret
    exact ⟨ret_bool HE.out.symm, 0, rfl⟩

end Go.Proofs.YtlmakdclebbbkaaGreat
