/- Texts, merged in one. -/
import Derived.Test.YtlmakdclebbbkaaGreatRows
import Derived.Test.YtlmakdclebbbkaaGreatBase
import Derived.Test.YtlmakdclebbbkaaGreatBase12
import Derived.Test.YtlmakdclebbbkaaGreatBase11
import Derived.Test.YtlmakdclebbbkaaGreatBase10
import Derived.WalkSpells
import Derived.Lib.AppendZerosOnto
import Derived.Lib.AppendZeros
import Derived.Lib.Hide
namespace Go.Proofs.YtlmakdclebbbkaaGreat
open Go.ChangeShapes Go.WideShapes Go.ChangeAt Go.RowKit
set_option linter.unusedVariables false
set_option maxRecDepth 100000
theorem Tryz.infoPts : (Tryz.prog.info? 43).map (fun i => (i.zero, i.size, i.bytes)) = some (some (.agg #[.slice none 0 0, .int .i64 0]), 2, 32) := by kernel_rfl
theorem grow_Pts_none (w : World) : Calls Tryz.prog 107 #[.slice none 0 0, .int .i64 0] w fun e w' => e = .returned (.slice none 0 0) ∧ w = w' := by
  go_enter Tryz.func107, Tryz.ntmps107
  go_wp2
  go_ret
  exact ⟨rfl, rfl⟩
theorem grow_Pts_some (n : Nat) (w : World) (h0 : 0 < n) (hn : n ≤ 1000000) :
    Calls Tryz.prog 107 #[.slice none 0 0, .int .i64 n] w (OwnAns 43 2 0 [] w) := by
  obtain ⟨i0, hi, hz0, hz1, hz2⟩ := info_parts Tryz.infoPts
  have hzr : ∀ ty, (Builtin.append_ #[38, 3] ty #[.slice none 0 0, .int .i64 (n : Int)]).run Tryz.prog w =
      .ok (.slice (some ⟨w.heap.size, 0, none⟩) (0 + n) (grownCap w (0 + n) 0 43)) (w.drew.alloc (.cells (#[] ++ Builtin.zeroCells (.agg #[.slice none 0 0, .int .i64 0] : Value).cells n ++ Builtin.zeroCells (.agg #[.slice none 0 0, .int .i64 0] : Value).cells (grownCap w (0 + n) 0 43 - (0 + n))) 43)) := fun ty =>
    Lib.run_append_grow_zeros w 38 3 ty 43 i0 (.agg #[.slice none 0 0, .int .i64 0]) .i64 .i64 Tryz.underlying38 Tryz.underlying3 hi hz0 none 0 0 [] (run_firstCells_none w.drew i0.size 0 0 0) n h0 (by rw [hz1]; decide) (by omega) (by omega) (by rw [hz2]; omega)
      (growslice_fits (by omega) (by rw [hz2]; omega))
  have hG := grownCap_ge w (0 + n) 0 43
  have hG2 := grownCap_le_maxLen w (0 + n) 0 43 (by unfold maxLen; omega)
  have hsz : (#[] ++ Builtin.zeroCells (.agg #[.slice none 0 0, .int .i64 0] : Value).cells n ++ Builtin.zeroCells (.agg #[.slice none 0 0, .int .i64 0] : Value).cells (grownCap w (0 + n) 0 43 - (0 + n))).size = grownCap w (0 + n) 0 43 * 2 := by
    have hzs : (.agg #[.slice none 0 0, .int .i64 0] : Value).cells.size = 2 := rfl
    rw [Array.size_append, Array.size_append, size_zeroCells, size_zeroCells, hzs]; simp only [List.size_toArray, List.length_nil]; omega
  generalize grownCap w (0 + n) 0 43 = G at *
  rw [Nat.zero_add] at hG hsz
  simp only [Nat.zero_add] at hzr
  generalize (#[] ++ Builtin.zeroCells (.agg #[.slice none 0 0, .int .i64 0] : Value).cells n ++ Builtin.zeroCells (.agg #[.slice none 0 0, .int .i64 0] : Value).cells (G - n)) = X at *
  have hown : (w.drew.alloc (.cells X 43)).ownsRow w.heap.size 43 2 (.slice (some ⟨w.heap.size, 0, none⟩) 0 G) 0 [] := World.ownsRow_made w.drew X G (Nat.le_refl _) hG2 hsz
  have HO := Lib.hid hown; clear hown hsz hz0 hz1 hz2
  unfold maxLen at hG2
  go_enter Tryz.func107, Tryz.ntmps107
  go_wp2_with (at_builtin; refine Lib.wpList_append_run _ rfl _ _ _ _ rfl _ _ rfl rfl _ _ (hzr _) ?_)
  go_ret
  exact ownAns HO.out (((Below.refl _ w).drew).alloc (Nat.le_refl _) _) rfl (by omega) (by omega)
def PartsPts (w : World) (B : Nat) (P : Option Addr) (np : Nat) (ls : List (List (PtR))) : Prop :=
  ls.length = np ∧ ∀ j l, ls[j]? = some l → ∃ ad A n c, P = some ad ∧ ad.block < B ∧ w.cell? (ad.add j) = some (.slice A n c) ∧ Sees w B 2 A n (pts l) ∧ n = l.length ∧ n ≤ c ∧ c ≤ 9223372036854775807
theorem PartsPts.below {w w' : World} {B : Nat} {P : Option Addr} {np : Nat} {ls : List (List (PtR))} (h : PartsPts w B P np ls) (hb : Below B w w') : PartsPts w' B P np ls :=
  ⟨h.1, fun j l hj => by
    obtain ⟨ad, A, n, c, h1, h2, h3, h4, h5, h6, h7⟩ := h.2 j l hj
    exact ⟨ad, A, n, c, h1, h2, (hb.cell (by rw [add_block]; exact h2)).trans h3, h4.below hb, h5, h6, h7⟩⟩
theorem PartsPts.more {w : World} {B B' : Nat} {P : Option Addr} {np : Nat} {ls : List (List (PtR))} (h : PartsPts w B P np ls) (hb : B ≤ B') : PartsPts w B' P np ls :=
  ⟨h.1, fun j l hj => by
    obtain ⟨ad, A, n, c, h1, h2, h3, h4, h5, h6, h7⟩ := h.2 j l hj
    exact ⟨ad, A, n, c, h1, by omega, h3, h4.more hb, h5, h6, h7⟩⟩
theorem flat_takePts {ls : List (List (PtR))} {j : Nat} {l : List (PtR)} (h : ls[j]? = some l) : (ls.take (j + 1)).flatten = (ls.take j).flatten ++ l := by
  have hj := (List.getElem?_eq_some_iff.1 h).1
  rw [List.take_succ_eq_append_getElem hj, List.flatten_append]
  have := (List.getElem?_eq_some_iff.1 h).2
  simp [this]
theorem flat_lePts (ls : List (List (PtR))) (j : Nat) : ((ls.take j).flatten).length ≤ ls.flatten.length := by
  have h := congrArg List.flatten (List.take_append_drop j ls)
  rw [List.flatten_append] at h
  have := congrArg List.length h
  rw [List.length_append] at this
  omega
set_option maxHeartbeats 1000000 in
theorem concat_Pts (P : Option Addr) (np cp : Nat) (ls : List (List (PtR))) (w : World) (h : PartsPts w w.heap.size P np ls) (hn : np ≤ 1000000) (hN : ls.flatten.length ≤ 1000000) (hoc : ∀ l ∈ ls, ∀ u ∈ pts l, u.oneCell' = true) :
    Calls Tryz.prog 59 #[.slice P np cp] w (OwnAns 43 2 ls.flatten.length (pts ls.flatten) w) := by
  have H := Lib.hid h; clear h
  have HOC := Lib.hid hoc; clear hoc
  obtain ⟨i0, hi, hz0, hz1, hz2⟩ := info_parts Tryz.infoPts
  have HL := Lib.hid H.out.1
  generalize hNn : ls.flatten.length = N at *
  have HN := Lib.hid hNn; clear hNn
  go_enter Tryz.func59, Tryz.ntmps59
  go_wp2_with fail
  go_loop [3, 11] (fun s i => ∃ j m : Nat, j ≤ np ∧ i = .int .i64 j ∧ s = .int .i64 m ∧ m ≤ N ∧ m = (ls.take j).flatten.length) (fun _ i => np - (intOf i).toNat)
  case atStart => exact ⟨0, 0, Nat.zero_le _, rfl, rfl, Nat.zero_le _, by simp⟩
  case round =>
    obtain ⟨j, m, hj, rfl, rfl, hmN, hm⟩ := hrel
    have HM := Lib.hid hm; clear hm
    by_cases hlt : j < np
    · obtain ⟨l, hl⟩ : ∃ l, ls[j]? = some l := ⟨_, List.getElem?_eq_getElem (by have := HL.out; omega)⟩
      obtain ⟨ad, A, n, c, rfl, h2, h3, h4, h5, h6, h7⟩ := H.out.2 j l hl
      have hle : m + n ≤ N := by
        have h8 := flat_lePts ls (j + 1)
        rw [flat_takePts hl, List.length_append, HN.out] at h8
        have := HM.out; omega
      have HLL := Lib.hid hl; have H5 := Lib.hid h5; clear hl h4 h5
      go_wp2_with fail
      go_round
      case rel => exact ⟨j + 1, m + n, by omega, by go_num, by go_num, by omega, by rw [flat_takePts HLL.out, List.length_append, HM.out, H5.out]⟩
      case measure => simp [intOf]; omega
    · obtain rfl : j = np := by omega
      have hmn : m = N := by rw [HM.out, List.take_of_length_le (by rw [HL.out]; exact Nat.le_refl _), HN.out]
      subst hmn
      clear HM
      by_cases h0 : m = 0
      · have hfl : ls.flatten = [] := List.eq_nil_of_length_eq_zero (by rw [HN.out]; exact h0)
        have HF := Lib.hid hfl
        subst h0
        go_wp2_with fail
        refine (grow_Pts_none w).mono ?_; rintro e w' ⟨rfl, rfl⟩
        go_wp2_with fail
        go_loopw [6, 27] (fun v i wr => ∃ j' : Nat, j' ≤ j ∧ i = .int .i64 j' ∧ wr.ownsRow w.heap.size 43 2 v (ls.take j').flatten.length (pts (ls.take j').flatten) ∧ Below w.heap.size w wr) (fun _ i _ => j - (intOf i).toNat)
        case atStart => exact ⟨0, Nat.zero_le _, rfl, by simpa [pts] using World.ownsRow_nil w w.heap.size 43 2, Below.refl _ _⟩
        case round =>
          obtain ⟨j', hj', rfl, hown, hbel⟩ := hrel
          have HBW := Lib.hid hbel; have hsz := hbel.size; clear hbel
          by_cases hlt2 : j' < j
          · obtain ⟨l, hl⟩ : ∃ l, ls[j']? = some l := ⟨_, List.getElem?_eq_getElem (by have := HL.out; omega)⟩
            obtain ⟨ad, A, n, c, rfl, h2, h3, h4, h5, h6, h7⟩ := (H.out.below HBW.out).2 j' l hl
            have hle : (ls.take j').flatten.length + n ≤ 0 := by
              have h8 := flat_lePts ls (j' + 1)
              rw [flat_takePts hl, List.length_append, HN.out] at h8
              omega
            have HFT := Lib.hid (flat_takePts hl); have HLM := Lib.hid (List.mem_of_getElem? hl)
            have HS := Lib.hid h4; have H5 := Lib.hid h5; clear hl h4 h5
            have HLO := Lib.hid hown.lt
            have HO := Lib.hid hown; clear hown
            generalize (ls.take j').flatten = F at *
            go_wp2_with (at_builtin; refine wpList_append_sees rfl (.tmp 31) (.tmp 32) 38 rfl w.heap.size 43 i0 (.agg #[.slice none 0 0, .int .i64 0]) 2 32 Tryz.underlying38 hi hz0 hz1 hz2 rfl (by decide) _ _ _ rfl HO.out w.heap.size A n _ (pts l) rfl HS.out (HOC.out _ HLM.out) (by unfold maxLen; omega) (by omega) (by omega) ?_)
            intro v' w2 hown hg
            have hb := HBW.out.grown hg (by omega) (fun g hg => (HLO.out g hg).1)
            have H1 := Lib.hid hown; have H2 := Lib.hid hb; clear hown hb hg
            go_wp2_with fail
            go_roundw
            case rel => exact ⟨j' + 1, by omega, by go_num, by rw [HFT.out, List.length_append, ← H5.out, pts_append]; exact H1.out, H2.out⟩
            case measure => simp [intOf]; omega
          · obtain rfl : j' = j := by omega
            obtain ⟨A2, c2, rfl, hc3, hc4⟩ := own_slice hown
            rw [List.take_of_length_le (by rw [HL.out]; exact Nat.le_refl _)] at hown hc3
            rw [HN.out] at hown hc3
            rw [List.take_of_length_le (by rw [HL.out]; exact Nat.le_refl _), HN.out]
            have HO := Lib.hid hown; clear hown
            go_wp2_with fail
            go_ret
            exact ownAns HO.out HBW.out rfl hc3 hc4
      · have hpos : 0 < m := by omega
        clear h0
        go_wp2_with fail
        refine (grow_Pts_some m w hpos (by omega)).mono ?_; rintro e w1 ⟨A1, c1, rfl, hown1, hbel1, hc1, hc2⟩
        have HO1 := Lib.hid hown1; have HB1 := Lib.hid hbel1; clear hown1 hbel1
        go_wp2_with fail
        go_loopw [6, 27] (fun v i wr => ∃ j' : Nat, j' ≤ j ∧ i = .int .i64 j' ∧ wr.ownsRow w.heap.size 43 2 v (ls.take j').flatten.length (pts (ls.take j').flatten) ∧ Below w.heap.size w wr) (fun _ i _ => j - (intOf i).toNat)
        case atStart => exact ⟨0, Nat.zero_le _, rfl, by simpa [pts] using HO1.out, HB1.out⟩
        case round =>
          obtain ⟨j', hj', rfl, hown, hbel⟩ := hrel
          have HBW := Lib.hid hbel; have hsz := hbel.size; clear hbel
          by_cases hlt2 : j' < j
          · obtain ⟨l, hl⟩ : ∃ l, ls[j']? = some l := ⟨_, List.getElem?_eq_getElem (by have := HL.out; omega)⟩
            obtain ⟨ad, A, n, c, rfl, h2, h3, h4, h5, h6, h7⟩ := (H.out.below HBW.out).2 j' l hl
            have hle : (ls.take j').flatten.length + n ≤ m := by
              have h8 := flat_lePts ls (j' + 1)
              rw [flat_takePts hl, List.length_append, HN.out] at h8
              omega
            have HFT := Lib.hid (flat_takePts hl); have HLM := Lib.hid (List.mem_of_getElem? hl)
            have HS := Lib.hid h4; have H5 := Lib.hid h5; clear hl h4 h5
            have HLO := Lib.hid hown.lt
            have HO := Lib.hid hown; clear hown
            generalize (ls.take j').flatten = F at *
            go_wp2_with (at_builtin; refine wpList_append_sees rfl (.tmp 31) (.tmp 32) 38 rfl w.heap.size 43 i0 (.agg #[.slice none 0 0, .int .i64 0]) 2 32 Tryz.underlying38 hi hz0 hz1 hz2 rfl (by decide) _ _ _ rfl HO.out w.heap.size A n _ (pts l) rfl HS.out (HOC.out _ HLM.out) (by unfold maxLen; omega) (by omega) (by omega) ?_)
            intro v' w2 hown hg
            have hb := HBW.out.grown hg (by omega) (fun g hg => (HLO.out g hg).1)
            have H1 := Lib.hid hown; have H2 := Lib.hid hb; clear hown hb hg
            go_wp2_with fail
            go_roundw
            case rel => exact ⟨j' + 1, by omega, by go_num, by rw [HFT.out, List.length_append, ← H5.out, pts_append]; exact H1.out, H2.out⟩
            case measure => simp [intOf]; omega
          · obtain rfl : j' = j := by omega
            obtain ⟨A2, c2, rfl, hc3, hc4⟩ := own_slice hown
            rw [List.take_of_length_le (by rw [HL.out]; exact Nat.le_refl _)] at hown hc3
            rw [HN.out] at hown hc3
            rw [List.take_of_length_le (by rw [HL.out]; exact Nat.le_refl _), HN.out]
            have HO := Lib.hid hown; clear hown
            go_wp2_with fail
            go_ret
            exact ownAns HO.out HBW.out rfl hc3 hc4
end Go.Proofs.YtlmakdclebbbkaaGreat
