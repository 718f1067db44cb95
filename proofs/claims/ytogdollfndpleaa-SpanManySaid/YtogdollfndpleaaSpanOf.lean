/- Package span: Of. -/
import Derived.Test.YtogdollfndpleaaSort
import Derived.Test.YtogdollfndpleaaBookInt
import Derived.Lib.SliceRun
namespace Go.Proofs.Ytogdollfndpleaa
open Go.ChangeShapes Go.WideShapes Go.ChangeAt Go.RowKit
set_option linter.unusedVariables false
set_option maxRecDepth 100000
theorem Try.infoInt3 : (Try.prog.info? 3).map (fun i => (i.zero, i.size, i.bytes)) = some (some (.int .i64 0), 1, 8) := by kernel_rfl
theorem clone_ints (A : Option Addr) (n c : Nat) (l : List Int) (B : Nat) (w : World) (h : Sees w B 1 A n (ints l)) (hB : B ≤ w.heap.size) (hn : n ≤ 1000000) :
    Calls Try.prog 14 #[.slice A n c] w (OwnAns 3 1 n (ints l) w) := by
  have H := Lib.hid h; clear h
  obtain ⟨i0, hi, hz0, hz1, hz2⟩ := info_parts Try.infoInt3
  have hnil := fun w => Lib.run_eql_slice_nil (P := Try.prog) w 22 3 A n c 0 0 Try.underlying22
  cases A with
  | none =>
    have hl := H.out.int_len
    have hn0 : n = 0 := by
      rcases Nat.eq_zero_or_pos n with h | h
      · exact h
      · obtain ⟨_, e, _⟩ := H.out.at_ h; cases e
    subst hn0
    obtain rfl : l = [] := List.eq_nil_of_length_eq_zero hl
    have hr := Lib.hid (show w.ownsRow w.heap.size 3 1 (.slice none 0 0) 0 (ints []) by simpa [ints] using World.ownsRow_nil w w.heap.size 3 1)
    go_enter Try.func14, Try.ntmps14
    go_wp2_with fail
    go_ret
    exact ownAns hr.out (Below.refl _ _) rfl (Nat.le_refl _) (by omega)
  | some ad =>
    have hown0 : (w.alloc (.cells #[] 3)).ownsRow w.heap.size 3 1 (.slice (some ⟨w.heap.size, 0, none⟩) 0 0) 0 [] := World.ownsRow_made w #[] 0 (Nat.le_refl _) (by unfold maxLen; omega) rfl
    have HO := Lib.hid hown0; clear hown0
    go_enter Try.func14, Try.ntmps14
    go_wp2_with (at_builtin; refine wpList_append_sees rfl (.tmp 5) (.tmp 6) 22 rfl w.heap.size 3 i0 (.int .i64 0) 1 8 Try.underlying22 hi hz0 hz1 hz2 rfl (by decide) _ 0 [] rfl HO.out B (some ad) n _ (ints l) rfl (H.out.alloc hB _) (ints_one _) (by unfold maxLen; omega) (by omega) (by simp) ?_)
    intro v' w1 hown hg
    have hb := ((Below.refl w.heap.size w).alloc (Nat.le_refl _) _).grown hg (by simp) (by simp [Value.ownBlock])
    try simp only [Nat.zero_add, List.nil_append] at hown
    obtain ⟨A2, c2, rfl, hc3, hc4⟩ := own_slice hown
    have H1 := Lib.hid hown; have H2 := Lib.hid hb; clear hown hb hg
    go_wp2_with fail
    go_ret
    exact ownAns H1.out H2.out rfl hc3 hc4
def ofStep (l : List (Int × Int)) (t : Int) : List (Int × Int) := if 0 ≤ t ∧ t < 200 then withS l (t, t) else l
def ofF (zs : List Int) : List (Int × Int) := (isort zs).foldl ofStep []
/-- Pairs of ticks. -/
def In200 (l : List (Int × Int)) : Prop := ∀ y ∈ l, 0 ≤ y.1 ∧ y.1 ≤ 199 ∧ 0 ≤ y.2 ∧ y.2 ≤ 199
theorem withS_in {l : List (Int × Int)} {x : Int × Int} (h : In200 l) (hx : 0 ≤ x.1 ∧ x.1 ≤ 199 ∧ 0 ≤ x.2 ∧ x.2 ≤ 199) : In200 (withS l x) := by
  rcases List.eq_nil_or_concat l with rfl | ⟨us, y, rfl⟩
  · intro z hz; simp [withS_nil] at hz; subst hz; exact hx
  · rw [List.concat_eq_append] at *
    rw [withS_last]
    have hy := h y (by simp)
    split
    · intro z hz
      rcases List.mem_append.1 hz with hz | hz
      · exact h z (List.mem_append_left _ hz)
      · rw [List.mem_singleton] at hz; subst hz
        show 0 ≤ y.1 ∧ y.1 ≤ 199 ∧ 0 ≤ (if y.2 < x.2 then x.2 else y.2) ∧ (if y.2 < x.2 then x.2 else y.2) ≤ 199
        split <;> omega
    · intro z hz
      rcases List.mem_append.1 hz with hz | hz
      · exact h z hz
      · rw [List.mem_singleton] at hz; subst hz; exact hx
theorem ofStep_in {l : List (Int × Int)} {t : Int} (h : In200 l) : In200 (ofStep l t) := by
  unfold ofStep
  split
  · rename_i ht; exact withS_in h ⟨ht.1, by show t ≤ 199; omega, ht.1, by show t ≤ 199; omega⟩
  · exact h
theorem ofFold_in (zs : List Int) (l : List (Int × Int)) (h : In200 l) : In200 (zs.foldl ofStep l) := by
  induction zs generalizing l with
  | nil => exact h
  | cons z zs ih => exact ih _ (ofStep_in h)
theorem ofStep_len (l : List (Int × Int)) (t : Int) : (ofStep l t).length ≤ l.length + 1 := by
  unfold ofStep; split
  · exact withS_len _ _
  · omega
theorem ofFold_len (zs : List Int) (l : List (Int × Int)) : (zs.foldl ofStep l).length ≤ l.length + zs.length := by
  induction zs generalizing l with
  | nil => simp
  | cons z zs ih => have := ih (ofStep l z); have := ofStep_len l z; simp only [List.foldl_cons, List.length_cons]; omega
theorem ofFold_step {l : List Int} {k : Nat} (h : k < l.length) : (l.take (k + 1)).foldl ofStep [] = ofStep ((l.take k).foldl ofStep []) l[k] := by
  rw [List.take_succ_eq_append_getElem h, List.foldl_append]; rfl
set_option maxHeartbeats 2000000 in
theorem of_any (A : Option Addr) (n c : Nat) (zs : List Int) (B : Nat) (w : World) (h : Sees w B 1 A n (ints zs)) (hB : B ≤ w.heap.size) (hn : n ≤ 90000) :
    Calls Try.prog 5 #[.slice A n c] w (OwnAns 28 2 (ofF zs).length (smps (ofF zs)) w) := by
  have HC := Lib.hid (clone_ints A n c zs B w h hB (by omega))
  have hln : zs.length = n := h.int_len
  have HL := Lib.hid (show (isort zs).length = n by rw [isort_len, hln])
  clear h hln
  go_enter Try.func5, Try.ntmps5
  go_wp2_with fail
  refine HC.out.mono ?_; rintro e w1 ⟨A1, c1, rfl, hown1, hbel1, hc1, hc2⟩
  have HS := Lib.hid (sort_own w.heap.size A1 n c1 zs w1 hown1 (by omega))
  have HB1 := Lib.hid hbel1
  have HLT := Lib.hid (fun j hj => hown1.lt j hj)
  clear hown1 hbel1 HC
  go_wp2_with fail
  refine HS.out.mono ?_; rintro e w2 ⟨rfl, hown2, hg2⟩
  have HB2 := Lib.hid (HB1.out.grown hg2 HB1.out.size fun k hk => (HLT.out k hk).1)
  have HSE := Lib.hid (Sees.of_own hown2)
  have hs2 := HB2.out.size
  clear hown2 hg2 HS HB1 HLT
  have HZ := Lib.hid (show ofF zs = (isort zs).foldl ofStep [] from rfl)
  generalize isort zs = zz at *
  go_wp2_with fail
  go_loopw [4, 13] (fun v i wr => ∃ (k : Nat) (A2 : Option Addr) (c2 : Nat) (ts : List (Int × Int)), k ≤ n ∧ i = .int .i64 k ∧ v = .slice A2 ts.length c2 ∧ ts = (zz.take k).foldl ofStep [] ∧ wr.ownsRow w2.heap.size 28 2 (.slice A2 ts.length c2) ts.length (smps ts) ∧ Below w2.heap.size w2 wr) (fun _ i _ => n - (intOf i).toNat)
  case atStart => exact ⟨0, none, 0, [], Nat.zero_le _, rfl, rfl, rfl, World.ownsRow_nil _ _ _ _, Below.refl _ _⟩
  case round =>
    obtain ⟨k, A2, c2, ts, hk, rfl, rfl, hts, hown, hbel⟩ := hrel
    have hsz := hbel.size
    have HO := Lib.hid hown; have HBL := Lib.hid hbel; have HT := Lib.hid hts
    have htl : ts.length ≤ k := by
      have := ofFold_len (zz.take k) []
      rw [← hts, List.length_take] at this
      simp at this; omega
    have HIN := Lib.hid (show In200 ts by rw [hts]; exact ofFold_in _ _ (fun y hy => by simp at hy))
    clear hown hbel hts
    by_cases hlt : k < n
    · obtain ⟨ad, hkl, rfl, hc⟩ := (HSE.out.below HBL.out).int hlt
      have HST := Lib.hid (ofFold_step hkl)
      generalize zz[k] = t at *
      by_cases h0 : 0 ≤ t
      · by_cases h1 : t < 200
        · have HN := Lib.hid (show withS ts (t, t) = (zz.take (k + 1)).foldl ofStep [] by rw [HST.out, ← HT.out]; unfold ofStep; rw [if_pos ⟨h0, h1⟩])
          go_wp2_with fail
          refine (with_any w2.heap.size A2 c2 ts.length ts t t wr HO.out hsz (by omega) (fun y hy => by have := HIN.out y hy; omega)).mono ?_; rintro e w3 ⟨A3, c3, rfl, hown3, hbel3, hc3, hc4⟩
          rw [HN.out] at hown3
          rw [HN.out]
          have HO3 := Lib.hid hown3; have HB3 := Lib.hid (HBL.out.trans hbel3)
          clear hown3 hbel3
          go_wp2_with fail
          go_roundw
          case rel => exact ⟨k + 1, A3, c3, _, by omega, by go_num, rfl, rfl, HO3.out, HB3.out⟩
          case measure => simp [intOf]; omega
        · have HN := Lib.hid (show ts = (zz.take (k + 1)).foldl ofStep [] by rw [HST.out, ← HT.out]; unfold ofStep; rw [if_neg (fun h => h1 h.2)])
          go_wp2_with fail
          go_roundw
          case rel => exact ⟨k + 1, A2, c2, ts, by omega, by go_num, rfl, HN.out, HO.out, HBL.out⟩
          case measure => simp [intOf]; omega
      · have HN := Lib.hid (show ts = (zz.take (k + 1)).foldl ofStep [] by rw [HST.out, ← HT.out]; unfold ofStep; rw [if_neg (fun h => h0 h.1)])
        go_wp2_with fail
        go_roundw
        case rel => exact ⟨k + 1, A2, c2, ts, by omega, by go_num, rfl, HN.out, HO.out, HBL.out⟩
        case measure => simp [intOf]; omega
    · obtain rfl : k = n := by omega
      have he : ts = zz.foldl ofStep [] := by rw [HT.out, List.take_of_length_le (by rw [HL.out]; exact Nat.le_refl _)]
      have HE := Lib.hid he; clear he
      obtain ⟨_, _, e, hc3, hc4⟩ := own_slice HO.out
      injection e with e1 _ e2; subst e1; subst e2
      have HOM := Lib.hid (own_mono HO.out hs2)
      have HBB := Lib.hid (HB2.out.trans (HBL.out.mono hs2))
      go_wp2_with fail
      go_ret
      rw [HZ.out, ← HE.out]
      exact ownAns HOM.out HBB.out rfl hc3 hc4
end Go.Proofs.Ytogdollfndpleaa
