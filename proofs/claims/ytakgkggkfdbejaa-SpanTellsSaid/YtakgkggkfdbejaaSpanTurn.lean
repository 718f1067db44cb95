/- Package span: Turns, Right. -/
import Derived.Test.YtakgkggkfdbejaaSpanMore
import Derived.Deep.CutBlock
namespace Go.Proofs.Ytakgkggkfdbejaa
open Go.ChangeShapes Go.WideShapes Go.ChangeAt Go.RowKit
set_option linter.unusedVariables false
set_option maxRecDepth 100000
def turnCells (l : List (Int × Int)) : List Value := l.flatMap fun x => [.int .i64 x.1, .int .i64 x.2, .slice none 0 0]
theorem turnCells_length (l : List (Int × Int)) : (turnCells l).length = l.length * 3 := by
  induction l with
  | nil => rfl
  | cons x l ih => simp only [turnCells, List.flatMap_cons, List.length_append, List.length_cons, List.length_nil] at ih ⊢; omega
theorem turnCells_append (l m : List (Int × Int)) : turnCells (l ++ m) = turnCells l ++ turnCells m := by simp [turnCells]
theorem turnCells_get (l : List (Int × Int)) (p : Nat) (h : p < l.length) : (turnCells l)[p * 3]? = some (.int .i64 l[p].1) ∧ (turnCells l)[p * 3 + 1]? = some (.int .i64 l[p].2) ∧ (turnCells l)[p * 3 + 2]? = some (.slice none 0 0) := by
  have e : turnCells l = turnCells (l.take p) ++ (turnCells [l[p]] ++ turnCells (l.drop (p + 1))) := by
    rw [← turnCells_append, ← turnCells_append, List.singleton_append, ← List.drop_eq_getElem_cons h, List.take_append_drop]
  have hl : (turnCells (l.take p)).length = p * 3 := by rw [turnCells_length, List.length_take]; omega
  rw [e]
  refine ⟨?_, ?_, ?_⟩
  · rw [List.getElem?_append_right (by omega), hl, Nat.sub_self]; rfl
  · rw [List.getElem?_append_right (by omega), hl, show p * 3 + 1 - p * 3 = 1 by omega]; rfl
  · rw [List.getElem?_append_right (by omega), hl, show p * 3 + 2 - p * 3 = 2 by omega]; rfl
/-- A turn of a slice of turns: its cells, by its place. -/
theorem Sees.turn {w : World} {B : Nat} {A : Option Addr} {n : Nat} {l : List (Int × Int)} (h : Sees w B 3 A n (turnCells l)) {k : Nat} (hk : k < n) :
    ∃ ad, ∃ hl : k < l.length, A = some ad ∧ w.cell? (ad.add (k * 3)) = some (.int .i64 l[k].1) ∧ w.cell? ⟨(ad.add (k * 3)).block, (ad.add (k * 3)).off + 1, none⟩ = some (.int .i64 l[k].2) ∧ w.cell? ⟨(ad.add (k * 3)).block, (ad.add (k * 3)).off + 2, none⟩ = some (.slice none 0 0) := by
  have hl : k < l.length := by have := h.len; rw [turnCells_length] at this; omega
  obtain ⟨ad, e, _, hc⟩ := h.at_ (by omega)
  obtain ⟨h0, h1, h2⟩ := turnCells_get l k hl
  exact ⟨ad, hl, e, hc _ _ h0, by rw [add_spelt _ _ _ (by omega)]; exact hc _ _ h1, by rw [add_spelt _ _ _ (by omega)]; exact hc _ _ h2⟩
theorem Sees.turn_len {w : World} {B : Nat} {A : Option Addr} {n : Nat} {l : List (Int × Int)} (h : Sees w B 3 A n (turnCells l)) : l.length = n := by
  have := h.len; rw [turnCells_length] at this; omega
theorem turnCells_one (l : List (Int × Int)) : ∀ u ∈ turnCells l, u.oneCell' = true := by
  intro u hu
  simp only [turnCells, List.mem_flatMap] at hu
  obtain ⟨x, _, hu⟩ := hu
  simp at hu
  rcases hu with rfl | rfl | rfl <;> rfl
theorem Try.infoTurn3 : (Try.prog.info? 48).map (fun i => (i.zero, i.size, i.bytes)) = some (some (.agg #[.int .i64 0, .int .i64 0, .slice none 0 0]), 3, 40) := by kernel_rfl
theorem turn_sees {w : World} {t : TypeId} (a b : Int) : Sees (w.alloc (.cells #[.int .i64 a, .int .i64 b, .slice none 0 0] t)) (w.alloc (.cells #[.int .i64 a, .int .i64 b, .slice none 0 0] t)).heap.size 3 (some ⟨w.heap.size, 0, none⟩) 1 (turnCells [(a, b)]) := by
  have hk : Blk (w.alloc (.cells #[.int .i64 a, .int .i64 b, .slice none 0 0] t)) w.heap.size t (turnCells [(a, b)]) := Blk.mk (heap_alloc_new w _)
  exact hk.sees (turnCells_length _) (List.prefix_refl _)
/-- The state at t. -/
def stateF (p f : List (Int × Int)) (t : Int) : Int := if hasF p t = true then 1 else if hasF f t = true then 2 else 0
def turnsG (p f : List (Int × Int)) : Int → Int → Nat → List (Int × Int)
  | _, _, 0 => []
  | a, t, n + 1 => (if stateF p f t = a then [] else [(t, stateF p f t)]) ++ turnsG p f (stateF p f t) (t + 1) n
def turnsN (n : Int) : Nat := (if 201 < n then 201 else n).toNat
set_option maxHeartbeats 4000000 in
theorem turns_any (A A2 : Option Addr) (n c n2 c2 : Nat) (za zb : List (Int × Int)) (nn : Int) (B : Nat) (w : World) (ha : Sees w B 2 A n (smps za)) (hb : Sees w B 2 A2 n2 (smps zb)) (hB : B ≤ w.heap.size) (hn : n ≤ 40000) (hn2 : n2 ≤ 40000) :
    Calls Try.prog 23 #[.slice A n c, .slice A2 n2 c2, .int .i64 nn] w (OwnAns 48 3 (turnsG (clip za) (clip zb) 0 0 (turnsN nn)).length (turnCells (turnsG (clip za) (clip zb) 0 0 (turnsN nn))) w) := by
  have HC1 := Lib.hid (clipped_any A n c za B w ha hB (by omega))
  have HSB := Lib.hid hb
  have hla : (clip za).length ≤ n := Nat.le_trans (clip_len' _) (by rw [ha.smp_len]; exact Nat.le_refl _)
  have hlb : (clip zb).length ≤ n2 := Nat.le_trans (clip_len' _) (by rw [hb.smp_len]; exact Nat.le_refl _)
  obtain ⟨i0, hi, hz0, hz1, hz2⟩ := info_parts Try.infoTurn3
  obtain ⟨M, hM⟩ : ∃ M : Int, (if 201 < nn then 201 else nn) = M := ⟨_, rfl⟩
  have HN : Hid (turnsN nn = M.toNat) := by show turnsN nn = _; unfold turnsN; rw [hM]
  have hM2 : M ≤ 201 := by rw [← hM]; split <;> omega
  obtain ⟨tot, htot⟩ : ∃ tot, turnsG (clip za) (clip zb) 0 0 (turnsN nn) = tot := ⟨_, rfl⟩
  rw [htot]
  rw [HN.out] at htot
  have HTOT := Lib.hid htot
  clear ha hb htot HN
  go_enter Try.func23, Try.ntmps23
  go_wp2_with fail
  refine HC1.out.mono ?_; rintro e w1 ⟨A3, c3, rfl, hown1, hbel1, hc1, hc2⟩
  have HC2 := Lib.hid (clipped_any A2 n2 c2 zb B w1 (HSB.out.below (hbel1.mono hB)) (Nat.le_trans hB hbel1.size) (by omega))
  have HB1 := Lib.hid hbel1; have HO1 := Lib.hid hown1
  have hs1 := hbel1.size
  clear hown1 hbel1 HC1 HSB
  go_wp2_with fail
  refine HC2.out.mono ?_; rintro e w2 ⟨A4, c4, rfl, hown2, hbel2, hc3, hc4⟩
  have HB2 := Lib.hid (HB1.out.trans (hbel2.mono hs1))
  have HSA := Lib.hid (Sees.of_own (own_below HO1.out hbel2 (Nat.le_refl _)))
  have HSB := Lib.hid (Sees.of_own hown2)
  have hs2 := HB2.out.size
  clear hown2 hbel2 HC2 HB1 HO1
  generalize clip za = ls at *
  generalize clip zb = ms at *
  generalize hn3 : ls.length = n3 at *
  generalize hm3 : ms.length = m3 at *
  obtain ⟨N, hN⟩ : ∃ N : Nat, M.toNat = N := ⟨_, rfl⟩
  rw [hN] at HTOT
  have HNN := Lib.hid hN
  clear hn3 hm3 hN
  go_wp2_with fail
  go_loopg [7, 8, 17] N (fun g x7 x8 x17 wr => ∃ (k : Nat) (a : Int) (v : Value) (ts : List (Int × Int)), k + g = N ∧ x7 = v ∧ x8 = .int .i64 a ∧ x17 = .int .i64 k ∧ wr.ownsRow w2.heap.size 48 3 v ts.length (turnCells ts) ∧ Below w2.heap.size w2 wr ∧ ts.length ≤ k ∧ tot = ts ++ turnsG ls ms a k g)
  case atStart => exact ⟨0, 0, _, [], by omega, rfl, rfl, rfl, World.ownsRow_nil _ _ _ _, Below.refl _ _, by simp, HTOT.out.symm⟩
  case round =>
    obtain ⟨k, a, v, ts, hkg, rfl, rfl, rfl, hown, hbel, htl, htot⟩ := hrel
    have HO := Lib.hid hown; have HBL := Lib.hid hbel; have HT := Lib.hid htot
    clear hown hbel htot
    have hNM := HNN.out
    cases gk with
    | zero =>
      have hno : ¬ (k : Int) < M := by omega
      have HE := Lib.hid (show tot = ts by rw [HT.out]; simp [turnsG])
      obtain ⟨A5, c5, rfl, hc5, hc6⟩ := own_slice HO.out
      have HOM := Lib.hid (own_mono HO.out hs2)
      have HBB := Lib.hid (HB2.out.trans (HBL.out.mono hs2))
      clear HO HBL hNM
      go_wp2_with fail
      go_ret
      rw [HE.out]
      exact ownAns HOM.out HBB.out rfl hc5 hc6
    | succ g =>
      have hyes : (k : Int) < M := by omega
      have hk201 : k ≤ 201 := by omega
      clear hNM
      have hszr := HBL.out.size
      have HH1 := Lib.hid (has_any A3 n3 c3 ls (k : Int) w2.heap.size wr (HSA.out.below HBL.out) hszr (by omega))
      have HH2 := Lib.hid (fun w5 (h5 : Below wr.heap.size wr w5) => has_any A4 m3 c4 ms (k : Int) w2.heap.size w5 (HSB.out.below (HBL.out.trans (h5.mono hszr))) (Nat.le_trans hszr h5.size) (by omega))
      obtain ⟨s, hs⟩ : ∃ s, stateF ls ms k = s := ⟨_, rfl⟩
      have HS := Lib.hid hs
      have HSTEP := Lib.hid (show turnsG ls ms a k (g + 1) = (if s = a then [] else [((k : Int), s)]) ++ turnsG ls ms s (k + 1) g by rw [turnsG, hs])
      clear hs
      go_upto_block 2 with fail
      go_cut [10] (fun x wx => x = .int .i64 s ∧ Below wr.heap.size wr wx)
      case first =>
        by_cases hp : hasF ls k = true
        · have hs1 : s = 1 := by rw [← HS.out]; unfold stateF; rw [if_pos hp]
          subst hs1
          rw [hp] at HH1
          clear hp
          go_wp2_with fail
          refine HH1.out.mono ?_; rintro e w5 ⟨rfl, hb5⟩
          have HB5 := Lib.hid hb5; clear hb5
          go_wp2_with fail
          go_meet
          exact ⟨rfl, HB5.out⟩
        · have hp2 : hasF ls k = false := by simpa using hp
          rw [hp2] at HH1
          by_cases hf : hasF ms k = true
          · have hs1 : s = 2 := by rw [← HS.out]; unfold stateF; rw [if_neg hp, if_pos hf]
            subst hs1
            rw [hf] at HH2
            clear hp hp2 hf
            go_wp2_with fail
            refine HH1.out.mono ?_; rintro e w5 ⟨rfl, hb5⟩
            have HB5 := Lib.hid hb5; clear hb5
            go_wp2_with fail
            refine (HH2.out _ HB5.out).mono ?_; rintro e w6 ⟨rfl, hb6⟩
            have HB6 := Lib.hid (HB5.out.trans (hb6.mono HB5.out.size)); clear hb6
            go_wp2_with fail
            go_meet
            exact ⟨rfl, HB6.out⟩
          · have hs1 : s = 0 := by rw [← HS.out]; unfold stateF; rw [if_neg hp, if_neg hf]
            subst hs1
            have hf2 : hasF ms k = false := by simpa using hf
            rw [hf2] at HH2
            clear hp hp2 hf hf2
            go_wp2_with fail
            refine HH1.out.mono ?_; rintro e w5 ⟨rfl, hb5⟩
            have HB5 := Lib.hid hb5; clear hb5
            go_wp2_with fail
            refine (HH2.out _ HB5.out).mono ?_; rintro e w6 ⟨rfl, hb6⟩
            have HB6 := Lib.hid (HB5.out.trans (hb6.mono HB5.out.size)); clear hb6
            go_wp2_with fail
            go_meet
            exact ⟨rfl, HB6.out⟩
      case rest =>
        obtain ⟨rfl, hbx⟩ := hcut
        have HO2 := Lib.hid (own_below HO.out hbx (Nat.le_refl _))
        have HB3 := Lib.hid (HBL.out.trans (hbx.mono hszr))
        have hszx := HB3.out.size
        clear HO HBL hbx HH1 HH2
        by_cases hsa : s = a
        · have hb : (s != a) = false := by simp [hsa]
          have HSS := Lib.hid (show tot = ts ++ turnsG ls ms s (k + 1) g by rw [HT.out, HSTEP.out, if_pos hsa, List.nil_append])
          clear hsa
          go_wp2_with fail
          go_roundg g
          case measure => omega
          case rel => exact ⟨k + 1, s, _, ts, by omega, rfl, rfl, by go_num, HO2.out, HB3.out, by omega, HSS.out⟩
        · have hb : (s != a) = true := by simp [hsa]
          have HSS := Lib.hid (show tot = (ts ++ [((k : Int), s)]) ++ turnsG ls ms s (k + 1) g by rw [HT.out, HSTEP.out, if_neg hsa, List.append_assoc])
          clear hsa
          have HOA := Lib.hid (HO2.out.alloc (.cells #[.int .i64 k, .int .i64 s, .slice none 0 0] 48))
          have HBA := Lib.hid (HB3.out.alloc hszx (.cells #[.int .i64 k, .int .i64 s, .slice none 0 0] 48))
          have HX := Lib.hid (turn_sees (w := wc) (t := 48) k s)
          go_wp2_with (at_builtin; refine wpList_append_sees rfl (.tmp 31) (.tmp 35) 44 rfl w2.heap.size 48 i0 (.agg #[.int .i64 0, .int .i64 0, .slice none 0 0]) 3 40 Try.underlying44 hi hz0 hz1 hz2 rfl (by decide) _ ts.length (turnCells ts) rfl HOA.out _ _ 1 1 (turnCells [((k : Int), s)]) rfl HX.out (turnCells_one _) (by unfold maxLen; omega) (by omega) (by simp; omega) ?_)
          intro v3 w3 hown3 hgr3
          have R1 := Lib.hid (show w3.ownsRow w2.heap.size 48 3 v3 (ts ++ [((k : Int), s)]).length (turnCells (ts ++ [((k : Int), s)])) by rw [turnCells_append, List.length_append]; exact hown3)
          have R2 := Lib.hid (HBA.out.grown hgr3 (by simp; omega) fun q hq => (HOA.out.lt q hq).1)
          clear hown3 hgr3 HX HOA HBA HO2 HB3
          go_wp2_with fail
          go_roundg g
          case measure => omega
          case rel => exact ⟨k + 1, s, v3, ts ++ [((k : Int), s)], by omega, rfl, rfl, by go_num, R1.out, R2.out, by rw [List.length_append, List.length_singleton]; omega, HSS.out⟩
end Go.Proofs.Ytakgkggkfdbejaa
