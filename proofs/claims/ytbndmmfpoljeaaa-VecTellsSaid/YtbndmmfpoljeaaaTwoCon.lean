/- klaxonref7's functions over vectors as values. -/
import Derived.Test.YtbndmmfpoljeaaaRef7g
import Derived.Test.YtbndmmfpoljeaaaRef7k
import Derived.Test.YtbndmmfpoljeaaaVecCon
namespace Go.Proofs.Ytbndmmfpoljeaaa
open Go.ChangeShapes Go.WideShapes Go.ChangeAt Go.RowKit
set_option linter.unusedVariables false
set_option linter.unusedSimpArgs false
set_option maxRecDepth 100000
/-- Points whose sets the reference prints. -/
structure SOk (ps : List Pt) : Prop where
  few : ∀ p ∈ ps, p.1.length ≤ 1000
  size : ∀ p ∈ ps, ∀ x ∈ p.1, x.1.size ≤ 9223372036854775807
  vals : ∀ p ∈ ps, I64 p.2
theorem sok_rows {rows : List PtR} (h : SOk (ptsOf rows)) : SetsOk rows ∧ ∀ p ∈ rows, I64 p.val := by
  have hm : ∀ p ∈ rows, (p.set, p.val) ∈ ptsOf rows := fun p hp => by unfold ptsOf; exact List.mem_map.2 ⟨p, hp, rfl⟩
  exact ⟨fun p hp => ⟨h.few _ (hm p hp), h.size _ (hm p hp)⟩, fun p hp => h.vals _ (hm p hp)⟩
theorem VecOk.sok {ps : List Pt} (h : VecOk ps) : SOk ps := ⟨fun p hp => by have := h.few p hp; omega, fun p hp x hx => by
  have h1 := rightS_ok (h.right p hp) x hx
  unfold lblOk wordF at h1
  simp only [Bool.and_eq_true, decide_eq_true_eq] at h1
  omega, fun p hp => by have := h.vals p hp; unfold I64; omega⟩
/-- Two's answer as a value. -/
def TAns (L : List Pt) (er : Int) (w : World) (e : Ending) (w' : World) : Prop := ∃ (ty : Int) (v : Value), e = .returned (.tuple #[.agg #[.int .i64 ty, .int .i64 0, v], .int .i64 er]) ∧ VAt L v w' ∧ Below w.heap.size w w'
theorem tans_of {r : List Pt × Int} {L : List Pt} {er : Int} {w w' : World} {e : Ending} (hr : r = (L, er)) (h : TwoAns r w e w') : TAns L er w e w' := by
  subst hr
  obtain ⟨ty, A, c, rows, h1, h2, h3, h4, h5, h6⟩ := h
  exact ⟨ty, _, h2, ⟨A, c, rows, rfl, h1, h3.mono (Nat.zero_le _), h5, h6⟩, h4⟩
theorem sorted_v {x : Value} {ps : List Pt} {W : World} (hx : VAt ps x W) (hl : ps.length ≤ 19) (hf : SOk ps) : Calls Try.prog 24 #[x] W (VAns (sortP ps) W) := by
  obtain ⟨A, c, rows, rfl, rfl, h3, h4, _⟩ := hx
  rw [ptsOf_len] at hl
  exact (sorted_r 0 A rows.length c rows W h3 rfl (by omega) (sok_rows hf).1).mono fun e w' h => vat_of h
section
variable {x y : Value} {ps qs L : List Pt} {er : Int} {W : World}
theorem two_nv_v (k n : Int) (hr : scaleR k n true qs = (L, er)) (hy : VAt qs y W) (hl : qs.length ≤ 19) (hg : SOk qs) (wn : I64 n) (h1 : 3 ≤ k) (h2 : k ≤ 7) : Calls Try.prog 16 #[.int .i64 k, .agg #[.int .i64 1, .int .i64 n, .slice none 0 0], .agg #[.int .i64 2, .int .i64 0, y]] W (TAns L er W) := by
  obtain ⟨B, d, rb, rfl, rfl, h4, h5, _⟩ := hy
  rw [ptsOf_len] at hl
  exact (two_nv 0 B d rb k n W h4 h5 hl (sok_rows hg).1 (sok_rows hg).2 wn h1 h2).mono fun e w' h => tans_of hr h
theorem two_vn_v (k n : Int) (hr : scaleR k n false qs = (L, er)) (hy : VAt qs y W) (hl : qs.length ≤ 19) (hg : SOk qs) (wn : I64 n) (h1 : 3 ≤ k) (h2 : k ≤ 7) : Calls Try.prog 16 #[.int .i64 k, .agg #[.int .i64 2, .int .i64 0, y], .agg #[.int .i64 1, .int .i64 n, .slice none 0 0]] W (TAns L er W) := by
  obtain ⟨B, d, rb, rfl, rfl, h4, h5, _⟩ := hy
  rw [ptsOf_len] at hl
  exact (two_vn 0 B d rb k n W h4 h5 hl (sok_rows hg).1 (sok_rows hg).2 wn h1 h2).mono fun e w' h => tans_of hr h
theorem two_cn_v (k n : Int) (hy : VAt qs y W) (hl : qs.length ≤ 19) (hg : SOk qs) (wn : I64 n) (h1 : 8 ≤ k) (h2 : k ≤ 13) : Calls Try.prog 16 #[.int .i64 k, .agg #[.int .i64 2, .int .i64 0, y], .agg #[.int .i64 1, .int .i64 n, .slice none 0 0]] W (TAns (sortP (aboveF k n qs)) 0 W) := by
  obtain ⟨B, d, rb, rfl, rfl, h4, h5, _⟩ := hy
  rw [ptsOf_len] at hl
  exact (two_cn 0 B d rb k n W h4 h5 hl (sok_rows hg).1 (sok_rows hg).2 wn h1 h2).mono fun e w' h => tans_of (above_eq k n _) h
theorem two_mm_v (k : Int) (hr : mathR k ps qs = (L, er)) (hx : VAt ps x W) (hy : VAt qs y W) (hl : ps.length ≤ 19) (hm : qs.length ≤ 19) (hf : SOk ps) (hg : SOk qs) (h1 : 3 ≤ k) (h2 : k ≤ 7) : Calls Try.prog 16 #[.int .i64 k, .agg #[.int .i64 2, .int .i64 0, x], .agg #[.int .i64 2, .int .i64 0, y]] W (TAns L er W) := by
  obtain ⟨A, c, ra, rfl, rfl, h3, h6, _⟩ := hx
  obtain ⟨B, d, rb, rfl, rfl, h4, h5, _⟩ := hy
  rw [ptsOf_len] at hl hm
  exact (two_mm 0 0 A B c d ra rb k W h3 h4 h6 h5 hl hm (sok_rows hf).1 (sok_rows hg).1 (sok_rows hf).2 (sok_rows hg).2 h1 h2).mono fun e w' h => tans_of hr h
theorem two_cc_v (k : Int) (hr : filterR k ps qs = (L, er)) (hx : VAt ps x W) (hy : VAt qs y W) (hl : ps.length ≤ 19) (hm : qs.length ≤ 19) (hf : SOk ps) (hg : SOk qs) (h1 : 8 ≤ k) (h2 : k ≤ 13) : Calls Try.prog 16 #[.int .i64 k, .agg #[.int .i64 2, .int .i64 0, x], .agg #[.int .i64 2, .int .i64 0, y]] W (TAns L er W) := by
  obtain ⟨A, c, ra, rfl, rfl, h3, h6, _⟩ := hx
  obtain ⟨B, d, rb, rfl, rfl, h4, h5, _⟩ := hy
  rw [ptsOf_len] at hl hm
  exact (two_cc 0 0 A B c d ra rb k W h3 h4 h6 h5 hl hm (sok_rows hf).1 (sok_rows hg).1 (sok_rows hf).2 (sok_rows hg).2 h1 h2).mono fun e w' h => tans_of hr h
theorem two_ll_v (k : Int) (hr : logicR k ps qs = (L, er)) (hx : VAt ps x W) (hy : VAt qs y W) (hl : ps.length ≤ 19) (hm : qs.length ≤ 19) (hf : SOk ps) (hg : SOk qs) (h1 : 14 ≤ k) (h2 : k ≤ 16) : Calls Try.prog 16 #[.int .i64 k, .agg #[.int .i64 2, .int .i64 0, x], .agg #[.int .i64 2, .int .i64 0, y]] W (TAns L er W) := by
  obtain ⟨A, c, ra, rfl, rfl, h3, h6, _⟩ := hx
  obtain ⟨B, d, rb, rfl, rfl, h4, h5, _⟩ := hy
  rw [ptsOf_len] at hl hm
  rcases (show k = 14 ∨ k = 15 ∨ k = 16 by omega) with rfl | rfl | rfl
  · exact (two_and 0 0 A B c d ra rb 14 W h3 h4 h6 h5 hl hm (sok_rows hf).1 (sok_rows hg).1 (sok_rows hf).2 (sok_rows hg).2 (by omega) (by omega)).mono fun e w' h => tans_of ((and_eq _ _).trans hr) h
  · exact (two_or 0 0 A B c d ra rb 15 W h3 h4 h6 h5 hl hm (sok_rows hf).1 (sok_rows hg).1 (sok_rows hf).2 (sok_rows hg).2 (by omega) (by omega)).mono fun e w' h => tans_of ((or_eq _ _).trans hr) h
  · exact (two_un 0 0 A B c d ra rb 16 W h3 h4 h6 h5 hl hm (sok_rows hf).1 (sok_rows hg).1 (sok_rows hf).2 (sok_rows hg).2 (by omega) (by omega)).mono fun e w' h => tans_of ((un_eq _ _).trans hr) h
end
end Go.Proofs.Ytbndmmfpoljeaaa
