/- vec's functions over vectors as values: what a law of chapter 9 calls. -/
import Derived.Test.YtbndmmfpoljeaaaVecMath
import Derived.Test.YtbndmmfpoljeaaaVecRuns
import Derived.Test.YtbndmmfpoljeaaaBase3
namespace Go.Proofs.Ytbndmmfpoljeaaa
open Go.ChangeShapes Go.WideShapes Go.ChangeAt Go.RowKit
set_option linter.unusedVariables false
set_option linter.unusedSimpArgs false
set_option maxRecDepth 100000
/-- v is a vector: these points. -/
def VAt (ps : List Pt) (v : Value) (W : World) : Prop := ∃ A c rows, v = .slice A rows.length c ∧ ptsOf rows = ps ∧ PtsAt 0 (.slice A rows.length c) rows W ∧ rows.length ≤ c ∧ c ≤ 9223372036854775807
theorem VAt.below {ps : List Pt} {v : Value} {W W' : World} (h : VAt ps v W) (hb : Below W.heap.size W W') : VAt ps v W' := by
  obtain ⟨A, c, rows, h1, h2, h3, h4⟩ := h; exact ⟨A, c, rows, h1, h2, h3.below hb, h4⟩
theorem VAt.nil (W : World) : VAt [] (.slice none 0 0) W := ⟨none, 0, [], rfl, rfl, PtsAt.nil _ _, Nat.le_refl _, by omega⟩
theorem vat_of {ps : List Pt} {w w' : World} {e : Ending} (h : PtsAns ps w e w') : ∃ v, e = .returned v ∧ VAt ps v w' ∧ Below w.heap.size w w' := by
  obtain ⟨A, c, rows, h1, h2, h3, h4, h5, h6⟩ := h
  exact ⟨_, h2, ⟨A, c, rows, rfl, h1, h3.mono (Nat.zero_le _), h5, h6⟩, h4⟩
theorem vat_ofE {r : List Pt × Int} {L : List Pt} {er : Int} {w w' : World} {e : Ending} (hr : r = (L, er)) (h : PtsAnsE r w e w') : ∃ v, e = .returned (.tuple #[v, .int .i64 er]) ∧ VAt L v w' ∧ Below w.heap.size w w' := by
  subst hr
  obtain ⟨A, c, rows, h1, h2, h3, h4, h5, h6⟩ := h
  exact ⟨_, h2, ⟨A, c, rows, rfl, h1, h3.mono (Nat.zero_le _), h5, h6⟩, h4⟩
/-- Points that a call takes. -/
structure Fine (ps : List Pt) : Prop where
  sets : ∀ p ∈ ps, p.1.length ≤ 1000
  vals : ∀ p ∈ ps, I64 p.2
theorem Fine.sub {ps qs : List Pt} (h : Fine ps) (hs : ∀ p ∈ qs, p ∈ ps) : Fine qs := ⟨fun p hp => h.sets p (hs p hp), fun p hp => h.vals p (hs p hp)⟩
theorem Fine.app {ps qs : List Pt} (h : Fine ps) (h2 : Fine qs) : Fine (ps ++ qs) := ⟨fun p hp => (List.mem_append.1 hp).elim (h.sets p) (h2.sets p), fun p hp => (List.mem_append.1 hp).elim (h.vals p) (h2.vals p)⟩
theorem Fine.sort {ps : List Pt} (h : Fine ps) : Fine (sortP ps) := h.sub fun p hp => sortP_mem.1 hp
theorem Fine.nil : Fine [] := ⟨fun p hp => absurd hp List.not_mem_nil, fun p hp => absurd hp List.not_mem_nil⟩
theorem VecOk.fine {ps : List Pt} (h : VecOk ps) : Fine ps := ⟨fun p hp => by have := h.few p hp; omega, fun p hp => by have := h.vals p hp; unfold I64; omega⟩
/-- Vectors at hand; all that was there is as it was. -/
structure VS (w0 : World) (L : List (Value × List Pt)) (W : World) : Prop where
  all : ∀ x ∈ L, VAt x.2 x.1 W
  bel : Below w0.heap.size w0 W
theorem VS.below {w0 W W' : World} {L : List (Value × List Pt)} (h : VS w0 L W) (hb : Below W.heap.size W W') : VS w0 L W' := ⟨fun x hx => (h.all x hx).below hb, h.bel.trans (hb.mono h.bel.size)⟩
theorem VS.add {w0 W W' : World} {L : List (Value × List Pt)} {v : Value} {ps : List Pt} (h : VS w0 L W) (hv : VAt ps v W') (hb : Below W.heap.size W W') : VS w0 ((v, ps) :: L) W' := ⟨fun x hx => by
  rcases List.mem_cons.1 hx with rfl | hx
  · exact hv
  · exact (h.all x hx).below hb, h.bel.trans (hb.mono h.bel.size)⟩
theorem VS.at {w0 W : World} {L : List (Value × List Pt)} {v : Value} {ps : List Pt} (h : VS w0 L W) (hm : (v, ps) ∈ L) : VAt ps v W := h.all _ hm
def VAns (ps : List Pt) (w : World) (e : Ending) (w' : World) : Prop := ∃ v, e = .returned v ∧ VAt ps v w' ∧ Below w.heap.size w w'
def VAnsE (ps : List Pt) (er : Int) (w : World) (e : Ending) (w' : World) : Prop := ∃ v, e = .returned (.tuple #[v, .int .i64 er]) ∧ VAt ps v w' ∧ Below w.heap.size w w'
section
variable {x y : Value} {ps qs L : List Pt} {er : Int} {W : World}
theorem twice_v (hx : VAt ps x W) (hl : ps.length ≤ 19) (hf : Fine ps) : Calls Try.prog 25 #[x] W fun e w' => e = .returned (.bool (twiceF (keysP ps))) ∧ Below W.heap.size W w' := by
  obtain ⟨A, c, rows, rfl, rfl, h3, _⟩ := hx
  rw [← keysOf_pts]
  exact twice_any 0 A c rows W h3 (by rw [ptsOf_len] at hl; omega) ((sets_iff rows 1000).2 hf.sets)
theorem sort_v (hx : VAt ps x W) (hl : ps.length ≤ 19) (hf : Fine ps) : Calls Try.prog 23 #[x] W (VAns (sortP ps) W) := by
  obtain ⟨A, c, rows, rfl, rfl, h3, _⟩ := hx
  exact (sort_any 0 A c rows W h3 (by rw [ptsOf_len] at hl; omega) ((sets_iff rows 1000).2 hf.sets)).mono fun e w' h => vat_of h
theorem logic_v (k : Int) (hr : logicR k ps qs = (L, er)) (hx : VAt ps x W) (hy : VAt qs y W) (hl : ps.length + qs.length ≤ 19) (hf : Fine ps) (hg : Fine qs) : Calls Try.prog 21 #[.int .i64 k, x, y] W (VAnsE L er W) := by
  obtain ⟨A, c, rows, rfl, rfl, h3, _⟩ := hx
  obtain ⟨B, d, rb, rfl, rfl, h4, _⟩ := hy
  exact (logic_any 0 0 A B c d rows rb k W h3 h4 (by rw [ptsOf_len, ptsOf_len] at hl; omega) ((sets_iff rows 1000).2 hf.sets) ((sets_iff rb 1000).2 hg.sets)).mono fun e w' h => vat_ofE hr h
theorem filter_v (k : Int) (hr : filterR k ps qs = (L, er)) (hx : VAt ps x W) (hy : VAt qs y W) (hl : ps.length + qs.length ≤ 19) (hf : Fine ps) (hg : Fine qs) : Calls Try.prog 19 #[.int .i64 k, x, y] W (VAnsE L er W) := by
  obtain ⟨A, c, rows, rfl, rfl, h3, _⟩ := hx
  obtain ⟨B, d, rb, rfl, rfl, h4, _⟩ := hy
  rw [ptsOf_len, ptsOf_len] at hl
  exact (filter_any 0 0 A B c d rows rb k W h3 h4 (by omega) (by omega) ((sets_iff rows 1000).2 hf.sets) ((sets_iff rb 1000).2 hg.sets) ((vals_iff rows).2 hf.vals) ((vals_iff rb).2 hg.vals)).mono fun e w' h => vat_ofE hr h
theorem math_v (k : Int) (hr : mathR k ps qs = (L, er)) (hx : VAt ps x W) (hy : VAt qs y W) (hl : ps.length + qs.length ≤ 19) (hf : Fine ps) (hg : Fine qs) : Calls Try.prog 9 #[.int .i64 k, x, y] W (VAnsE L er W) := by
  obtain ⟨A, c, rows, rfl, rfl, h3, _⟩ := hx
  obtain ⟨B, d, rb, rfl, rfl, h4, _⟩ := hy
  rw [ptsOf_len, ptsOf_len] at hl
  exact (math_any 0 0 A B c d rows rb k W h3 h4 (by omega) (by omega) ((sets_iff rows 1000).2 hf.sets) ((sets_iff rb 1000).2 hg.sets) ((vals_iff rows).2 hf.vals) ((vals_iff rb).2 hg.vals)).mono fun e w' h => vat_ofE hr h
theorem scale_v (k n : Int) (first : Bool) (hr : scaleR k n first ps = (L, er)) (hx : VAt ps x W) (hl : ps.length ≤ 19) (hf : Fine ps) (hn : I64 n) : Calls Try.prog 18 #[.int .i64 k, x, .int .i64 n, .bool first] W (VAnsE L er W) := by
  obtain ⟨A, c, rows, rfl, rfl, h3, _⟩ := hx
  rw [ptsOf_len] at hl
  cases first with
  | false => exact (scale_f 0 A c rows k n W h3 hl ((sets_iff rows 1000).2 hf.sets) ((vals_iff rows).2 hf.vals) hn).mono fun e w' h => vat_ofE hr h
  | true => exact (scale_t 0 A c rows k n W h3 hl ((sets_iff rows 1000).2 hf.sets) ((vals_iff rows).2 hf.vals) hn).mono fun e w' h => vat_ofE hr h
theorem above_v (k n : Int) (hx : VAt ps x W) (hl : ps.length ≤ 19) (hf : Fine ps) : Calls Try.prog 20 #[.int .i64 k, x, .int .i64 n] W (VAns (sortP (aboveF k n ps)) W) := by
  obtain ⟨A, c, rows, rfl, rfl, h3, _⟩ := hx
  exact (above_any 0 A c rows k n W h3 (by rw [ptsOf_len] at hl; omega) ((sets_iff rows 1000).2 hf.sets)).mono fun e w' h => vat_of h
theorem group_v (k : Int) (AN : Option Addr) (nn cn : Nat) (ns : List ByteArray) (hr : groupR k ns ps = (L, er)) (hns : Sees W W.heap.size 1 AN nn (strs ns)) (hnn : nn ≤ 9223372036854775807) (hx : VAt ps x W) (hl : ps.length ≤ 19) (hf : Fine ps) : Calls Try.prog 11 #[.int .i64 k, .slice AN nn cn, x] W (VAnsE L er W) := by
  obtain ⟨A, c, rows, rfl, rfl, h3, _⟩ := hx
  exact (group_any 0 A AN c nn cn rows ns k W h3 hns hnn (by rw [ptsOf_len] at hl; omega) ((sets_iff rows 1000).2 hf.sets) ((vals_iff rows).2 hf.vals)).mono fun e w' h => vat_ofE hr h
theorem points_v (hx : VAt ps x W) (hy : VAt qs y W) : Calls Try.prog 12 #[x, y] W fun e w' => e = .returned (.bool (decide (ps = qs))) ∧ Below W.heap.size W w' := by
  obtain ⟨A, c, rows, rfl, rfl, h3, _⟩ := hx
  obtain ⟨B, d, rb, rfl, rfl, h4, _⟩ := hy
  exact points_any 0 0 A B c d rows rb W h3 h4
theorem same_v (hx : VAt ps x W) (hy : VAt qs y W) : Calls Try.prog 13 #[x, y] W fun e w' => e = .returned (.bool (decide (ps = qs))) ∧ Below W.heap.size W w' := by
  obtain ⟨A, c, rows, rfl, rfl, h3, _⟩ := hx
  obtain ⟨B, d, rb, rfl, rfl, h4, _⟩ := hy
  exact sameV_any 0 0 A B c d rows rb W h3 h4
end
theorem AKSetsF.more {w : World} {B B' : Nat} {A : Option Addr} {qs : List KSet} (h : AKSetsF w B A qs) (hb : B ≤ B') : AKSetsF w B' A qs := fun i hi => by
  obtain ⟨ad, e, hB, c0, c1, hk⟩ := h i hi
  exact ⟨ad, e, by omega, c0, c1, ⟨hk.has_.more hb, hk.hasI, hk.n_, hk.vals_.more hb, hk.valsI, hk.n2_⟩⟩
theorem KVec.ok.more {k : KVec} {B B' : Nat} {w : World} (h : k.ok B w) (hb : B ≤ B') : k.ok B' w := ⟨h.sets.more hb, h.nums.more hb, h.i64, h.n1, h.n2_⟩
theorem vec_v {k : KVec} {w0 W : World} (h : k.ok w0.heap.size W) (hs : w0.heap.size ≤ W.heap.size) : Calls Try.prog 14 #[.agg #[.slice k.A k.qs.length k.c, .slice k.A2 k.n2 k.c2]] W (VAns (vecF k) W) :=
  (vec_any k W (h.more hs)).mono fun e w' h => vat_of h
end Go.Proofs.Ytbndmmfpoljeaaa
