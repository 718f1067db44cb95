/- lex: tokens as plain functions. -/
import Derived.Test.YtealflkblkfhbaaDoorLexBase
namespace Go.Proofs.YtealflkblkfhbaaDoor
open Go.ChangeShapes Go.WideShapes Go.ChangeAt Go.RowKit
set_option linter.unusedVariables false
set_option maxRecDepth 100000
/-- A token: its kind, its number, its place, its text. -/
structure Tok where
  kd : Int
  n : Int
  at_ : Int
  tx : ByteArray
def Tok.val (t : Tok) : Value := .agg #[.int .i64 t.kd, .int .i64 t.n, .int .i64 t.at_, .string t.tx]
/-- Digits read down, below nought. -/
def numGo : Int → List UInt8 → Option (Int × Nat)
  | n, [] => some (n, 0)
  | n, c :: r => if digitN c.toNat = true then (if n < (-9223372036854775808 + ((c.toNat : Int) - 48)).tdiv 10 then none else (numGo (n * 10 - ((c.toNat : Int) - 48)) r).map fun p => (p.1, p.2 + 1)) else some (n, 0)
/-- .. from so many bytes on. -/
def numAt (k : Nat) (n : Int) (l : List UInt8) : Option (Int × Nat) := (numGo n l).map fun p => (p.1, k + p.2)
theorem numAt_end (k : Nat) (n : Int) : numAt k n [] = some (n, k) := rfl
theorem numAt_stop {k : Nat} {n : Int} {c : UInt8} {r : List UInt8} (h : digitN c.toNat = false) : numAt k n (c :: r) = some (n, k) := by
  unfold numAt numGo; rw [if_neg (by rw [h]; simp)]; rfl
theorem numAt_over {k : Nat} {n : Int} {c : UInt8} {r : List UInt8} (h : digitN c.toNat = true) (h2 : n < (-9223372036854775808 + ((c.toNat : Int) - 48)).tdiv 10) : numAt k n (c :: r) = none := by
  unfold numAt numGo; rw [if_pos h, if_pos h2]; rfl
theorem numAt_next {k : Nat} {n : Int} {c : UInt8} {r : List UInt8} (h : digitN c.toNat = true) (h2 : ¬ n < (-9223372036854775808 + ((c.toNat : Int) - 48)).tdiv 10) : numAt k n (c :: r) = numAt (k + 1) (n * 10 - ((c.toNat : Int) - 48)) r := by
  conv => lhs; unfold numAt numGo
  rw [if_pos h, if_neg h2]
  unfold numAt
  rw [Option.map_map]
  congr 1
  funext p
  simp only [Function.comp_apply]
  rw [show k + 1 + p.2 = k + (p.2 + 1) by omega]
/-- A number at a text's beginning: it, and its bytes. -/
def numF (l : List UInt8) : Option (Int × Nat) :=
  if l.head? = some 45 then numAt 1 0 (l.drop 1)
  else match numAt 0 0 l with
    | none => none
    | some (n, u) => if n = -9223372036854775808 then none else some (-n, u)
/-- How many bytes of a word there are. -/
def spanW (l : List UInt8) : Nat := (l.takeWhile fun c => withinN c.toNat).length
theorem spanW_nil : spanW [] = 0 := rfl
theorem spanW_yes {c : UInt8} {r : List UInt8} (h : withinN c.toNat = true) : spanW (c :: r) = spanW r + 1 := by simp [spanW, h]
theorem spanW_no {c : UInt8} {r : List UInt8} (h : withinN c.toNat = false) : spanW (c :: r) = 0 := by simp [spanW, h]
theorem tdiv_min (d : Int) (h0 : 0 ≤ d) (h9 : d ≤ 9) : ∃ t, (-9223372036854775808 + d).tdiv 10 = t ∧ -922337203685477580 ≤ t ∧ t ≤ 0 ∧ -9223372036854775808 + d ≤ t * 10 := by
  have e : (-9223372036854775808 + d).tdiv 10 = -((9223372036854775808 - d) / 10) := by
    rw [show -9223372036854775808 + d = -(9223372036854775808 - d) by omega, Int.neg_tdiv, Int.tdiv_eq_ediv_of_nonneg (by omega)]
  exact ⟨_, e, by omega, by omega, by omega⟩
/-- What is told of a text's first token. -/
def FirstAns (r : Option (Tok × Nat)) (w : World) (e : Ending) (w' : World) : Prop :=
  Below w.heap.size w w' ∧ match r with
    | none => e = .returned (.tuple #[.agg #[.int .i64 0, .int .i64 0, .int .i64 0, .string ⟨#[]⟩], .int .i64 0])
    | some (t, u) => e = .returned (.tuple #[.agg #[.int .i64 t.kd, .int .i64 t.n, .int .i64 t.at_, .string t.tx], .int .i64 u])
theorem firstAns_no {r : Option (Tok × Nat)} {w w' : World} {e : Ending} (hr : r = none) (hb : Below w.heap.size w w') (he : e = .returned (.tuple #[.agg #[.int .i64 0, .int .i64 0, .int .i64 0, .string ⟨#[]⟩], .int .i64 0])) : FirstAns r w e w' := by subst hr; exact ⟨hb, he⟩
theorem firstAns_yes {r : Option (Tok × Nat)} {w w' : World} {e : Ending} {t : Tok} {u : Nat} (hr : r = some (t, u)) (hb : Below w.heap.size w w') (he : e = .returned (.tuple #[.agg #[.int .i64 t.kd, .int .i64 t.n, .int .i64 t.at_, .string t.tx], .int .i64 u])) : FirstAns r w e w' := by subst hr; exact ⟨hb, he⟩
def numT (r : Option (Int × Nat)) : Option (Tok × Nat) := r.map fun p => (⟨1, p.1, 0, ⟨#[]⟩⟩, p.2)
def wordT (s : ByteArray) : Option (Tok × Nat) := if spanW (s.data.toList.drop 1) + 1 > 24 then none else some (⟨2, 0, 0, s.extract 0 (spanW (s.data.toList.drop 1) + 1)⟩, spanW (s.data.toList.drop 1) + 1)
/-- Four cells of a box written anew. -/
def set4W (w : World) (b : Nat) (v0 v1 v2 v3 : Value) : World := (((w.setCell ⟨b, 0, none⟩ v0).setCell ⟨b, 1, none⟩ v1).setCell ⟨b, 2, none⟩ v2).setCell ⟨b, 3, none⟩ v3
theorem set4W_blk {w : World} {b : Nat} {t : TypeId} {x0 x1 x2 x3 : Value} (h : Blk w b t [x0, x1, x2, x3]) (v0 v1 v2 v3 : Value) : Blk (set4W w b v0 v1 v2 v3) b t [v0, v1, v2, v3] := (((h.set 0 v0).set 1 v1).set 2 v2).set 3 v3
theorem set4W_below {w0 w : World} {b : Nat} (h : Below w0.heap.size w0 w) (hb : w0.heap.size ≤ b) (v0 v1 v2 v3 : Value) : Below w0.heap.size w0 (set4W w b v0 v1 v2 v3) :=
  (((h.setCell (p := ⟨b, 0, none⟩) hb v0).setCell (p := ⟨b, 1, none⟩) hb v1).setCell (p := ⟨b, 2, none⟩) hb v2).setCell (p := ⟨b, 3, none⟩) hb v3
theorem blk_cells4 {w : World} {b : Nat} {t : TypeId} {x0 x1 x2 x3 : Value} (h : Blk w b t [x0, x1, x2, x3]) : w.cell? ⟨b, 0, none⟩ = some x0 ∧ w.cell? ⟨b, 1, none⟩ = some x1 ∧ w.cell? ⟨b, 2, none⟩ = some x2 ∧ w.cell? ⟨b, 3, none⟩ = some x3 :=
  ⟨h.cell 0, h.cell 1, h.cell 2, h.cell 3⟩
end Go.Proofs.YtealflkblkfhbaaDoor
