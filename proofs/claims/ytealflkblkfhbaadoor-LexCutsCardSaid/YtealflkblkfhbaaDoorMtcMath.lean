/- Matchers as cells, where the seat has no package match. -/
import Derived.Test.YtealflkblkfhbaaDoorLexMath
import Derived.Test.YtealflkblkfhbaaDoorKept
import Derived.Test.YtealflkblkfhbaaDoorArgs
namespace Go.Proofs.YtealflkblkfhbaaDoor
open Go.ChangeShapes Go.WideShapes Go.ChangeAt Go.RowKit
set_option linter.unusedVariables false
set_option maxRecDepth 100000
abbrev Mtc := ByteArray × ByteArray × Int
/-- Matchers as cells: names, values and kinds. -/
def mtcs (l : List Mtc) : List Value := l.flatMap fun x => [.string x.1, .string x.2.1, .int .i64 x.2.2]
theorem mtcs_length (l : List Mtc) : (mtcs l).length = l.length * 3 := by
  induction l with
  | nil => rfl
  | cons x l ih => simp only [mtcs, List.flatMap_cons, List.length_append, List.length_cons, List.length_nil] at ih ⊢; omega
theorem mtcs_append (l m : List Mtc) : mtcs (l ++ m) = mtcs l ++ mtcs m := by simp [mtcs]
theorem mtcs_one (l : List Mtc) : ∀ u ∈ mtcs l, u.oneCell' = true := by
  intro u hu
  simp only [mtcs, List.mem_flatMap] at hu
  obtain ⟨x, _, hu⟩ := hu
  simp at hu
  rcases hu with rfl | rfl | rfl <;> rfl
theorem mtcs_get (l : List Mtc) (p : Nat) (h : p < l.length) : (mtcs l)[p * 3]? = some (.string l[p].1) ∧ (mtcs l)[p * 3 + 1]? = some (.string l[p].2.1) ∧ (mtcs l)[p * 3 + 2]? = some (.int .i64 l[p].2.2) := by
  have e : mtcs l = mtcs (l.take p) ++ (mtcs [l[p]] ++ mtcs (l.drop (p + 1))) := by
    rw [← mtcs_append, ← mtcs_append, List.singleton_append, ← List.drop_eq_getElem_cons h, List.take_append_drop]
  have hl : (mtcs (l.take p)).length = p * 3 := by rw [mtcs_length, List.length_take]; omega
  rw [e]
  refine ⟨?_, ?_, ?_⟩
  · rw [List.getElem?_append_right (by omega), hl, Nat.sub_self]; rfl
  · rw [List.getElem?_append_right (by omega), hl, show p * 3 + 1 - p * 3 = 1 by omega]; rfl
  · rw [List.getElem?_append_right (by omega), hl, show p * 3 + 2 - p * 3 = 2 by omega]; rfl
theorem mtcs_take (l : List Mtc) (k : Nat) : (mtcs l).take (k * 3) = mtcs (l.take k) := by
  by_cases h : k ≤ l.length
  · conv => lhs; rw [← List.take_append_drop k l, mtcs_append]
    rw [List.take_append_of_le_length (by rw [mtcs_length, List.length_take]; omega), List.take_of_length_le (by rw [mtcs_length, List.length_take]; omega)]
  · rw [List.take_of_length_le (by rw [mtcs_length]; omega), List.take_of_length_le (by omega)]
theorem mtcs_drop (l : List Mtc) (k : Nat) : (mtcs l).drop (k * 3) = mtcs (l.drop k) := by
  by_cases h : k ≤ l.length
  · have hl : (mtcs (l.take k)).length = k * 3 := by rw [mtcs_length, List.length_take]; omega
    conv => lhs; rw [← List.take_append_drop k l, mtcs_append]
    rw [← hl, List.drop_left]
  · rw [List.drop_of_length_le (by rw [mtcs_length]; omega), List.drop_of_length_le (by omega)]; rfl
theorem Sees.mtc {w : World} {B : Nat} {A : Option Addr} {n : Nat} {l : List Mtc} (h : Sees w B 3 A n (mtcs l)) {k : Nat} (hk : k < n) :
    ∃ ad, ∃ hl : k < l.length, A = some ad ∧ w.cell? (ad.add (k * 3)) = some (.string l[k].1) ∧ w.cell? ⟨(ad.add (k * 3)).block, (ad.add (k * 3)).off + 1, none⟩ = some (.string l[k].2.1) ∧ w.cell? ⟨(ad.add (k * 3)).block, (ad.add (k * 3)).off + 2, none⟩ = some (.int .i64 l[k].2.2) := by
  have hl : k < l.length := by have := h.len; rw [mtcs_length] at this; omega
  obtain ⟨ad, e, _, hc⟩ := h.at_ (by omega)
  obtain ⟨h0, h1, h2⟩ := mtcs_get l k hl
  exact ⟨ad, hl, e, hc _ _ h0, by rw [add_spelt _ _ _ (by omega)]; exact hc _ _ h1, by rw [add_spelt _ _ _ (by omega)]; exact hc _ _ h2⟩
theorem Sees.mtc_len {w : World} {B : Nat} {A : Option Addr} {n : Nat} {l : List Mtc} (h : Sees w B 3 A n (mtcs l)) : l.length = n := by
  have := h.len; rw [mtcs_length] at this; omega
/-- A kind's sign. -/
def signF (k : Int) : ByteArray := if k = 1 then ⟨#[61]⟩ else if k = 2 then ⟨#[33, 61]⟩ else if k = 3 then ⟨#[94, 61]⟩ else if k = 4 then ⟨#[33, 94]⟩ else ⟨#[]⟩
/-- A value is these matchers. -/
def HasM (w : World) (v : Value) (l : List Mtc) : Prop := ∃ A c, v = .slice A l.length c ∧ Sees w w.heap.size 3 A l.length (mtcs l) ∧ l.length ≤ c ∧ c ≤ 9223372036854775807
theorem HasM.below {w w' : World} {v : Value} {l : List Mtc} (h : HasM w v l) (hb : Below w.heap.size w w') : HasM w' v l := by
  obtain ⟨A, c, h1, h2, h3⟩ := h
  exact ⟨A, c, h1, (h2.below hb).more hb.size, h3⟩
theorem HasM.drewN {w : World} {v : Value} {l : List Mtc} (h : HasM w v l) (n : Nat) : HasM (w.drewN n) v l := by
  obtain ⟨A, c, h1, h2, h3⟩ := h
  exact ⟨A, c, h1, h2.drewN n, h3⟩
theorem HasM.sees {w : World} {A : Option Addr} {n c : Nat} {l : List Mtc} (h : HasM w (.slice A n c) l) : Sees w w.heap.size 3 A n (mtcs l) := by
  obtain ⟨A', c', h1, h2, h3, h4⟩ := h
  injection h1 with h1 h5 h6
  subst h1; subst h5; subst h6
  exact h2
def mtcL (x : Mtc) : List UInt8 := x.1.data.toList ++ ((signF x.2.2).data.toList ++ quoteL x.2.1.data.toList)
/-- Matchers' texts, commas between. -/
def joinM : List Mtc → List UInt8
  | [] => []
  | x :: l => mtcL x ++ (if l.isEmpty then [] else 44 :: joinM l)
theorem joinM_snoc (l : List Mtc) (x : Mtc) : joinM (l ++ [x]) = joinM l ++ (if l.isEmpty then mtcL x else 44 :: mtcL x) := by
  induction l with
  | nil => simp [joinM]
  | cons y l ih =>
    rw [List.cons_append, joinM, joinM, ih]
    cases l <;> simp [joinM]
end Go.Proofs.YtealflkblkfhbaaDoor
