/- lset.Parse, and what it calls. -/
import Derived.Test.YtfcjalojgmpnoaaBase
import Derived.Laws.IdiomStrings
import Derived.Laws.BytesArg
namespace Go.Proofs.Ytfcjalojgmpnoaa
open Go.ChangeShapes Go.WideShapes Go.ChangeAt Go.RowKit
set_option linter.unusedVariables false
set_option maxRecDepth 100000
/-- string(b) of a row of the call's own. -/
theorem conv_own {base n c : Nat} {A : Option Addr} {l : List UInt8} (w : World) (h : w.ownsRow base 5 1 (.slice A n c) n (Lib.byteCells l)) (hl : l.length = n) :
    (convert 67 9 (.slice A n c)).run Try.prog w = .ok (.string ⟨l.toArray⟩) w := by
  cases A with
  | none =>
    have hn : n = 0 := by
      rcases Nat.eq_zero_or_pos n with h0 | h0
      · exact h0
      · obtain ⟨g, c', hv, _⟩ := h.form h0; cases hv
    have : l = [] := List.eq_nil_of_length_eq_zero (by omega)
    subst this
    exact run_convert_bytes_nil (w := w) 67 5 Try.underlying67 Try.underlying5 n c _ Try.underlying9
  | some a =>
    subst hl
    exact run_convert_bytes_back w 67 9 5 a c l Try.underlying67 Try.underlying5 Try.underlying9 fun j hj => by
      have hS := Sees.of_own h
      obtain ⟨ad, e, _, hc⟩ := hS.at_ (by omega)
      injection e with e; subst e
      exact hc j _ (by simp [Lib.byteCells, hj])
theorem own_drewN {w : World} {base : Nat} {t : TypeId} {s n : Nat} {v : Value} {xs : List Value} (h : w.ownsRow base t s v n xs) (q : Nat) : (w.drewN q).ownsRow base t s v n xs := h
theorem own_nil (w : World) (base : Nat) (t : TypeId) (s : Nat) : w.ownsRow base t s (.slice none 0 0) 0 [] := World.ownsRow_nil w base t s
theorem byteCells_one' (l : List UInt8) : ∀ u ∈ Lib.byteCells l, u.oneCell' = true := by
  intro u hu; simp only [Lib.byteCells, List.mem_map] at hu; obtain ⟨b, _, rfl⟩ := hu; rfl
/-- What is told of a text that may be one in quotes. -/
def UnqAns (r : Option (List UInt8 × List UInt8)) (w : World) (e : Ending) (w' : World) : Prop :=
  Below w.heap.size w w' ∧ match r with
    | none => e = .returned (.tuple #[.string ⟨#[]⟩, .string ⟨#[]⟩, .bool false])
    | some (v, t) => e = .returned (.tuple #[.string ⟨v.toArray⟩, .string ⟨t.toArray⟩, .bool true])
theorem unqAns_no {w w' : World} {e : Ending} {r : Option (List UInt8 × List UInt8)} (hr : r = none) (hb : Below w.heap.size w w') (he : e = .returned (.tuple #[.string ⟨#[]⟩, .string ⟨#[]⟩, .bool false])) : UnqAns r w e w' := by subst hr; exact ⟨hb, he⟩
theorem unqAns_yes {w w' : World} {e : Ending} {r : Option (List UInt8 × List UInt8)} {v t : List UInt8} (hr : r = some (v, t)) (hb : Below w.heap.size w w') (he : e = .returned (.tuple #[.string ⟨v.toArray⟩, .string ⟨t.toArray⟩, .bool true])) : UnqAns r w e w' := by subst hr; exact ⟨hb, he⟩
theorem drop_byte (r : List UInt8) (k : Nat) (h : k < r.length) : r.drop k = r[k] :: r.drop (k + 1) := List.drop_eq_getElem_cons h
theorem getByte (r : List UInt8) (k : Nat) (h : k < (⟨r.toArray⟩ : ByteArray).size) : (⟨r.toArray⟩ : ByteArray)[k] = r[k]'(by simpa [ByteArray.size] using h) := rfl
theorem unq_step {r acc : List UInt8} {k : Nat} (h : k < r.length) (ha : acc.length ≤ 24) (h34 : r[k] ≠ 34) (h92 : r[k] ≠ 92) : unq (r.drop k) acc = unq (r.drop (k + 1)) (acc ++ [r[k]]) := by
  rw [drop_byte r k h]
  conv => lhs; unfold unq
  rw [if_neg (by omega), if_neg h34, if_neg h92]
theorem unq_end {r acc : List UInt8} {k : Nat} (h : k < r.length) (ha : acc.length ≤ 24) (h34 : r[k] = 34) : unq (r.drop k) acc = some (acc, r.drop (k + 1)) := by
  rw [drop_byte r k h]
  conv => lhs; unfold unq
  rw [if_neg (by omega), if_pos h34]
theorem unq_long {r acc : List UInt8} {k : Nat} (ha : 24 < acc.length) : unq (r.drop k) acc = none := by
  cases r.drop k with
  | nil => unfold unq; rfl
  | cons c t => unfold unq; rw [if_pos ha]
theorem unq_over {r acc : List UInt8} {k : Nat} (h : r.length ≤ k) : unq (r.drop k) acc = none := by
  rw [List.drop_of_length_le h]; unfold unq; rfl
theorem unq_esc {r acc : List UInt8} {k : Nat} (h : k + 1 < r.length) (ha : acc.length ≤ 24) (h92 : r[k] = 92) (he : escB r[k + 1] = true) : unq (r.drop k) acc = unq (r.drop (k + 2)) (acc ++ [r[k + 1]]) := by
  rw [drop_byte r k (by omega), drop_byte r (k + 1) h]
  conv => lhs; unfold unq
  rw [if_neg (by omega), if_neg (by rw [h92]; decide), if_pos h92]
  simp only
  rw [if_pos he]
theorem unq_bad {r acc : List UInt8} {k : Nat} (h : k + 1 < r.length) (ha : acc.length ≤ 24) (h92 : r[k] = 92) (he : escB r[k + 1] = false) : unq (r.drop k) acc = none := by
  rw [drop_byte r k (by omega), drop_byte r (k + 1) h]
  unfold unq
  rw [if_neg (by omega), if_neg (by rw [h92]; decide), if_pos h92]
  simp only
  rw [he]; rfl
theorem unq_last {r acc : List UInt8} {k : Nat} (h : k + 1 = r.length) (ha : acc.length ≤ 24) (h92 : r[k]'(by omega) = 92) : unq (r.drop k) acc = none := by
  rw [drop_byte r k (by omega), List.drop_of_length_le (by omega)]
  unfold unq
  rw [if_neg (by omega), if_neg (by rw [h92]; decide), if_pos h92]
end Go.Proofs.Ytfcjalojgmpnoaa
