/- A map[int]bool of the call's own, as a set with its size. -/
import Derived.Test.YtogdollfndpleaaBMap
namespace Go.Proofs.Ytogdollfndpleaa
open Go.RowKit Go.Maps
set_option linter.unusedVariables false
/-- Block b is a map that answers f, of m keys, put in at most n times; each key answers true. -/
def BSet (w : World) (b n : Nat) (f : Int → Bool) (m : Nat) : Prop :=
  ∃ D : DataW Unit, w.ownsMap Try.prog 3 (plainElem Try.prog 4) b n D ∧ Tidy D ∧ (∀ t : Int, D.atKey (.int .i64 t) (.lit (.bool false)) = .lit (.bool (f t))) ∧ (∀ t : Int, has D (.int .i64 t) = f t) ∧ size D = m
theorem BSet.bmap {w : World} {b n m : Nat} {f : Int → Bool} (h : BSet w b n f m) : BMap w b n f := by
  obtain ⟨D, h1, h2, h3, _⟩ := h; exact ⟨D, h1, h2.isMap, h3⟩
theorem BSet.made (w : World) : BSet (w.alloc (.map #[] 0)) w.heap.size 0 (fun _ => false) 0 :=
  ⟨.map [], World.ownsMap_made _ _ _ _, tidy_empty, fun t => rfl, fun t => rfl, rfl⟩
theorem BSet.lt {w : World} {b n m : Nat} {f : Int → Bool} (h : BSet w b n f m) : b < w.heap.size := h.bmap.lt
theorem BSet.kept {w w' : World} {b n m : Nat} {f : Int → Bool} {row : Option Nat} (h : BSet w b n f m) (hg : w.grownBy w' row) (hne : some b ≠ row) : BSet w' b n f m := by
  obtain ⟨D, h, h2⟩ := h; exact ⟨D, h.kept hg hne, h2⟩
theorem BSet.below {w w' : World} {b n m : Nat} {f : Int → Bool} (h : BSet w b n f m) (hb : Below w.heap.size w w') : BSet w' b n f m :=
  h.kept (row := none) ⟨hb.os, hb.tape, hb.output, hb.size, fun i hi _ => hb.block i hi⟩ (by simp)
theorem BSet.put {w : World} {b n m : Nat} {f : Int → Bool} (h : BSet w b n f m) (hn : n < 1000000) {t : Int} (ht : I64 t) :
    ∃ w', (Instr.mapUpdate 30 (.map (some b)) (.int .i64 t) (.bool true)).run Try.prog w = .ok () w' ∧ BSet w' b (n + 1) (fun x => x == t || f x) (if f t = true then m else m + 1) ∧ w.grownBy w' (some b) := by
  obtain ⟨D, h, hm, hf, hh, hsz⟩ := h
  obtain ⟨w', hrun, h2, h3⟩ := h.update keyedI Try.underlying30 (by unfold maxLen; omega) (keyI ht) (plainElem_bool Try.underlying4 true)
  refine ⟨w', hrun, ⟨_, h2, hm.put (show WideAt.IsKeyLit (.int .i64 t) from trivial) _, fun x => ?_, fun x => ?_, ?_⟩, h3⟩
  · by_cases hx : x = t
    · subst hx
      rw [atKey_put_same (k := .int .i64 x) hm.isMap (show WideAt.IsKeyLit (.int .i64 x) from trivial)]
      simp
    · rw [atKey_put_other (by intro e; injection e with _ e; exact hx e), hf]
      have : (x == t) = false := by simpa using hx
      show DataW.lit (Lit.bool (f x)) = DataW.lit (Lit.bool (x == t || f x))
      rw [this, Bool.false_or]
  · by_cases hx : x = t
    · subst hx
      rw [has_put_same hm.isMap (show WideAt.IsKeyLit (.int .i64 x) from trivial)]
      simp
    · rw [has_put_other (by intro e; injection e with _ e; exact hx e), hh]
      have : (x == t) = false := by simpa using hx
      show f x = (x == t || f x)
      rw [this, Bool.false_or]
  · rw [size_put hm, hh, hsz]
theorem wpList_len_bset {w : World} {ops : Array Oper} {rest : List Oper} {o : Oper} {a : Act} {Q : Exit → Act → World → Prop} (hg : o.guard = none) (mo : Operand)
    (hop : o.op = Op.call { callee := Callee.builtin Builtin.len, args := #[mo], argTypes := #[30] }) (b n m : Nat) (f : Int → Bool) (hm : a.eval mo = .map (some b)) (h : BSet w b n f m)
    (hK : wpList Try.prog ops Q rest (a.put o.dst (.int .i64 m)) w) : wpList Try.prog ops Q (o :: rest) a w := by
  obtain ⟨D, h1, _, _, _, hsz⟩ := h
  exact wpList_len_own w hg mo _ hop _ _ Try.underlying30 _ b n D hm h1 (by rw [hsz]; exact hK)
end Go.Proofs.Ytogdollfndpleaa
