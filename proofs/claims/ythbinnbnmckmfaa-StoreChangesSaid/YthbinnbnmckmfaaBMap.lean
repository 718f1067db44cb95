/- A map[int]bool of the call's own, as a function. -/
import Derived.Test.YthbinnbnmckmfaaBase
import Derived.Test.YthbinnbnmckmfaaRows
import Derived.Maps.OwnOps
import Derived.Maps.OwnSet
import Derived.Maps.Views
import Derived.WalkKit
namespace Go.Proofs.Ythbinnbnmckmfaa
open Go.RowKit Go.Maps
set_option linter.unusedVariables false
set_option maxRecDepth 100000
theorem keyedI : Keyed Try.prog 3 := int_keyed Try.underlying3
theorem zeroB (w : World) : (zeroValue 4).run Try.prog w = .ok (.bool false) w := by kernel_rfl
theorem wf_i64 {t : Int} (h : I64 t) : (Lit.int .i64 t).wf = true := by
  simpa [Lit.wf, IntKind.min, IntKind.max, IntKind.signed, IntKind.bits, I64] using h
theorem keyI {t : Int} (h : I64 t) : keyOf Try.prog 3 (.int .i64 t) = some (.int .i64 t) := keyOf_int_mk Try.underlying3 (wf_i64 h)
/-- Block b is a map that answers f, of n entries at most. -/
def BMap (w : World) (b n : Nat) (f : Int → Bool) : Prop :=
  ∃ D : DataW Unit, w.ownsMap Try.prog 3 (plainElem Try.prog 4) b n D ∧ IsMap D ∧ ∀ t : Int, D.atKey (.int .i64 t) (.lit (.bool false)) = .lit (.bool (f t))
theorem BMap.made (w : World) : BMap (w.alloc (.map #[] 0)) w.heap.size 0 (fun _ => false) :=
  ⟨.map [], World.ownsMap_made _ _ _ _, ⟨[], rfl⟩, fun t => rfl⟩
theorem BMap.lt {w : World} {b n : Nat} {f : Int → Bool} (h : BMap w b n f) : b < w.heap.size := by obtain ⟨D, h, _⟩ := h; exact h.lt
theorem BMap.kept {w w' : World} {b n : Nat} {f : Int → Bool} {row : Option Nat} (h : BMap w b n f) (hg : w.grownBy w' row) (hne : some b ≠ row) : BMap w' b n f := by
  obtain ⟨D, h, h2⟩ := h; exact ⟨D, h.kept hg hne, h2⟩
theorem BMap.below {w w' : World} {b n : Nat} {f : Int → Bool} (h : BMap w b n f) (hb : Below w.heap.size w w') : BMap w' b n f :=
  h.kept (row := none) ⟨hb.os, hb.tape, hb.output, hb.size, fun i hi _ => hb.block i hi⟩ (by simp)
theorem BMap.drewN {w : World} {b n : Nat} {f : Int → Bool} (h : BMap w b n f) (m : Nat) : BMap (w.drewN m) b n f := h
theorem BMap.look {w : World} {b n : Nat} {f : Int → Bool} (h : BMap w b n f) {t : Int} (ht : I64 t) : (Instr.lookup 49 (.map (some b)) (.int .i64 t) false).run Try.prog w = .ok (.bool (f t)) w := by
  obtain ⟨D, h, _, hf⟩ := h
  obtain ⟨v, ps, hrun, hv⟩ := h.lookup keyedI Try.underlying49 (zeroB w) (plainElem_bool Try.underlying4 false) (keyI ht)
  rw [hf] at hv
  have : v = .bool (f t) := by
    unfold plainElem at hv
    rw [Try.underlying4] at hv
    cases v <;> simp at hv
    rw [hv.1]
  rw [this] at hrun; exact hrun
theorem BMap.put {w : World} {b n : Nat} {f : Int → Bool} (h : BMap w b n f) (hn : n < 1000000) {t : Int} (ht : I64 t) :
    ∃ w', (Instr.mapUpdate 49 (.map (some b)) (.int .i64 t) (.bool true)).run Try.prog w = .ok () w' ∧ BMap w' b (n + 1) (fun x => x == t || f x) ∧ w.grownBy w' (some b) := by
  obtain ⟨D, h, hm, hf⟩ := h
  obtain ⟨w', hrun, h2, h3⟩ := h.update keyedI Try.underlying49 (by unfold maxLen; omega) (keyI ht) (plainElem_bool Try.underlying4 true)
  refine ⟨w', hrun, ⟨_, h2, hm.put _ _, fun x => ?_⟩, h3⟩
  by_cases hx : x = t
  · subst hx
    rw [atKey_put_same (k := .int .i64 x) hm (show WideAt.IsKeyLit (.int .i64 x) from trivial)]
    simp
  · rw [atKey_put_other (by intro e; injection e with _ e; exact hx e), hf]
    have : (x == t) = false := by simpa using hx
    show DataW.lit (Lit.bool (f x)) = DataW.lit (Lit.bool (x == t || f x))
    rw [this, Bool.false_or]
theorem wpList_put_bmap {P : Program} {w : World} {ops : Array Oper} {rest : List Oper} {o : Oper} {a : Act} {Q : Exit → Act → World → Prop} (hg : o.guard = none) (m x v : Operand) (t : TypeId) (hop : o.op = Op.mapUpdate t m x v)
    (vm vx vv : Value) (hm : a.eval m = vm) (hx : a.eval x = vx) (hv : a.eval v = vv) (w' : World) (hrun : (Instr.mapUpdate t vm vx vv).run P w = .ok () w') (hK : wpList P ops Q rest (a.put o.dst undef) w') : wpList P ops Q (o :: rest) a w := by
  refine wpList_plain hg fun K' hK' => ?_
  unfold Oper.wp
  simp [execOp, hop, hm, hx, hv, hrun, Result.andThen]
  exact hK' _ _ hK
end Go.Proofs.Ythbinnbnmckmfaa
