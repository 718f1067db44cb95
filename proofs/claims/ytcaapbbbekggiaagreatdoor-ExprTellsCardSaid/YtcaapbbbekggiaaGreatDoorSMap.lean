/- A map[string]bool of the call's own, as a function, with its size (gen_smap.py out of XBMap, XBSet). -/
import Derived.Test.YtcaapbbbekggiaaGreatDoorBase
import Derived.Test.YtcaapbbbekggiaaGreatDoorRows
import Derived.Maps.OwnOps
import Derived.Maps.OwnSet
import Derived.Maps.Views
import Derived.StringKeys
import Derived.WalkKit
namespace Go.Proofs.YtcaapbbbekggiaaGreatDoor
open Go.RowKit Go.Maps
set_option linter.unusedVariables false
set_option maxRecDepth 100000
theorem keyedS : Keyed Tryz.prog 9 := string_keyed Tryz.underlying9
theorem zeroBS (w : World) : (zeroValue 4).run Tryz.prog w = .ok (.bool false) w := by kernel_rfl
theorem keyS {t : ByteArray} (h : t.size ≤ maxLen) : keyOf Tryz.prog 9 (.string t) = some (.string t.data.toList) := Go.WideMaps.keyOf_string_mk Tryz.underlying9 h
/-- Block b is a map that answers f, of n entries at most. -/
def SMap (w : World) (b n : Nat) (f : List UInt8 → Bool) : Prop :=
  ∃ D : DataW Unit, w.ownsMap Tryz.prog 9 (plainElem Tryz.prog 4) b n D ∧ IsMap D ∧ ∀ t : List UInt8, D.atKey (.string t) (.lit (.bool false)) = .lit (.bool (f t))
theorem SMap.made (w : World) : SMap (w.alloc (.map #[] 0)) w.heap.size 0 (fun _ => false) :=
  ⟨.map [], World.ownsMap_made _ _ _ _, ⟨[], rfl⟩, fun t => rfl⟩
theorem SMap.lt {w : World} {b n : Nat} {f : List UInt8 → Bool} (h : SMap w b n f) : b < w.heap.size := by obtain ⟨D, h, _⟩ := h; exact h.lt
theorem SMap.kept {w w' : World} {b n : Nat} {f : List UInt8 → Bool} {row : Option Nat} (h : SMap w b n f) (hg : w.grownBy w' row) (hne : some b ≠ row) : SMap w' b n f := by
  obtain ⟨D, h, h2⟩ := h; exact ⟨D, h.kept hg hne, h2⟩
theorem SMap.below {w w' : World} {b n : Nat} {f : List UInt8 → Bool} (h : SMap w b n f) (hb : Below w.heap.size w w') : SMap w' b n f :=
  h.kept (row := none) ⟨hb.os, hb.tape, hb.output, hb.size, fun i hi _ => hb.block i hi⟩ (by simp)
theorem SMap.drewN {w : World} {b n : Nat} {f : List UInt8 → Bool} (h : SMap w b n f) (m : Nat) : SMap (w.drewN m) b n f := h
theorem SMap.look {w : World} {b n : Nat} {f : List UInt8 → Bool} (h : SMap w b n f) {t : ByteArray} (ht : t.size ≤ maxLen) : (Instr.lookup 65 (.map (some b)) (.string t) false).run Tryz.prog w = .ok (.bool (f t.data.toList)) w := by
  obtain ⟨D, h, _, hf⟩ := h
  obtain ⟨v, ps, hrun, hv⟩ := h.lookup keyedS Tryz.underlying65 (zeroBS w) (plainElem_bool Tryz.underlying4 false) (keyS ht)
  rw [hf] at hv
  have : v = .bool (f t.data.toList) := by
    unfold plainElem at hv
    rw [Tryz.underlying4] at hv
    cases v <;> simp at hv
    rw [hv.1]
  rw [this] at hrun; exact hrun
theorem SMap.put {w : World} {b n : Nat} {f : List UInt8 → Bool} (h : SMap w b n f) (hn : n < 1000000) {t : ByteArray} (ht : t.size ≤ maxLen) :
    ∃ w', (Instr.mapUpdate 65 (.map (some b)) (.string t) (.bool true)).run Tryz.prog w = .ok () w' ∧ SMap w' b (n + 1) (fun x => x == t.data.toList || f x) ∧ w.grownBy w' (some b) := by
  obtain ⟨D, h, hm, hf⟩ := h
  obtain ⟨w', hrun, h2, h3⟩ := h.update keyedS Tryz.underlying65 (by unfold maxLen; omega) (keyS ht) (plainElem_bool Tryz.underlying4 true)
  refine ⟨w', hrun, ⟨_, h2, hm.put _ _, fun x => ?_⟩, h3⟩
  by_cases hx : x = t.data.toList
  · subst hx
    rw [atKey_put_same (k := .string t.data.toList) hm (show WideAt.IsKeyLit (.string t.data.toList) from trivial)]
    simp
  · rw [atKey_put_other (by intro e; injection e with e; exact hx e), hf]
    have : (x == t.data.toList) = false := by simpa using hx
    show DataW.lit (Lit.bool (f x)) = DataW.lit (Lit.bool (x == t.data.toList || f x))
    rw [this, Bool.false_or]
theorem wpList_put_smap {P : Program} {w : World} {ops : Array Oper} {rest : List Oper} {o : Oper} {a : Act} {Q : Exit → Act → World → Prop} (hg : o.guard = none) (m x v : Operand) (t : TypeId) (hop : o.op = Op.mapUpdate t m x v)
    (vm vx vv : Value) (hm : a.eval m = vm) (hx : a.eval x = vx) (hv : a.eval v = vv) (w' : World) (hrun : (Instr.mapUpdate t vm vx vv).run P w = .ok () w') (hK : wpList P ops Q rest (a.put o.dst undef) w') : wpList P ops Q (o :: rest) a w := by
  refine wpList_plain hg fun K' hK' => ?_
  unfold Oper.wp
  simp [execOp, hop, hm, hx, hv, hrun, Result.andThen]
  exact hK' _ _ hK
/-- Block b is a map that answers f, of m keys, put in at most n times; each key answers true. -/
def SSet (w : World) (b n : Nat) (f : List UInt8 → Bool) (m : Nat) : Prop :=
  ∃ D : DataW Unit, w.ownsMap Tryz.prog 9 (plainElem Tryz.prog 4) b n D ∧ Tidy D ∧ (∀ t : List UInt8, D.atKey (.string t) (.lit (.bool false)) = .lit (.bool (f t))) ∧ (∀ t : List UInt8, has D (.string t) = f t) ∧ size D = m
theorem SSet.smap {w : World} {b n m : Nat} {f : List UInt8 → Bool} (h : SSet w b n f m) : SMap w b n f := by
  obtain ⟨D, h1, h2, h3, _⟩ := h; exact ⟨D, h1, h2.isMap, h3⟩
theorem SSet.made (w : World) : SSet (w.alloc (.map #[] 0)) w.heap.size 0 (fun _ => false) 0 :=
  ⟨.map [], World.ownsMap_made _ _ _ _, tidy_empty, fun t => rfl, fun t => rfl, rfl⟩
theorem SSet.lt {w : World} {b n m : Nat} {f : List UInt8 → Bool} (h : SSet w b n f m) : b < w.heap.size := h.smap.lt
theorem SSet.kept {w w' : World} {b n m : Nat} {f : List UInt8 → Bool} {row : Option Nat} (h : SSet w b n f m) (hg : w.grownBy w' row) (hne : some b ≠ row) : SSet w' b n f m := by
  obtain ⟨D, h, h2⟩ := h; exact ⟨D, h.kept hg hne, h2⟩
theorem SSet.below {w w' : World} {b n m : Nat} {f : List UInt8 → Bool} (h : SSet w b n f m) (hb : Below w.heap.size w w') : SSet w' b n f m :=
  h.kept (row := none) ⟨hb.os, hb.tape, hb.output, hb.size, fun i hi _ => hb.block i hi⟩ (by simp)
theorem SSet.put {w : World} {b n m : Nat} {f : List UInt8 → Bool} (h : SSet w b n f m) (hn : n < 1000000) {t : ByteArray} (ht : t.size ≤ maxLen) :
    ∃ w', (Instr.mapUpdate 65 (.map (some b)) (.string t) (.bool true)).run Tryz.prog w = .ok () w' ∧ SSet w' b (n + 1) (fun x => x == t.data.toList || f x) (if f t.data.toList = true then m else m + 1) ∧ w.grownBy w' (some b) := by
  obtain ⟨D, h, hm, hf, hh, hsz⟩ := h
  obtain ⟨w', hrun, h2, h3⟩ := h.update keyedS Tryz.underlying65 (by unfold maxLen; omega) (keyS ht) (plainElem_bool Tryz.underlying4 true)
  refine ⟨w', hrun, ⟨_, h2, hm.put (show WideAt.IsKeyLit (.string t.data.toList) from trivial) _, fun x => ?_, fun x => ?_, ?_⟩, h3⟩
  · by_cases hx : x = t.data.toList
    · subst hx
      rw [atKey_put_same (k := .string t.data.toList) hm.isMap (show WideAt.IsKeyLit (.string t.data.toList) from trivial)]
      simp
    · rw [atKey_put_other (by intro e; injection e with e; exact hx e), hf]
      have : (x == t.data.toList) = false := by simpa using hx
      show DataW.lit (Lit.bool (f x)) = DataW.lit (Lit.bool (x == t.data.toList || f x))
      rw [this, Bool.false_or]
  · by_cases hx : x = t.data.toList
    · subst hx
      rw [has_put_same hm.isMap (show WideAt.IsKeyLit (.string t.data.toList) from trivial)]
      simp
    · rw [has_put_other (by intro e; injection e with e; exact hx e), hh]
      have : (x == t.data.toList) = false := by simpa using hx
      show f x = (x == t.data.toList || f x)
      rw [this, Bool.false_or]
  · rw [size_put hm, hh, hsz]
theorem wpList_len_sset {w : World} {ops : Array Oper} {rest : List Oper} {o : Oper} {a : Act} {Q : Exit → Act → World → Prop} (hg : o.guard = none) (mo : Operand)
    (hop : o.op = Op.call { callee := Callee.builtin Builtin.len, args := #[mo], argTypes := #[65] }) (b n m : Nat) (f : List UInt8 → Bool) (hm : a.eval mo = .map (some b)) (h : SSet w b n f m)
    (hK : wpList Tryz.prog ops Q rest (a.put o.dst (.int .i64 m)) w) : wpList Tryz.prog ops Q (o :: rest) a w := by
  obtain ⟨D, h1, _, _, _, hsz⟩ := h
  exact wpList_len_own w hg mo _ hop _ _ Tryz.underlying65 _ b n D hm h1 (by rw [hsz]; exact hK)
end Go.Proofs.YtcaapbbbekggiaaGreatDoor
