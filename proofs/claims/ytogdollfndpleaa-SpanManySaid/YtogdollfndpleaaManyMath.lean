/- klaxonlaw14.SpanMany: the sums. -/
import Derived.Test.YtogdollfndpleaaSpanSums
import Derived.Test.YtogdollfndpleaaBSet
namespace Go.Proofs.Ytogdollfndpleaa
open Go.RowKit
set_option linter.unusedVariables false
set_option maxRecDepth 100000
theorem inF_get (zs : List Int) {j : Nat} (hj : j < 200) : (inF zs).getD j false = decide ((j : Int) ∈ zs) := by simp [inF, List.getD_eq_getElem?_getD, hj]
/-- How many of the first k numbers are asked for. -/
def cntF (f : Nat → Bool) : Nat → Nat
  | 0 => 0
  | k + 1 => cntF f k + if f k = true then 1 else 0
theorem upTo_cnt (bs : List Bool) (f : Nat → Bool) : ∀ k, (∀ j, j < k → bs.getD j false = f j) → upTo bs k = cntF f k
  | 0, _ => rfl
  | k + 1, h => by unfold upTo cntF; rw [upTo_cnt bs f k fun j hj => h j (by omega), h k (by omega)]
theorem cnt_congr (f g : Nat → Bool) : ∀ k, (∀ j, j < k → f j = g j) → cntF f k = cntF g k
  | 0, _ => rfl
  | k + 1, h => by unfold cntF; rw [cnt_congr f g k fun j hj => h j (by omega), h k (by omega)]
theorem cnt_or (f g : Nat → Bool) : ∀ k, cntF (fun j => f j || g j) k + cntF (fun j => f j && g j) k = cntF f k + cntF g k
  | 0 => rfl
  | k + 1 => by have := cnt_or f g k; unfold cntF; cases f k <;> cases g k <;> simp <;> omega
theorem cnt_less (f g : Nat → Bool) : ∀ k, cntF (fun j => f j && !g j) k + cntF (fun j => f j && g j) k = cntF f k
  | 0 => rfl
  | k + 1 => by have := cnt_less f g k; unfold cntF; cases f k <;> cases g k <;> simp <;> omega
theorem cnt_put (f : Nat → Bool) (p : Nat) (hp : f p = false) : ∀ k, cntF (fun j => j == p || f j) k = cntF f k + if p < k then 1 else 0
  | 0 => by simp [cntF]
  | k + 1 => by
    have := cnt_put f p hp k
    unfold cntF
    rw [this]
    by_cases h : k = p
    · subst h; simp [hp]
    · have e : (k == p) = false := by simpa using h
      rw [e, Bool.false_or]
      by_cases h2 : p < k
      · have e1 : (if p < k then 1 else 0 : Nat) = 1 := if_pos h2
        have e2 : (if p < k + 1 then 1 else 0 : Nat) = 1 := if_pos (by omega)
        rw [e1, e2]; omega
      · have e1 : (if p < k then 1 else 0 : Nat) = 0 := if_neg h2
        have e2 : (if p < k + 1 then 1 else 0 : Nat) = 0 := if_neg (by omega)
        rw [e1, e2]; omega
theorem SpL.count {l : List (Int × Int)} (h : SpL l) : countF l = cntF (fun j => hasF l j) 200 := by
  have e := of_ticks h
  rw [← inF_spans] at e
  have e2 : countF l = upTo (inF (ticksL l)) 200 := by rw [← count_spK, e]
  rw [e2, upTo_cnt _ (fun j => hasF l j) 200 fun j hj => by rw [inF_get _ hj, Bool.eq_iff_iff, decide_eq_true_eq, mem_ticksL, inL_iff]]
theorem has_or {l y r : List (Int × Int)} (h : ∀ t, InL r t ↔ InL l t ∨ InL y t) (t : Int) : hasF r t = (hasF l t || hasF y t) := by
  rw [Bool.eq_iff_iff, Bool.or_eq_true, inL_iff, inL_iff, inL_iff]; exact h t
theorem has_and {l y r : List (Int × Int)} (h : ∀ t, InL r t ↔ InL l t ∧ InL y t) (t : Int) : hasF r t = (hasF l t && hasF y t) := by
  rw [Bool.eq_iff_iff, Bool.and_eq_true, inL_iff, inL_iff, inL_iff]; exact h t
theorem has_less {l y r : List (Int × Int)} (h : ∀ t, InL r t ↔ InL l t ∧ ¬ InL y t) (t : Int) : hasF r t = (hasF l t && !hasF y t) := by
  rw [Bool.eq_iff_iff, Bool.and_eq_true, Bool.not_eq_true', ← Bool.not_eq_true, inL_iff, inL_iff, inL_iff]; exact h t
theorem many_sum {l y r s : List (Int × Int)} (hl : SpL l) (hy : SpL y) (hr : SpL r) (hs : SpL s) (h1 : ∀ t, InL r t ↔ InL l t ∨ InL y t) (h2 : ∀ t, InL s t ↔ InL l t ∧ InL y t) :
    countF r + countF s = countF l + countF y := by
  rw [hl.count, hy.count, hr.count, hs.count]
  have e1 : (fun j : Nat => hasF r j) = fun j : Nat => hasF l j || hasF y j := funext fun j => has_or h1 j
  have e2 : (fun j : Nat => hasF s j) = fun j : Nat => hasF l j && hasF y j := funext fun j => has_and h2 j
  rw [e1, e2]
  have := cnt_or (fun j : Nat => hasF l j) (fun j : Nat => hasF y j) 200
  omega
theorem many_less {l y d s : List (Int × Int)} (hl : SpL l) (hd : SpL d) (hs : SpL s) (h1 : ∀ t, InL d t ↔ InL l t ∧ ¬ InL y t) (h2 : ∀ t, InL s t ↔ InL l t ∧ InL y t) :
    countF d = countF l - countF s := by
  rw [hl.count, hd.count, hs.count]
  have e1 : (fun j : Nat => hasF d j) = fun j : Nat => hasF l j && !hasF y j := funext fun j => has_less h1 j
  have e2 : (fun j : Nat => hasF s j) = fun j : Nat => hasF l j && hasF y j := funext fun j => has_and h2 j
  rw [e1, e2]
  have := cnt_less (fun j : Nat => hasF l j) (fun j : Nat => hasF y j) 200
  omega
theorem cnt_le (f : Nat → Bool) : ∀ k, cntF f k ≤ k
  | 0 => Nat.le_refl _
  | k + 1 => by have := cnt_le f k; unfold cntF; split <;> omega
theorem SpL.count_in {l : List (Int × Int)} (h : SpL l) : 0 ≤ countF l ∧ countF l ≤ 200 := by
  have := h.count; have := cnt_le (fun j : Nat => hasF l j) 200; omega
/-- Ticks 0 .. 199. -/
def TickL (l : List Int) : Prop := ∀ z ∈ l, 0 ≤ z ∧ z < 200
def manyN (l : List Int) : Nat := cntF (fun j => decide ((j : Int) ∈ l)) 200
theorem many_has {l : List Int} (h : TickL l) (t : Int) : hasF (ofF l) t = decide (t ∈ l) := by
  rw [Bool.eq_iff_iff, inL_iff, (ofF_spec l).2, decide_eq_true_eq]
  exact ⟨fun g => g.1, fun g => ⟨g, h t g⟩⟩
theorem many_count {l : List Int} (h : TickL l) : countF (ofF l) = manyN l := by
  rw [(ofF_spec l).1.count]; unfold manyN
  rw [cnt_congr _ _ 200 fun j _ => many_has h j]
theorem many_step {l : List Int} (h : TickL l) {j : Nat} (hj : j < l.length) : (if decide (l[j] ∈ l.take j) = true then manyN (l.take j) else manyN (l.take j) + 1) = manyN (l.take (j + 1)) := by
  have hz := h l[j] (List.getElem_mem _)
  have hp : ((l[j].toNat : Nat) : Int) = l[j] := by omega
  unfold manyN
  rw [List.take_succ_eq_append_getElem hj]
  by_cases hm : l[j] ∈ l.take j
  · rw [if_pos (decide_eq_true hm)]
    refine cnt_congr _ _ _ fun i _ => ?_
    rw [decide_eq_decide, List.mem_append, List.mem_singleton]
    exact ⟨.inl, fun g => g.elim id fun e => e ▸ hm⟩
  · rw [if_neg (by simpa using hm)]
    have hf : (fun i : Nat => decide ((i : Int) ∈ l.take j)) l[j].toNat = false := by
      show decide ((l[j].toNat : Int) ∈ l.take j) = false
      rw [hp]; exact decide_eq_false hm
    have e := cnt_put (fun i : Nat => decide ((i : Int) ∈ l.take j)) l[j].toNat hf 200
    rw [if_pos (by omega)] at e
    rw [← e]
    refine cnt_congr _ _ _ fun i _ => ?_
    rw [Bool.eq_iff_iff, Bool.or_eq_true, beq_iff_eq, decide_eq_true_eq, decide_eq_true_eq, List.mem_append, List.mem_singleton]
    constructor
    · rintro (g | g)
      · exact .inr (by omega)
      · exact .inl g
    · rintro (g | g)
      · exact .inr g
      · exact .inl (by omega)
theorem of_turned (l : List Int) (c : Nat) : ofF (l.drop c ++ l.take c) = ofF l := by
  refine (ofF_spec _).1.eq (ofF_spec _).1 fun t => ?_
  rw [(ofF_spec _).2, (ofF_spec _).2]
  have : t ∈ l.drop c ++ l.take c ↔ t ∈ l := by
    conv => rhs; rw [← List.take_append_drop c l]
    rw [List.mem_append, List.mem_append, Or.comm]
  rw [this]
theorem of_parts {l : List Int} {c : Nat} {r : List (Int × Int)} (hr : SpL r) (h : ∀ t, InL r t ↔ InL (ofF (l.take c)) t ∨ InL (ofF (l.drop c)) t) : r = ofF l := by
  refine hr.eq (ofF_spec _).1 fun t => ?_
  rw [h, (ofF_spec _).2, (ofF_spec _).2, (ofF_spec _).2]
  have : t ∈ l ↔ t ∈ l.take c ∨ t ∈ l.drop c := by
    conv => lhs; rw [← List.take_append_drop c l]
    rw [List.mem_append]
  rw [this]
  constructor
  · rintro (g | g)
    · exact ⟨.inl g.1, g.2⟩
    · exact ⟨.inr g.1, g.2⟩
  · rintro ⟨g | g, g2⟩
    · exact .inl ⟨g, g2⟩
    · exact .inr ⟨g, g2⟩
/-- The ticks that are asked for. -/
def mOwn (l : List Int) : List Int := l.map fun z => nWithin z 0 199
theorem mOwn_length (l : List Int) : (mOwn l).length = l.length := by simp [mOwn]
theorem mOwn_tick (l : List Int) : TickL (mOwn l) := by
  intro z hz
  obtain ⟨y, _, rfl⟩ := List.mem_map.1 hz
  have := nWithin_in y (lo := 0) (hi := 199) (by omega)
  show 0 ≤ nWithin y 0 199 ∧ nWithin y 0 199 < 200
  omega
theorem mOwn_snoc (l : List Int) (z : Int) : mOwn (l ++ [z]) = mOwn l ++ [nWithin z 0 199] := by simp [mOwn]
theorem mOwn_row {w w1 wr : World} {base k : Nat} {zs : List Int} {v v' : Value} {ob : Obj} (hb : base ≤ wr.heap.size) (hk : k < zs.length)
    (hbel : Below base w wr) (hlt : ∀ g, v.ownBlock = some g → base ≤ g)
    (hown : w1.ownsRow base 3 1 v' (k + 1) (ints (mOwn (zs.take k)) ++ [.int .i64 (nWithin zs[k] 0 199)]))
    (hg : (wr.alloc ob).grownBy w1 v.ownBlock) :
    w1.ownsRow base 3 1 v' (k + 1) (ints (mOwn (zs.take (k + 1)))) ∧ Below base w w1 := by
  refine ⟨?_, (hbel.alloc hb ob).grown hg (by simp; omega) hlt⟩
  rw [List.take_succ_eq_append_getElem hk, mOwn_snoc, ints_append]
  exact hown
theorem set_step (C : List Int) (j : Nat) (h : j < C.length) : (fun x : Int => x == C[j] || decide (x ∈ C.take j)) = fun x => decide (x ∈ C.take (j + 1)) := by
  funext x
  have key : x ∈ C.take (j + 1) ↔ x = C[j] ∨ x ∈ C.take j := by
    rw [List.take_succ_eq_append_getElem h, List.mem_append, List.mem_singleton]; exact Or.comm
  rw [Bool.eq_iff_iff]
  simp only [Bool.or_eq_true, beq_iff_eq, decide_eq_true_eq]
  exact key.symm
end Go.Proofs.Ytogdollfndpleaa
