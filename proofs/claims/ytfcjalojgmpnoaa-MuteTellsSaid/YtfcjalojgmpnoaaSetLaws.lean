/- What holds of sets: plain mathematics. -/
import Derived.Test.YtfcjalojgmpnoaaWith2
import Derived.Test.YtfcjalojgmpnoaaLsetBack
namespace Go.Proofs.Ytfcjalojgmpnoaa
open Go.ChangeShapes Go.WideShapes Go.ChangeAt Go.RowKit
set_option linter.unusedVariables false
abbrev Lbl := ByteArray × ByteArray
theorem less_trans : ∀ {a b c : List UInt8}, Op.bytesLess a b = true → Op.bytesLess b c = true → Op.bytesLess a c = true
  | _, [], _, h, _ => by unfold Op.bytesLess at h; cases h
  | _, _ :: _, [], _, h => by unfold Op.bytesLess at h; cases h
  | [], _ :: _, _ :: _, _, _ => rfl
  | a :: x, b :: y, c :: z, h1, h2 => by
    unfold Op.bytesLess at h1 h2 ⊢
    simp only [Bool.or_eq_true, decide_eq_true_eq, Bool.and_eq_true, beq_iff_eq] at h1 h2 ⊢
    rcases h1 with h1 | ⟨rfl, h1⟩ <;> rcases h2 with h2 | ⟨rfl, h2⟩
    · exact .inl (by rw [UInt8.lt_iff_toNat_lt] at *; omega)
    · exact .inl h1
    · exact .inl h2
    · exact .inr ⟨rfl, less_trans h1 h2⟩
theorem less_asymm {a b : List UInt8} (h : Op.bytesLess a b = true) : Op.bytesLess b a = false := by
  cases hq : Op.bytesLess b a with
  | false => rfl
  | true => have := less_trans h hq; rw [less_irrefl] at this; cases this
theorem less_ne {a b : List UInt8} (h : Op.bytesLess a b = true) : a ≠ b := fun e => by rw [e, less_irrefl] at h; cases h
def Rise (l : List Lbl) : Prop := l.Pairwise fun x y => Op.bytesLess x.1.toList y.1.toList = true
theorem rightS_rising {l : List Lbl} (h : rightS l = true) : Rise l := by
  have key : ∀ i j (hi : i < l.length) (hj : j < l.length), i < j → Op.bytesLess l[i].1.toList l[j].1.toList = true := by
    intro i j hi
    induction j with
    | zero => intro hj hij; omega
    | succ j ih =>
      intro hj hij
      have h1 := (rightS_at h hj).2
      rw [riseAt_get (q := j) rfl hj] at h1
      rcases Nat.lt_or_ge i j with h' | h'
      · exact less_trans (ih (by omega) h') h1
      · obtain rfl : i = j := by omega
        exact h1
  exact List.pairwise_iff_getElem.2 fun i j hi hj hij => key i j hi hj hij
theorem rightS_ok {l : List Lbl} (h : rightS l = true) : ∀ x ∈ l, lblOk x = true := by
  intro x hx
  obtain ⟨k, hk, rfl⟩ := List.getElem_of_mem hx
  exact (rightS_at h hk).1
theorem right_filter {l : List Lbl} (h : rightS l = true) (p : Lbl → Bool) : rightS (l.filter p) = true :=
  rightS_of (Nat.le_trans (List.length_filter_le _ _) (rightS_len h)) (fun x hx => rightS_ok h x (List.mem_filter.1 hx).1) ((rightS_rising h).filter p)
theorem hasS_one {a b : ByteArray} : hasS [a] b = decide (a = b) := by simp [hasS]
theorem keptL_mem {l : List Lbl} {name : ByteArray} {x : Lbl} (h : x ∈ keptL l name) : x ∈ l ∧ x.1 ≠ name := by
  rw [keptL, List.mem_filter, hasS_one] at h
  exact ⟨h.1, fun e => by rw [e] at h; simp at h⟩
theorem takeWhile_less {k : List Lbl} {name : ByteArray} : ∀ x ∈ k.takeWhile (lessB name), Op.bytesLess x.1.toList name.toList = true := fun x hx => by
  induction k with
  | nil => cases hx
  | cons y k ih =>
    rw [List.takeWhile_cons] at hx
    split at hx
    · rename_i hy
      rcases List.mem_cons.1 hx with rfl | hx
      · exact hy
      · exact ih hx
    · cases hx
theorem dropWhile_more {k : List Lbl} {name : ByteArray} (hk : Rise k) (hn : ∀ x ∈ k, x.1 ≠ name) : ∀ x ∈ k.dropWhile (lessB name), Op.bytesLess name.toList x.1.toList = true := fun x hx => by
  induction k with
  | nil => cases hx
  | cons y k ih =>
    rw [List.dropWhile_cons] at hx
    obtain ⟨h1, h2⟩ := List.pairwise_cons.1 hk
    split at hx
    · exact ih h2 (fun z hz => hn z (List.mem_cons_of_mem _ hz)) hx
    · rename_i hy
      have hy0 : Op.bytesLess y.1.toList name.toList = false := by simpa [lessB] using hy
      have hy1 : Op.bytesLess name.toList y.1.toList = true := by
        rcases cmp_ne (a := y.1.toList) (b := name.toList) (fun e => hn y List.mem_cons_self (ba_ext e)) with h | h
        · rw [hy0] at h; cases h
        · exact h
      rcases List.mem_cons.1 hx with rfl | hx
      · exact hy1
      · exact less_trans hy1 (h1 x hx)
theorem putL_rise {k : List Lbl} {x : Lbl} (hk : Rise k) (hn : ∀ y ∈ k, y.1 ≠ x.1) : Rise (putL k x) := by
  have h1 : Rise (k.takeWhile (lessB x.1)) := hk.sublist (List.takeWhile_sublist _)
  have h2 : Rise (k.dropWhile (lessB x.1)) := hk.sublist (List.dropWhile_sublist _)
  refine List.pairwise_append.2 ⟨h1, List.pairwise_cons.2 ⟨fun y hy => dropWhile_more hk hn y hy, h2⟩, fun y hy z hz => ?_⟩
  rcases List.mem_cons.1 hz with rfl | hz
  · exact takeWhile_less y hy
  · exact less_trans (takeWhile_less y hy) (dropWhile_more hk hn z hz)
theorem putL_mem {k : List Lbl} {x y : Lbl} : y ∈ putL k x ↔ y = x ∨ y ∈ k := by
  have e : y ∈ k ↔ y ∈ k.takeWhile (lessB x.1) ∨ y ∈ k.dropWhile (lessB x.1) := by rw [← List.mem_append, List.takeWhile_append_dropWhile]
  rw [e, putL, List.mem_append, List.mem_cons]
  constructor
  · rintro (h | h | h)
    · exact .inr (.inl h)
    · exact .inl h
    · exact .inr (.inr h)
  · rintro (h | h | h)
    · exact .inr (.inl h)
    · exact .inl h
    · exact .inr (.inr h)
theorem putL_length (k : List Lbl) (x : Lbl) : (putL k x).length = k.length + 1 := by
  have e := congrArg List.length (List.takeWhile_append_dropWhile (p := lessB x.1) (l := k))
  rw [List.length_append] at e
  rw [putL, List.length_append, List.length_cons]; omega
theorem putL_kept {k : List Lbl} {x : Lbl} (hn : ∀ y ∈ k, y.1 ≠ x.1) : keptL (putL k x) x.1 = k := by
  have hf : ∀ m : List Lbl, (∀ y ∈ m, y.1 ≠ x.1) → m.filter (fun y => !hasS [x.1] y.1) = m := fun m hm => List.filter_eq_self.2 fun y hy => by
    rw [hasS_one, decide_eq_false (fun e => hm y hy e.symm)]; rfl
  have h1 := hf (k.takeWhile (lessB x.1)) (fun y hy => hn y ((List.takeWhile_sublist _).mem hy))
  have h2 := hf (k.dropWhile (lessB x.1)) (fun y hy => hn y ((List.dropWhile_sublist _).mem hy))
  rw [keptL, putL, List.filter_append, List.filter_cons, h1, h2, hasS_one]
  simp [List.takeWhile_append_dropWhile]
theorem putL_right {k : List Lbl} {x : Lbl} (hk : rightS k = true) (hx : lblOk x = true) (hn : ∀ y ∈ k, y.1 ≠ x.1) (hl : k.length ≤ 5) : rightS (putL k x) = true :=
  rightS_of (by rw [putL_length]; omega) (fun y hy => by
    rcases putL_mem.1 hy with rfl | hy
    · exact hx
    · exact rightS_ok hk y hy) (putL_rise (rightS_rising hk) hn)
/-- The first value of a name. -/
def getF (l : List Lbl) (name : ByteArray) : ByteArray := match l.find? (fun x => decide (x.1 = name)) with | some x => x.2 | none => ⟨#[]⟩
theorem getF_kept {l : List Lbl} {name n : ByteArray} (h : n ≠ name) : getF (keptL l name) n = getF l n := by
  unfold getF keptL
  rw [List.find?_filter]
  congr 1
  congr 1
  funext x
  rw [hasS_one]
  by_cases h1 : x.1 = n
  · have h2 : ¬ name = n := fun e => h e.symm
    simp [h1, h2]
  · simp [h1]
theorem getF_none {l : List Lbl} {name : ByteArray} (h : ∀ x ∈ l, x.1 ≠ name) : getF l name = ⟨#[]⟩ := by
  unfold getF
  rw [List.find?_eq_none.2 fun x hx => by simpa using h x hx]
theorem getF_put {k : List Lbl} {x : Lbl} (hn : ∀ y ∈ k, y.1 ≠ x.1) : getF (putL k x) x.1 = x.2 := by
  unfold getF putL
  rw [List.find?_append, List.find?_eq_none.2 (fun y hy => by simpa using hn y ((List.takeWhile_sublist _).mem hy))]
  simp
theorem getF_put_other {k : List Lbl} {x : Lbl} {n : ByteArray} (h : n ≠ x.1) : getF (putL k x) n = getF k n := by
  unfold getF
  conv => rhs; rw [← List.takeWhile_append_dropWhile (p := lessB x.1) (l := k)]
  rw [putL, List.find?_append, List.find?_append, List.find?_cons, decide_eq_false (fun e => h e.symm)]
theorem filter_parts (l : List Lbl) (p : Lbl → Bool) : (l.filter p).length + (l.filter fun x => !p x).length = l.length := by
  induction l with
  | nil => rfl
  | cons x l ih =>
    rw [List.filter_cons, List.filter_cons]
    cases p x <;> simp <;> omega
theorem filter_none (l : List Lbl) (p : Lbl → Bool) : (l.filter fun x => !p x).filter p = [] := by
  rw [List.filter_filter]
  exact List.filter_eq_nil_iff.2 fun x _ => by cases p x <;> simp
theorem filter_twice (l : List Lbl) (p : Lbl → Bool) : (l.filter p).filter p = l.filter p := by
  rw [List.filter_filter]; congr 1; funext x; simp
end Go.Proofs.Ytfcjalojgmpnoaa
