/- Exact matchers: plain mathematics; matchers that stay. -/
import Derived.Test.YtfcjalojgmpnoaaMatchRuns
import Derived.Test.YtfcjalojgmpnoaaMergeMath
import Derived.Deep.RegionHeld3
namespace Go.Proofs.Ytfcjalojgmpnoaa
open Go.ChangeShapes Go.WideShapes Go.ChangeAt Go.RowKit
set_option linter.unusedVariables false
theorem allF_exact (l x : List Lbl) : allF l (exactM x) = x.all fun p => decide (getF l p.1 = p.2) := by
  unfold allF exactM
  rw [List.all_map]
  congr 1
theorem getF_in {l : List Lbl} {n v : ByteArray} (h : getF l n = v) (hv : v.toList ≠ []) : (n, v) ∈ l := by
  unfold getF at h
  split at h
  · rename_i x hx
    have h1 := List.find?_some hx
    have h2 := List.mem_of_find?_eq_some hx
    simp only [decide_eq_true_eq] at h1
    rw [← h1, ← h]; exact h2
  · exact absurd (by rw [← h]; exact ba_list []) hv
theorem getF_at {l : List Lbl} (hu : Unlike l) {x : Lbl} (hx : x ∈ l) : getF l x.1 = x.2 := by
  unfold getF
  cases hf : l.find? (fun y => decide (y.1 = x.1)) with
  | none => exact absurd (List.find?_eq_none.1 hf x hx) (by simp)
  | some y =>
    have h1 := List.find?_some hf
    have h2 := List.mem_of_find?_eq_some hf
    simp only [decide_eq_true_eq] at h1
    obtain ⟨i, hi, rfl⟩ := List.getElem_of_mem hx
    obtain ⟨j, hj, rfl⟩ := List.getElem_of_mem h2
    rcases Nat.lt_trichotomy i j with h | h | h
    · exact absurd h1.symm (List.pairwise_iff_getElem.1 hu i j hi hj h)
    · subst h; rfl
    · exact absurd h1 (List.pairwise_iff_getElem.1 hu j i hj hi h)
theorem lblOk_value {x : Lbl} (h : lblOk x = true) : x.2.toList ≠ [] := by
  have h1 := (lblOk_size h).2.2.2
  intro e
  have h2 : x.2.size = 0 := by
    rw [ByteArray.toList_eq] at e
    have := congrArg List.length e
    simpa using this
  omega
theorem exact_self {l : List Lbl} (h : rightS l = true) : allF l (exactM l) = true := by
  rw [allF_exact]
  exact List.all_eq_true.2 fun x hx => decide_eq_true (getF_at (rise_unlike (rightS_rising h)) hx)
theorem exact_both {a b : List Lbl} (ha : rightS a = true) (hb : rightS b = true) : (allF a (exactM b) && allF b (exactM a)) = decide (a = b) := by
  by_cases h : a = b
  · subst h; rw [exact_self ha, decide_eq_true rfl]; rfl
  · rw [decide_eq_false h]
    cases h1 : allF a (exactM b) with
    | false => rfl
    | true =>
      cases h2 : allF b (exactM a) with
      | false => rfl
      | true =>
        exfalso
        rw [allF_exact] at h1 h2
        have m1 : ∀ x ∈ b, x ∈ a := fun x hx => getF_in (of_decide_eq_true (List.all_eq_true.1 h1 x hx)) (lblOk_value (rightS_ok hb x hx))
        have m2 : ∀ x ∈ a, x ∈ b := fun x hx => getF_in (of_decide_eq_true (List.all_eq_true.1 h2 x hx)) (lblOk_value (rightS_ok ha x hx))
        have n1 : a.Nodup := (rise_unlike (rightS_rising ha)).imp (fun h e => h (by rw [e]))
        have n2 : b.Nodup := (rise_unlike (rightS_rising hb)).imp (fun h e => h (by rw [e]))
        exact h (rise_perm (rightS_rising ha) (rightS_rising hb) ((List.perm_ext_iff_of_nodup n1 n2).2 fun x => ⟨m2 x, m1 x⟩))
theorem exact_right {l : List Lbl} (h : rightS l = true) : rightM (exactM l) = true := by
  have h1 : (exactM l).all mtcOk = true := by
    rw [exactM, List.all_map]
    refine List.all_eq_true.2 fun x hx => ?_
    have h2 := rightS_ok h x hx
    simp only [lblOk, Bool.and_eq_true, decide_eq_true_eq] at h2
    show mtcOk (x.1, x.2, (1 : Int)) = true
    have h3 : decide (signF 1 = ⟨#[]⟩) = false := by decide
    simp only [mtcOk]
    rw [h2.1.1, decide_eq_true h2.2, h3]; rfl
  rw [rightM, h1, exactM_length, decide_eq_true (rightS_len h)]; rfl
theorem exact_join (l : List Lbl) : joinM (exactM l) = joinL l := by
  induction l with
  | nil => rfl
  | cons x l ih =>
    show mtcL (x.1, x.2, (1 : Int)) ++ (if (exactM l).isEmpty then [] else 44 :: joinM (exactM l)) = lblL x ++ (if l.isEmpty then [] else 44 :: joinL l)
    rw [ih, show mtcL (x.1, x.2, (1 : Int)) = lblL x from rfl, show (exactM l).isEmpty = l.isEmpty by cases l <;> rfl]
theorem exact_print {l : List Lbl} (h : rightS l = true) : printM (exactM l) = printL l := by
  rw [printM, printL, exact_right h, h, exact_join]
/-- A value is these matchers. -/
def HasM (w : World) (v : Value) (l : List Mtc) : Prop := ∃ A c, v = .slice A l.length c ∧ Sees w w.heap.size 3 A l.length (mtcs l) ∧ l.length ≤ c ∧ c ≤ 9223372036854775807
theorem HasM.below {w w' : World} {v : Value} {l : List Mtc} (h : HasM w v l) (hb : Below w.heap.size w w') : HasM w' v l := by
  obtain ⟨A, c, h1, h2, h3⟩ := h
  exact ⟨A, c, h1, (h2.below hb).more hb.size, h3⟩
theorem HasM.drewN {w : World} {v : Value} {l : List Mtc} (h : HasM w v l) (n : Nat) : HasM (w.drewN n) v l := by
  obtain ⟨A, c, h1, h2, h3⟩ := h
  exact ⟨A, c, h1, h2.drewN n, h3⟩
theorem HasM.sees {w : World} {A : Option Addr} {n c : Nat} {l : List Mtc} (h : HasM w (.slice A n c) l) : Sees w w.heap.size 3 A n (mtcs l) := by
  obtain ⟨A', c', h1, h2, h3, h4⟩ := h
  injection h1 with h1 h5 h6
  subst h1; subst h5; subst h6
  exact h2
/-- Sets that stay, and matchers. -/
structure MtAt (w0 : World) (S : List (Value × List Lbl)) (T : List (Value × List Mtc)) (w : World) : Prop where
  h : Holds w0 S w
  m : ∀ p ∈ T, HasM w p.1 p.2
section
variable {w0 w w' : World} {S : List (Value × List Lbl)} {T : List (Value × List Mtc)}
theorem MtAt.below (h : MtAt w0 S T w) (hb : Below w.heap.size w w') : MtAt w0 S T w' := ⟨h.h.below hb, fun p hp => (h.m p hp).below hb⟩
theorem MtAt.drewN (h : MtAt w0 S T w) (n : Nat) : MtAt w0 S T (w.drewN n) := ⟨h.h.drewN n, fun p hp => (h.m p hp).drewN n⟩
theorem MtAt.alloc (h : MtAt w0 S T w) (o : Obj) : MtAt w0 S T (w.alloc o) := h.below ((Below.refl _ _).alloc (Nat.le_refl _) o)
theorem MtAt.add (h : MtAt w0 S T w) {v : Value} {l : List Mtc} (hv : HasM w v l) : MtAt w0 S ((v, l) :: T) w := ⟨h.h, fun p hp => by
  rcases List.mem_cons.1 hp with rfl | hp
  · exact hv
  · exact h.m p hp⟩
theorem MtAt.get (h : MtAt w0 S T w) {v : Value} {l : List Lbl} (hm : (v, l) ∈ S) : HasL w v l := h.h.get hm
theorem MtAt.getM (h : MtAt w0 S T w) {v : Value} {l : List Mtc} (hm : (v, l) ∈ T) : HasM w v l := h.m _ hm
theorem MtAt.bel (h : MtAt w0 S T w) : Below w0.heap.size w0 w := h.h.2
end
end Go.Proofs.Ytfcjalojgmpnoaa
