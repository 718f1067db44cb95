/- Sets that are merged: plain mathematics. -/
import Derived.Test.YtfcjalojgmpnoaaHolds
namespace Go.Proofs.Ytfcjalojgmpnoaa
open Go.ChangeShapes Go.WideShapes Go.ChangeAt Go.RowKit
set_option linter.unusedVariables false
/-- Labels of unlike names. -/
def Unlike (l : List Lbl) : Prop := l.Pairwise fun x y => x.1 ≠ y.1
theorem rise_unlike {l : List Lbl} (h : Rise l) : Unlike l := by
  refine List.Pairwise.imp ?_ h
  intro a b hab e
  exact less_ne hab (by rw [e])
theorem unlike_perm {l m : List Lbl} (h : Unlike l) (hp : m.Perm l) : Unlike m := (hp.pairwise_iff (fun h e => h e.symm)).2 h
theorem rise_perm {a b : List Lbl} (ha : Rise a) (hb : Rise b) (h : a.Perm b) : a = b :=
  List.Perm.eq_of_pairwise (le := fun (x y : Lbl) => Op.bytesLess x.1.toList y.1.toList = true) (fun x y _ _ h1 h2 => by rw [less_asymm h1] at h2; cases h2) ha hb h
theorem turn_perm (own : List Lbl) (k : Nat) (h : k < own.length) : ([own[k]] ++ own.take k ++ own.drop (k + 1)).Perm own := by
  have e : own.take k ++ own[k] :: own.drop (k + 1) = own := by rw [← List.drop_eq_getElem_cons h, List.take_append_drop]
  refine List.Perm.trans ?_ (List.Perm.of_eq e)
  rw [List.append_assoc, List.singleton_append]
  exact List.perm_middle.symm
theorem putL_perm (k : List Lbl) (x : Lbl) : (putL k x).Perm (x :: k) := by
  refine List.Perm.trans List.perm_middle ?_
  rw [List.takeWhile_append_dropWhile]
theorem keptL_all {m : List Lbl} {name : ByteArray} (h : ∀ y ∈ m, y.1 ≠ name) : keptL m name = m := List.filter_eq_self.2 fun y hy => by
  rw [hasS_one, decide_eq_false (fun e => h y hy e.symm)]; rfl
/-- One label more, put where it belongs. -/
theorem merge_step {own m : List Lbl} {k : Nat} (hu : Unlike own) (hok : ∀ x ∈ own, lblOk x = true) (hk : k < own.length) (hm : Rise m) (hp : m.Perm (own.take k)) :
    ∃ m', withL m own[k].1 own[k].2 = m' ∧ Rise m' ∧ m'.Perm (own.take (k + 1)) := by
  have hne : ∀ y ∈ m, y.1 ≠ own[k].1 := fun y hy => by
    have hy2 := hp.mem_iff.1 hy
    obtain ⟨j, hj, rfl⟩ := List.getElem_of_mem hy2
    rw [List.getElem_take]
    rw [List.length_take] at hj
    exact List.pairwise_iff_getElem.1 hu j k (by omega) hk (by omega)
  have hv : own[k].2.toList ≠ [] := by
    have h1 := (lblOk_size (hok _ (List.getElem_mem hk))).2.2.2
    intro e
    have h2 : own[k].2.size = 0 := by
      rw [ByteArray.toList_eq] at e
      have := congrArg List.length e
      simpa using this
    omega
  refine ⟨putL m own[k], ?_, putL_rise hm hne, ?_⟩
  · rw [withL, if_neg hv, keptL_all hne]
  · rw [List.take_succ_eq_append_getElem hk]
    exact (putL_perm m _).trans (((hp.cons _)).trans (List.perm_append_singleton _ _).symm)
def namesL (own : List Lbl) (k : Nat) : List ByteArray := (own.take k).map (·.1)
theorem drop_step (la own : List Lbl) (k : Nat) (h : k < own.length) : (la.filter fun x => !hasS (namesL own k) x.1).filter (fun x => !hasS [own[k].1] x.1) = la.filter fun x => !hasS (namesL own (k + 1)) x.1 := by
  rw [List.filter_filter]
  congr 1
  funext x
  have e : hasS (namesL own (k + 1)) x.1 = (hasS (namesL own k) x.1 || hasS [own[k].1] x.1) := by
    simp only [hasS, namesL, List.take_succ_eq_append_getElem h, List.map_append, List.any_append, List.map_cons, List.map_nil]
  rw [e]
  cases hasS (namesL own k) x.1 <;> cases hasS [own[k].1] x.1 <;> rfl
theorem drop_start (la own : List Lbl) : (la.filter fun x => !hasS (namesL own 0) x.1) = la := List.filter_eq_self.2 fun x _ => by simp [hasS, namesL]
theorem drop_end {la own : List Lbl} (hp : own.Perm la) : (la.filter fun x => !hasS (namesL own own.length) x.1) = [] := List.filter_eq_nil_iff.2 fun x hx => by
  have : hasS (namesL own own.length) x.1 = true := by
    refine hasS_yes ?_
    rw [namesL, List.take_length]
    exact List.mem_map.2 ⟨x, hp.mem_iff.2 hx, rfl⟩
  rw [this]; simp
theorem keep_names {l : List Lbl} (h : ∀ x ∈ l, ∃ i, i < 3 ∧ x.1 = keepNames.getD i ⟨#[]⟩) : l.filter (fun x => hasS keepNames x.1) = l := List.filter_eq_self.2 fun x hx => by
  obtain ⟨i, hi, e⟩ := h x hx
  rw [e]
  refine hasS_yes ?_
  match i, hi with
  | 0, _ => exact List.mem_cons_self
  | 1, _ => exact List.mem_cons_of_mem _ List.mem_cons_self
  | 2, _ => exact List.mem_cons_of_mem _ (List.mem_cons_of_mem _ List.mem_cons_self)
theorem cmp_cases {la lb : List Lbl} (ha : rightS la = true) (hb : rightS lb = true) :
    (la = lb ∧ Lib.compareBytes (printL la) (printL lb) = 0 ∧ Lib.compareBytes (printL lb) (printL la) = 0) ∨
    (la ≠ lb ∧ ((Lib.compareBytes (printL la) (printL lb) = 1 ∧ Lib.compareBytes (printL lb) (printL la) = -1) ∨ (Lib.compareBytes (printL la) (printL lb) = -1 ∧ Lib.compareBytes (printL lb) (printL la) = 1))) := by
  by_cases h : la = lb
  · subst h; exact .inl ⟨rfl, cmp_refl _, cmp_refl _⟩
  · right
    have hne : printL la ≠ printL lb := fun e => h (print_inj ha hb e)
    refine ⟨h, ?_⟩
    have hs := cmp_swap (printL la) (printL lb)
    rcases cmp_ne hne with h1 | h1
    · have e : Lib.compareBytes (printL la) (printL lb) = -1 := by rw [cmp_less, h1]; rfl
      exact .inr ⟨e, by omega⟩
    · have e : Lib.compareBytes (printL lb) (printL la) = -1 := by rw [cmp_less, h1]; rfl
      exact .inl ⟨by omega, e⟩
end Go.Proofs.Ytfcjalojgmpnoaa
