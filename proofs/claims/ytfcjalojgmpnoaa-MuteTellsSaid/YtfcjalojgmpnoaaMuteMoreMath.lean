/- Mathematics of MuteMore and its kin. -/
import Derived.Test.YtfcjalojgmpnoaaMuteRuns
import Derived.Test.YtfcjalojgmpnoaaArgsMute
namespace Go.Proofs.Ytfcjalojgmpnoaa
open Go.ChangeShapes Go.WideShapes Go.ChangeAt Go.RowKit
set_option linter.unusedVariables false
theorem Try.infoSil : (Try.prog.info? 31).map (fun i => (i.zero, i.size, i.bytes)) = some (some (.agg #[.slice none 0 0, .int .i64 0, .int .i64 0]), 3, 40) := by kernel_rfl
theorem filter_len_mono {α : Type} {p q : α → Bool} {l : List α} (h : ∀ x ∈ l, p x = true → q x = true) : (l.filter p).length ≤ (l.filter q).length := by
  induction l with
  | nil => simp
  | cons x l ih =>
    have ih := ih (fun y hy => h y (List.mem_cons_of_mem _ hy))
    have hx := h x List.mem_cons_self
    cases hp : p x <;> cases hq : q x <;> simp [hp, hq] <;> first | omega | (rw [hx hp] at hq; cases hq)
theorem silF_more (l : List Lbl) (t : Int) (ss : List Sil) (v : Value) (f e : Int) : silF l t (ss ++ [⟨v, [], f, e⟩]) = (silF l t ss || (decide (f ≤ t) && decide (t < e))) := by
  unfold silF
  rw [List.any_append]
  simp [silOne, allF]
theorem heardF_in {all : List (List Lbl)} {t : Int} {ss : List Sil} {hs : List Inh} {v : Value} {f e : Int} (h1 : f ≤ t) (h2 : t < e) : heardF all t (ss ++ [⟨v, [], f, e⟩]) hs = [] := by
  unfold heardF
  rw [List.filter_eq_nil_iff]
  intro x _
  unfold hearOne
  rw [silF_more, decide_eq_true h1, decide_eq_true h2]; simp
theorem heardF_out {all : List (List Lbl)} {t : Int} {ss : List Sil} {hs : List Inh} {v : Value} {f e : Int} (h : ¬ f ≤ t ∨ ¬ t < e) : heardF all t (ss ++ [⟨v, [], f, e⟩]) hs = heardF all t ss hs := by
  unfold heardF
  congr 1
  funext x
  unfold hearOne
  rw [silF_more]
  rcases h with h | h <;> rw [decide_eq_false h] <;> simp
theorem heardF_fewer (all : List (List Lbl)) (t : Int) (ss : List Sil) (hs : List Inh) : (heardF all t ss hs).length ≤ (heardF all t ss []).length := by
  refine filter_len_mono fun x _ hx => ?_
  unfold hearOne at *
  rw [Bool.and_eq_true] at hx
  rw [hx.1]; simp [inhF]
theorem heardF_none (all : List (List Lbl)) (t : Int) : heardF all t [] [] = all := by
  unfold heardF
  rw [List.filter_eq_self]
  intro x _
  simp [hearOne, silF, inhF]
theorem inhF_alone (l : List Lbl) (hs : List Inh) : inhF [l] l hs = false := by
  unfold inhF
  rw [List.any_eq_false]
  intro h _
  simp [inhOne, inhBy]
theorem rows_len {sets : List (List Lbl)} {w w' : World} {e : Ending} (h : RowsAns sets w e w') : ∃ A c, e = .returned (.slice A sets.length c) ∧ Below w.heap.size w w' ∧ sets.length ≤ c ∧ c ≤ 9223372036854775807 := by
  obtain ⟨A, c, rows, h1, h2, h3, h4, h5, h6⟩ := h
  have hl : rows.length = sets.length := by rw [← h1, setsOf, List.length_map]
  rw [hl] at h2 h5
  exact ⟨A, c, h2, h4, h5, h6⟩
/-- One row alone, as the model cuts it. -/
theorem SetsAt.one {w : World} {A : Option Addr} {n k cap : Nat} {l : List (Value × List Lbl)} (h : SetsAt w A n l) (hk : k < n) (hc : n ≤ cap) (hl : k < l.length) : SetsAt w (if cap = k then A else A.map (·.add (k * 1))) 1 [l[k]] := by
  refine ⟨?_, fun x hx => by rw [List.mem_singleton] at hx; subst hx; exact h.each _ (List.getElem_mem _)⟩
  have h1 := (h.row.drop (k := k) (cap := cap) (by omega) hc).take (k := 1) (by omega)
  have e : ((l.map Prod.fst).drop (k * 1)).take (1 * 1) = [l[k]].map Prod.fst := by
    rw [Nat.mul_one, Nat.mul_one, List.drop_eq_getElem_cons (by simpa using hl)]; simp
  rw [e] at h1
  exact h1
theorem inhibited_alone {Y : Option Addr} {c : Nat} {x : Value × List Lbl} {A2 : Option Addr} {n2 c2 : Nat} {hs : List Inh} {w : World} (hA : SetsAt w Y 1 [x]) (hH : InhsAt w A2 n2 hs) (hn2 : n2 ≤ 9223372036854775807) :
    Calls Try.prog 8 #[.slice Y 1 c, .int .i64 0, .slice A2 n2 c2] w fun e w' => e = .returned (.bool false) ∧ Below w.heap.size w w' := by
  obtain ⟨v, l⟩ := x
  have h := inhibited_any Y 1 c [(v, l)] 0 A2 n2 c2 hs w hA hH (by omega) hn2 (Nat.zero_lt_one)
  have e : inhF ([(v, l)].map Prod.snd) [(v, l)][0].2 hs = false := inhF_alone l hs
  rw [e] at h
  exact h
/-- The sets of numbers that a law makes: each in memory of its own. -/
theorem setsOf_take {qs : List KSet} {k : Nat} (hk : k < qs.length) {rows : List (Value × List Lbl)} (h : setsOf rows = (qs.take k).map setF) (v : Value) : setsOf (rows ++ [(v, setF qs[k])]) = (qs.take (k + 1)).map setF := by
  rw [setsOf_push, h, List.take_succ_eq_append_getElem hk, List.map_append]; rfl
theorem sizes_of {qs : List KSet} {rows : List (Value × List Lbl)} {k : Nat} (h : setsOf rows = (qs.take k).map setF) : ∀ x ∈ rows, x.2.length ≤ 1000 := by
  intro x hx
  have h1 : x.2 ∈ setsOf rows := List.mem_map_of_mem hx
  rw [h, List.mem_map] at h1
  obtain ⟨q, _, e⟩ := h1
  have := setF_len q
  rw [← e]; omega
/-- More silences of the call's own. -/
theorem sils_own {w : World} {base n c : Nat} {A : Option Addr} {ss : List Sil} (h : w.ownsRow base 31 3 (.slice A n c) n (tri (ss.map Sil.cells))) (hm : ∀ x ∈ ss, HasM w x.v x.ms) : SilsAt w A n ss := ⟨Sees.of_own h, hm⟩
theorem sil_one (ss : List Sil) : ∀ x ∈ ss.map Sil.cells, x.2.1.oneCell' = true ∧ x.2.2.oneCell' = true := by
  intro x hx
  simp only [List.mem_map] at hx
  obtain ⟨s, _, rfl⟩ := hx
  exact ⟨rfl, rfl⟩
end Go.Proofs.Ytfcjalojgmpnoaa
