/- Texts, merged in one. -/
import Derived.Test.YtlmakdclebbbkaaGreatBase50
import Derived.Test.YtlmakdclebbbkaaGreatBase2
namespace Go.Proofs.YtlmakdclebbbkaaGreat
open Go.ChangeShapes Go.WideShapes Go.ChangeAt Go.RowKit Go.Lib
set_option linter.unusedVariables false
set_option linter.unusedSimpArgs false
set_option maxRecDepth 100000
def InOrd (ps : List Pt) : Prop := ps.Pairwise (LeK fun q => printL q.1)
theorem InOrd.nil : InOrd [] := List.Pairwise.nil
theorem InOrd.sort (ps : List Pt) : InOrd (sortP ps) := sortK_sorted _ ps
theorem InOrd.self {ps : List Pt} (h : InOrd ps) : sortP ps = ps := sortK_self _ ps h
theorem InOrd.res (f : Pt → Option (List Lbl × (Int × Int))) (ps : List Pt) : InOrd (resF f ps).1 ∧ ((resF f ps).2 ≠ 0 → (resF f ps).1 = []) := by
  unfold resF
  split
  · exact ⟨InOrd.sort _, fun h => absurd rfl h⟩
  · exact ⟨InOrd.nil, fun _ => rfl⟩
theorem InOrd.group (k : Int) (ns : List ByteArray) (ps : List Pt) : InOrd (groupR k ns ps).1 ∧ ((groupR k ns ps).2 ≠ 0 → (groupR k ns ps).1 = []) := by
  unfold groupR
  split
  · exact ⟨InOrd.sort _, fun h => absurd rfl h⟩
  · exact ⟨InOrd.nil, fun _ => rfl⟩
theorem InOrd.two (k : Int) (u v : EV) : InOrd (twoE k u v).1 ∧ ((twoE k u v).2 ≠ 0 → (twoE k u v).1 = []) := by
  unfold twoE scaleR mathR logicR filterR
  split
  · split
    · split
      · exact ⟨InOrd.nil, fun _ => rfl⟩
      · exact InOrd.res _ _
    · split
      · split
        · exact ⟨InOrd.nil, fun _ => rfl⟩
        · exact InOrd.res _ _
      · split
        · exact ⟨InOrd.nil, fun _ => rfl⟩
        · exact InOrd.res _ _
  · split
    · split
      · exact ⟨InOrd.nil, fun _ => rfl⟩
      · split
        · exact ⟨InOrd.sort _, fun h => absurd rfl h⟩
        · exact ⟨InOrd.nil, fun _ => rfl⟩
    · split
      · exact ⟨InOrd.sort _, fun h => absurd rfl h⟩
      · split
        · exact ⟨InOrd.nil, fun _ => rfl⟩
        · exact InOrd.res _ _
theorem pick_ord {D : List SK} (h : D.Pairwise fun x y => Op.bytesLess (printL x.1) (printL y.1) = true) (t look : Int) (ms : List Mtc) : InOrd (pickS D t look ms) := by
  have h1 : ∀ x p, p ∈ pickOne t look ms x → p.1 = x.1 := fun x p hp => by
    unfold pickOne at hp
    split at hp
    · split at hp
      · rw [List.mem_singleton] at hp; rw [hp]
      · cases hp
    · cases hp
  unfold InOrd pickS
  induction D with
  | nil => exact List.Pairwise.nil
  | cons x D ih =>
    rw [List.pairwise_cons] at h
    rw [List.flatMap_cons, List.pairwise_append]
    refine ⟨?_, ih h.2, fun p hp q hq => ?_⟩
    · unfold pickOne
      split
      · split
        · exact List.pairwise_singleton _ _
        · exact List.Pairwise.nil
      · exact List.Pairwise.nil
    · obtain ⟨y, hy, hq⟩ := List.mem_flatMap.1 hq
      show Op.bytesLess (printL q.1) (printL p.1) = false
      rw [h1 _ _ hp, h1 _ _ hq]
      have h3 := h.1 y hy
      cases e : Op.bytesLess (printL y.1) (printL x.1) with
      | false => rfl
      | true => rw [less_asymm h3] at e; cases e
theorem comF_ord {D : List SK} (hD : DOk D) (t : Int) : ∀ (d : Nat) (x : PE), InOrd (comF D t d x).1.ps ∧ ((comF D t d x).2 ≠ 0 → (comF D t d x).1.ps = [])
  | 0, _ => ⟨InOrd.nil, fun _ => rfl⟩
  | d + 1, .mk k n ms ns ks => by
    unfold comF
    split
    · split
      · exact ⟨InOrd.nil, fun _ => rfl⟩
      · exact ⟨InOrd.nil, fun _ => rfl⟩
    split
    · exact ⟨pick_ord hD.sorted t n ms, fun h => absurd rfl h⟩
    match ks with
    | [] => exact ⟨InOrd.nil, fun _ => rfl⟩
    | [a] =>
      simp only
      split
      · exact ⟨InOrd.nil, fun _ => rfl⟩
      · exact InOrd.group _ _ _
    | [a, b] =>
      simp only
      split
      · exact ⟨InOrd.nil, fun _ => rfl⟩
      · split
        · exact ⟨InOrd.nil, fun _ => rfl⟩
        · exact InOrd.two _ _ _
    | a :: b :: c :: l => exact ⟨InOrd.nil, fun _ => rfl⟩
theorem evalR_ord {D : List SK} (hD : DOk D) (t : Int) (d : Nat) (x : PE) : InOrd (evalR D t d x).1 ∧ ((evalR D t d x).2 ≠ 0 → (evalR D t d x).1 = []) := by
  unfold evalR
  split
  · exact comF_ord hD t d x
  · exact ⟨InOrd.nil, fun _ => rfl⟩
structure SelfF (P A U E L S : List Pt) : Prop where
  ra : wantR 14 P P = (A, 0)
  ru : wantR 16 P P = (U, 0)
  re : wantR 8 P P = (E, 0)
  rl : wantR 10 P P = (L, 0)
  rs : wantR 4 P P = (S, 0)
  a : A = P
  u : U = []
  e : E = P
  l : L = []
  ns : S.length = P.length
  s0 : ∀ p ∈ S, p.2 = 0
theorem self_of {P : List Pt} (ho : InOrd P) (h : twiceF (keysP P) = false) : ∃ A U E L S, SelfF P A U E L S := by
  have hn := (twice_iff _).1 h
  have key : ∀ k, P.filter (okF k P) = P.filter fun p => holdsC k p.2 p.2 := fun k => List.filter_congr fun p hp => by
    obtain ⟨i, h1, h2⟩ := find_own hn hp (q := p) rfl
    unfold okF; rw [h1]; show holdsC k p.2 (valP P i) = _; rw [h2]
  have hall : P.filter (fun p => holdsC 8 p.2 p.2) = P := List.filter_eq_self.2 fun p _ => by simp [holdsC]
  have hno : P.filter (fun p => holdsC 10 p.2 p.2) = [] := List.filter_eq_nil_iff.2 fun p _ => by simp [holdsC]
  have hun : amongF (keysP P) false P = [] := by
    rw [among_filter]
    exact List.filter_eq_nil_iff.2 fun p hp => by simp [keysP_self hp]
  have hsub : resF (mathF 4 P) P = (sortP (P.map fun p => (bareL p.1, 0)), 0) := by
    refine total_res (g := fun p => (bareL p.1, 0)) fun p hp => ?_
    obtain ⟨i, h1, h2⟩ := find_own hn hp (q := p) rfl
    unfold mathF; rw [h1]
    show some (bareL p.1, reckonF 4 p.2 (valP P i)) = _
    rw [h2, reck4 (by rw [Int.sub_self]; exact I64_zero), Int.sub_self]
  refine ⟨P, [], P, [], sortP (P.map fun p => (bareL p.1, 0)), ?_, ?_, ?_, ?_, ?_, rfl, rfl, rfl, rfl, ?_, ?_⟩
  · unfold wantR logicR logicF
    simp [h, among_self, ho.self]
  · unfold wantR logicR logicF
    simp [h, hun]; rfl
  · unfold wantR
    simp only [show ¬ ((8 : Int) ≤ 7) by decide, if_false, show (8 : Int) ≤ 13 by decide, if_true]
    rw [filterR_eq 8 h h, key, hall, ho.self]
  · unfold wantR
    simp only [show ¬ ((10 : Int) ≤ 7) by decide, if_false, show (10 : Int) ≤ 13 by decide, if_true]
    rw [filterR_eq 10 h h, key, hno]; rfl
  · unfold wantR mathR
    simp only [show (4 : Int) ≤ 7 by decide, if_true]
    rw [h, hsub]; rfl
  · rw [sortP_len, List.length_map]
  · intro p hp
    obtain ⟨q, _, rfl⟩ := List.mem_map.1 (sortP_mem.1 hp)
    rfl
theorem self_twice {P : List Pt} (h : twiceF (keysP P) = true) : ∀ k, wantR k P P = ([], 5) := fun k => by
  unfold wantR mathR filterR logicR
  simp [h]
end Go.Proofs.YtlmakdclebbbkaaGreat

namespace Go.Proofs.YtlmakdclebbbkaaGreat
open Go.RowKit Go.ChangeShapes Go.WideShapes Go.ChangeAt
set_option linter.unusedVariables false
section
variable {P : Program} {w : World} {base : Nat} {spare : Nat → Bool} {held : Bool} {H : Type} {enc : TypeId × Value → H}
theorem arg_rows {t e : TypeId} {fs : Array Field} {K fuel : Nat} {a0 : Option Addr} {len cap : Nat} {x : DataW H × List MemPlace} (ht : P.underlying t = some (.slice e)) (he : P.underlying e = some (.struct fs))
    (ce : P.cellsOf e = K) (hK : 0 < K) (hof : ∀ (j : Nat) (f : Field), fs[j]? = some f → f.offset = j ∧ P.cellsOf f.type = 1 ∧ j < K)
    (h : DataW.trod enc P w base spare held fuel t (Value.slice a0 len cap).cells.toList = some x) :
    ∃ V : Nat → Nat → Value, (0 < len → ∃ a, a0 = some a ∧ a.block < w.heap.size ∧ ∀ i j, i < len → j < K → w.cell? (a.add (i * K + j)) = some (V i j)) ∧ len ≤ cap ∧ cap ≤ 9223372036854775807 ∧
      ∀ (i j : Nat) (f : Field), i < len → fs[j]? = some f → ∃ k y, DataW.trod enc P w base spare held k f.type [V i j] = some y := by
  rcases Deep.open_slice ht h with ⟨hcs, _⟩ | ⟨a, l, c, m, n, D, Pl, hcs, _, hl, hm, hmm, _, hx⟩
  · simp [Value.cells] at hcs
    obtain ⟨rfl, rfl, rfl⟩ := hcs
    exact ⟨fun _ _ => .int .i64 0, fun h => absurd h (by omega), Nat.le_refl _, by omega, fun i j f hi => absurd hi (by omega)⟩
  · simp [Value.cells] at hcs
    obtain ⟨rfl, rfl, rfl⟩ := hcs
    have hlm : len ≤ m := by rw [hmm]; split <;> omega
    have each : ∀ i, i < m → ∃ v : Nat → Value, (∀ j, j < K → w.cell? (a.add (i * K + j)) = some (v j)) ∧ ∀ (j : Nat) (f : Field), fs[j]? = some f → ∃ k y, DataW.trod enc P w base spare held k f.type [v j] = some y := by
      intro i hi
      obtain ⟨cs', h1, h2⟩ := hx i hi
      rw [ce] at h1
      obtain ⟨_, hlen, hcell⟩ := World.cells?_some h1
      obtain ⟨xs, k, hk, hxy, _, hxl, hf⟩ := DataW.trod_struct he h2
      refine ⟨fun j => cs'.getD j (.int .i64 0), fun j hj => ?_, fun j f hjf => ?_⟩
      · have h3 := hcell j hj
        rw [add_add] at h3
        rw [h3]
        show cs'[j]? = some (cs'.getD j (.int .i64 0))
        rw [List.getD_eq_getElem?_getD, List.getElem?_eq_getElem (by omega)]
        rfl
      · obtain ⟨ho, hc, hjK⟩ := hof j f hjf
        have h4 := hf j f hjf
        rw [ho, hc] at h4
        have hjl : j < cs'.length := by omega
        have h5 : (cs'.drop j).take 1 = [cs'.getD j (.int .i64 0)] := by
          rw [List.drop_eq_getElem_cons hjl, List.getD_eq_getElem?_getD, List.getElem?_eq_getElem hjl]
          rfl
        rw [h5] at h4
        have hjx : j < xs.length := by rw [hxl]; exact (Array.getElem?_eq_some_iff.1 hjf).1
        exact ⟨k, xs[j], by rw [h4, List.getElem?_eq_getElem hjx]⟩
    obtain ⟨q, hq⟩ : ∃ q : Nat → Nat → Value, ∀ i, i < m → (∀ j, j < K → w.cell? (a.add (i * K + j)) = some (q i j)) ∧ ∀ (j : Nat) (f : Field), fs[j]? = some f → ∃ k y, DataW.trod enc P w base spare held k f.type [q i j] = some y := by
      have : Inhabited (Nat → Value) := ⟨fun _ => .int .i64 0⟩
      exact Deep.choose_lt each
    refine ⟨q, fun hn => ⟨a, rfl, ?_, fun i j hi hj => (hq i (by omega)).1 j hj⟩, hl, by unfold maxLen at hm; exact hm, fun i j f hi hf => (hq i (by omega)).2 j f hf⟩
    have := World.block_lt_of_cell? w _ ((hq 0 (by omega)).1 0 hK)
    rwa [add_block] at this
theorem cell_slice {t e : TypeId} {k : Nat} {v : Value} {x : DataW H × List MemPlace} (ht : P.underlying t = some (.slice e)) (h : DataW.trod enc P w base spare held k t [v] = some x) :
    ∃ a n c, v = .slice a n c ∧ DataW.trod enc P w base spare held k t (Value.slice a n c).cells.toList = some x := by
  rcases Deep.open_slice ht h with ⟨hcs, _⟩ | ⟨a, l, c, m, n, D, Pl, hcs, _⟩
  · simp at hcs
    subst hcs
    exact ⟨none, 0, 0, rfl, h⟩
  · simp at hcs
    subst hcs
    exact ⟨some a, l, c, rfl, h⟩
end
end Go.Proofs.YtlmakdclebbbkaaGreat
