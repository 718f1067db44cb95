/- Spans as sets of ticks. -/
import Derived.Test.YtogdollfndpleaaSpanOne
namespace Go.Proofs.Ytogdollfndpleaa
open Go.ChangeShapes Go.WideShapes Go.ChangeAt Go.RowKit
set_option linter.unusedVariables false
set_option maxRecDepth 100000
def InL : List (Int × Int) → Int → Prop
  | [], _ => False
  | x :: r, t => (x.1 ≤ t ∧ t ≤ x.2) ∨ InL r t
theorem inL_iff (l : List (Int × Int)) (t : Int) : hasF l t = true ↔ InL l t := by
  induction l with
  | nil => simp [hasF, InL]
  | cons x r ih =>
    unfold hasF at ih ⊢
    rw [List.any_cons, Bool.or_eq_true, ih]
    simp [InL]
theorem inL_append (l m : List (Int × Int)) (t : Int) : InL (l ++ m) t ↔ InL l t ∨ InL m t := by
  induction l with
  | nil => simp [InL]
  | cons x r ih => simp only [List.cons_append, InL, ih, or_assoc]
/-- Rising spans from lo on, with a tick between each two at least. -/
def Rise : Int → List (Int × Int) → Prop
  | _, [] => True
  | lo, x :: r => lo ≤ x.1 ∧ x.1 ≤ x.2 ∧ Rise (x.2 + 2) r
theorem Rise.less {lo lo' : Int} {l : List (Int × Int)} (h : Rise lo l) (hl : lo' ≤ lo) : Rise lo' l := by
  cases l with
  | nil => trivial
  | cons x r => exact ⟨by have := h.1; omega, h.2⟩
theorem Rise.ge {lo : Int} {l : List (Int × Int)} (h : Rise lo l) {t : Int} (ht : InL l t) : lo ≤ t := by
  induction l generalizing lo with
  | nil => exact ht.elim
  | cons x r ih =>
    rcases ht with ht | ht
    · have := h.1; omega
    · have := ih h.2.2 ht; have := h.1; have := h.2.1; omega
theorem Rise.not {lo : Int} {l : List (Int × Int)} (h : Rise lo l) {t : Int} (ht : t < lo) : ¬ InL l t := fun h2 => by have := h.ge h2; omega
/-- Where the next one may begin. -/
def endOf : Int → List (Int × Int) → Int
  | lo, [] => lo
  | _, x :: r => endOf (x.2 + 2) r
theorem rise_snoc (lo : Int) (us : List (Int × Int)) (y : Int × Int) : Rise lo (us ++ [y]) ↔ Rise lo us ∧ endOf lo us ≤ y.1 ∧ y.1 ≤ y.2 := by
  induction us generalizing lo with
  | nil => simp [Rise, endOf]
  | cons x r ih => simp only [List.cons_append, Rise, endOf, ih, and_assoc]
theorem endOf_snoc (lo : Int) (us : List (Int × Int)) (y : Int × Int) : endOf lo (us ++ [y]) = y.2 + 2 := by
  induction us generalizing lo with
  | nil => rfl
  | cons x r ih => exact ih _
theorem inn_spec {k : List (Int × Int) → List (Int × Int)} {a : List (Int × Int)} {t0 : Int} (ha : Rise (t0 + 2) a)
    (hk : ∀ b lb, Rise lb b → (∀ t, InL (k b) t ↔ InL a t ∧ ¬ InL b t) ∧ Rise (t0 + 2) (k b)) :
    ∀ (b : List (Int × Int)) (lb f : Int), Rise lb b → f ≤ t0 → (∀ t, InL (inn k (f, t0) b) t ↔ ((f ≤ t ∧ t ≤ t0) ∨ InL a t) ∧ ¬ InL b t) ∧ Rise f (inn k (f, t0) b) := by
  intro b
  induction b with
  | nil =>
    intro lb f _ hf
    obtain ⟨h1, h2⟩ := hk [] 0 trivial
    refine ⟨fun t => ?_, Int.le_refl _, hf, h2⟩
    rw [inn_nil, inL_append, h1]
    simp [InL]
  | cons y b ih =>
    intro lb f hb hf
    obtain ⟨h1, h2⟩ := hk (y :: b) lb hb
    have hb2 := hb.2.2
    have hy := hb.2.1
    by_cases hne : y.1 ≤ t0
    · obtain ⟨f2, hf2⟩ : ∃ f2, (if f < y.2 + 1 then y.2 + 1 else f) = f2 := ⟨_, rfl⟩
      have hf3 : f ≤ f2 ∧ y.2 + 1 ≤ f2 ∧ (f2 = f ∨ f2 = y.2 + 1) := by rw [← hf2]; split <;> omega
      rw [inn_near (x := (f, t0)) k b hne hf2]
      have hE : ∀ t, InL (if f < y.1 then [(f, y.1 - 1)] else []) t ↔ f ≤ t ∧ t < y.1 := by
        intro t
        split
        · simp only [InL, or_false]; omega
        · rename_i hno
          exact ⟨fun g => g.elim, fun g => by have := g.1; have := g.2; exact absurd (show f < y.1 by omega) hno⟩
      have hRE : ∀ m lo, y.1 + 1 ≤ lo → f ≤ lo → Rise lo m → Rise f ((if f < y.1 then [(f, y.1 - 1)] else []) ++ m) := by
        intro m lo h1 h2 h3
        split
        · exact ⟨Int.le_refl _, by show f ≤ y.1 - 1; omega, h3.less (by show y.1 - 1 + 2 ≤ lo; omega)⟩
        · exact h3.less h2
      show (∀ t, InL ((if f < y.1 then [(f, y.1 - 1)] else []) ++ if f2 > t0 then k (y :: b) else inn k (f2, t0) b) t ↔ _) ∧ Rise f ((if f < y.1 then [(f, y.1 - 1)] else []) ++ if f2 > t0 then k (y :: b) else inn k (f2, t0) b)
      by_cases hgt : f2 > t0
      · rw [if_pos hgt]
        refine ⟨fun t => ?_, hRE _ (t0 + 2) (by omega) (by omega) h2⟩
        rw [inL_append, hE, h1]
        have q1 := fun h => hb2.not (t := t) h
        have q2 := fun h => ha.not (t := t) h
        simp only [InL]
        constructor
        · rintro (⟨g1, g2⟩ | ⟨g1, g2⟩)
          · exact ⟨.inl ⟨g1, by omega⟩, fun g => by rcases g with g | g; omega; exact q1 (by omega) g⟩
          · exact ⟨.inr g1, g2⟩
        · rintro ⟨g1 | g1, g2⟩
          · refine .inl ⟨g1.1, ?_⟩
            rcases Int.lt_or_le t y.1 with g3 | g3
            · exact g3
            · exact (g2 (.inl ⟨g3, by have := g1.2; rcases hf3.2.2 with e | e <;> omega⟩)).elim
          · exact .inr ⟨g1, g2⟩
      · rw [if_neg hgt]
        obtain ⟨i1, i2⟩ := ih (y.2 + 2) f2 hb2 (by omega)
        refine ⟨fun t => ?_, hRE _ f2 (by omega) (by omega) i2⟩
        rw [inL_append, hE, i1]
        have q1 := fun h => hb2.not (t := t) h
        have q2 := fun h => ha.not (t := t) h
        simp only [InL]
        constructor
        · rintro (⟨g1, g2⟩ | ⟨g1 | g1, g2⟩)
          · exact ⟨.inl ⟨g1, by omega⟩, fun g => by rcases g with g | g; omega; exact q1 (by omega) g⟩
          · exact ⟨.inl ⟨by omega, g1.2⟩, fun g => by rcases g with g | g; omega; exact g2 g⟩
          · refine ⟨.inr g1, fun g => ?_⟩
            rcases g with g | g
            · exact q2 (by omega) g1
            · exact g2 g
        · rintro ⟨g1 | g1, g2⟩
          · rcases Int.lt_or_le t y.1 with g3 | g3
            · exact .inl ⟨g1.1, g3⟩
            · refine .inr ⟨.inl ⟨?_, g1.2⟩, fun g => g2 (.inr g)⟩
              rcases Int.lt_or_le y.2 t with g4 | g4
              · rcases hf3.2.2 with e | e <;> omega
              · exact (g2 (.inl ⟨g3, g4⟩)).elim
          · exact .inr ⟨.inr g1, fun g => g2 (.inr g)⟩
    · rw [inn_far (x := (f, t0)) k b hne]
      refine ⟨fun t => ?_, Int.le_refl _, hf, h2⟩
      rw [inL_append, h1]
      have q1 := fun h => hb2.not (t := t) h
      simp only [InL, or_false]
      constructor
      · rintro (g1 | ⟨g1, g2⟩)
        · exact ⟨.inl g1, fun g => by rcases g with g | g; omega; exact q1 (by omega) g⟩
        · exact ⟨.inr g1, g2⟩
      · rintro ⟨g1 | g1, g2⟩
        · exact .inl g1
        · exact .inr ⟨g1, g2⟩
theorem lessF_spec : ∀ (a : List (Int × Int)) (lo : Int), Rise lo a → ∀ (b : List (Int × Int)) (lb : Int), Rise lb b → (∀ t, InL (lessF a b) t ↔ InL a t ∧ ¬ InL b t) ∧ Rise lo (lessF a b) := by
  intro a
  induction a with
  | nil => intro lo _ b lb _; exact ⟨fun t => by simp [lessF, InL], trivial⟩
  | cons x a ih =>
    intro lo ha b lb hb
    obtain ⟨f, t0⟩ := x
    obtain ⟨h1, h2⟩ := inn_spec (k := lessF a) ha.2.2 (fun b lb hb => ih (t0 + 2) ha.2.2 b lb hb) b lb f hb ha.2.1
    exact ⟨fun t => by show InL (inn (lessF a) (f, t0) b) t ↔ _; rw [h1]; rfl, h2.less ha.1⟩
/-- One more that begins no sooner than the last one. -/
theorem withS_spec {lo : Int} {l : List (Int × Int)} {x : Int × Int} (h : Rise lo l) (hlo : lo ≤ x.1) (hx : x.1 ≤ x.2) (hlast : ∀ y ∈ l.getLast?, y.1 ≤ x.1) :
    (∀ t, InL (withS l x) t ↔ InL l t ∨ (x.1 ≤ t ∧ t ≤ x.2)) ∧ Rise lo (withS l x) := by
  rcases List.eq_nil_or_concat l with rfl | ⟨us, y, rfl⟩
  · rw [withS_nil]
    exact ⟨fun t => by simp [InL], hlo, hx, trivial⟩
  · rw [List.concat_eq_append] at *
    have hy := hlast y (by simp)
    obtain ⟨h1, h2, h3⟩ := (rise_snoc lo us y).1 h
    rw [withS_last]
    by_cases hj : x.1 ≤ y.2 + 1
    · rw [if_pos hj]
      obtain ⟨m, hm⟩ : ∃ m, (if y.2 < x.2 then x.2 else y.2) = m := ⟨_, rfl⟩
      have hm2 : y.2 ≤ m ∧ x.2 ≤ m ∧ (m = y.2 ∨ m = x.2) := by rw [← hm]; split <;> omega
      rw [hm]
      refine ⟨fun t => ?_, (rise_snoc lo us (y.1, m)).2 ⟨h1, h2, by show y.1 ≤ m; omega⟩⟩
      rw [inL_append, inL_append]
      simp only [InL, or_false]
      constructor
      · rintro (g | g)
        · exact .inl (.inl g)
        · rcases Int.lt_or_le y.2 t with g2 | g2
          · exact .inr (by omega)
          · exact .inl (.inr (by omega))
      · rintro ((g | g) | g)
        · exact .inl g
        · exact .inr (by omega)
        · exact .inr (by omega)
    · rw [if_neg hj]
      refine ⟨fun t => ?_, (rise_snoc lo _ x).2 ⟨h, by rw [endOf_snoc]; omega, hx⟩⟩
      rw [inL_append]
      simp [InL]
end Go.Proofs.Ytogdollfndpleaa
