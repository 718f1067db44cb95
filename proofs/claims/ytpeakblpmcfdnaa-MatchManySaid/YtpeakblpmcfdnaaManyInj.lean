/- Two rows of right matchers have one text just if they are the same: plain mathematics. -/
import Derived.Test.YtpeakblpmcfdnaaManyMath2
import Derived.Test.YtpeakblpmcfdnaaParseMath
namespace Go.Proofs.Ytpeakblpmcfdnaa
open Go.ChangeShapes Go.WideShapes Go.ChangeAt Go.RowKit
set_option linter.unusedVariables false
theorem word_all {s : ByteArray} (h : wordF s = true) : ∀ x ∈ s.data.toList, withinN x.toNat = true := by
  intro x hx
  simp only [wordF, Bool.and_eq_true] at h
  obtain ⟨k, hk, rfl⟩ := List.getElem_of_mem hx
  have hs : k < s.size := by simpa using hk
  have := allIn_get h.2 k hs
  rw [byteAt_get hs] at this
  exact this
theorem span_inj {p : UInt8 → Bool} : ∀ {a b u v : List UInt8}, (∀ x ∈ a, p x = true) → (∀ x ∈ b, p x = true) → (∀ x, u.head? = some x → p x = false) → (∀ x, v.head? = some x → p x = false) → u ≠ [] → v ≠ [] → a ++ u = b ++ v → a = b ∧ u = v
  | [], [], u, v, _, _, _, _, _, _, h => ⟨rfl, h⟩
  | [], y :: b, u, v, _, hb, hu, _, _, _, h => by
    have h1 := hu y (by rw [List.nil_append] at h; rw [h]; rfl)
    rw [hb y List.mem_cons_self] at h1; cases h1
  | x :: a, [], u, v, ha, _, _, hv, _, _, h => by
    have h1 := hv x (by rw [List.nil_append] at h; rw [← h]; rfl)
    rw [ha x List.mem_cons_self] at h1; cases h1
  | x :: a, y :: b, u, v, ha, hb, hu, hv, hu0, hv0, h => by
    injection h with h1 h2
    obtain ⟨h3, h4⟩ := span_inj (fun z hz => ha z (List.mem_cons_of_mem _ hz)) (fun z hz => hb z (List.mem_cons_of_mem _ hz)) hu hv hu0 hv0 h2
    exact ⟨by rw [h1, h3], h4⟩
theorem sign_kind {k : Int} (h : signF k ≠ ⟨#[]⟩) : k = 1 ∨ k = 2 ∨ k = 3 ∨ k = 4 := by
  by_cases h1 : k = 1
  · exact .inl h1
  · by_cases h2 : k = 2
    · exact .inr (.inl h2)
    · by_cases h3 : k = 3
      · exact .inr (.inr (.inl h3))
      · by_cases h4 : k = 4
        · exact .inr (.inr (.inr h4))
        · exact absurd (by unfold signF; rw [if_neg h1, if_neg h2, if_neg h3, if_neg h4]) h
theorem quote_inj {v u r s : List UInt8} (hv : v.length ≤ 24) (hu : u.length ≤ 24) (h : quoteL v ++ r = quoteL u ++ s) : v = u ∧ r = s := by
  have h1 := unqText_mk (r := r) hv
  rw [h, unqText_mk hu] at h1
  injection h1 with h1
  injection h1 with h1 h2
  exact ⟨h1.symm, h2.symm⟩
theorem mtcOk_parts {x : Mtc} (h : mtcOk x = true) : wordF x.1 = true ∧ x.2.1.size ≤ 24 ∧ signF x.2.2 ≠ ⟨#[]⟩ := by
  simp only [mtcOk, Bool.and_eq_true, decide_eq_true_eq, Bool.not_eq_true', decide_eq_false_iff_not] at h
  exact ⟨h.1, h.2.1, h.2.2⟩
theorem mtc_peel {x y : Mtc} {r s : List UInt8} (hx : mtcOk x = true) (hy : mtcOk y = true) (h : mtcL x ++ r = mtcL y ++ s) : x = y ∧ r = s := by
  obtain ⟨x1, x2, x3⟩ := x
  obtain ⟨y1, y2, y3⟩ := y
  obtain ⟨wx, sx, kx⟩ := mtcOk_parts hx
  obtain ⟨wy, sy, ky⟩ := mtcOk_parts hy
  simp only at wx sx kx wy sy ky
  have head : ∀ k (q : List UInt8), (k = 1 ∨ k = 2 ∨ k = 3 ∨ k = 4) → (∀ z, ((signF k).data.toList ++ q).head? = some z → withinN z.toNat = false) ∧ (signF k).data.toList ++ q ≠ [] := by
    intro k q hk
    rcases hk with rfl | rfl | rfl | rfl <;> refine ⟨fun z hz => ?_, by simp [signF]⟩ <;> (simp [signF] at hz; subst hz; decide)
  unfold mtcL at h
  simp only [List.append_assoc] at h
  have hkx := sign_kind kx
  have hky := sign_kind ky
  obtain ⟨h1, h2⟩ := span_inj (p := fun c => withinN c.toNat) (word_all wx) (word_all wy) (head x3 _ hkx).1 (head y3 _ hky).1 (head x3 _ hkx).2 (head y3 _ hky).2 h
  have e1 : x1 = y1 := ba_ext (by rw [ByteArray.toList_eq, ByteArray.toList_eq, h1])
  have lx : x2.data.toList.length ≤ 24 := by simpa using sx
  have ly : y2.data.toList.length ≤ 24 := by simpa using sy
  have key : x3 = y3 ∧ quoteL x2.data.toList ++ r = quoteL y2.data.toList ++ s := by
    rcases hkx with rfl | rfl | rfl | rfl <;> rcases hky with rfl | rfl | rfl | rfl <;> first
      | (refine ⟨rfl, ?_⟩; simpa [signF] using h2)
      | (exfalso; simp [signF, quoteL] at h2)
  obtain ⟨e3, h4⟩ := key
  obtain ⟨h5, h6⟩ := quote_inj lx ly h4
  have e2 : x2 = y2 := ba_ext (by rw [ByteArray.toList_eq, ByteArray.toList_eq, h5])
  exact ⟨by rw [e1, e2, e3], h6⟩
theorem join_inj : ∀ {l m : List Mtc}, (∀ x ∈ l, mtcOk x = true) → (∀ x ∈ m, mtcOk x = true) → joinM l ++ [125] = joinM m ++ [125] → l = m
  | [], [], _, _, _ => rfl
  | [], y :: m, _, _, h => by
    have := congrArg List.length h
    simp [joinM, mtcL, quoteL] at this
    omega
  | x :: l, [], _, _, h => by
    have := congrArg List.length h
    simp [joinM, mtcL, quoteL] at this
    omega
  | x :: l, y :: m, hl, hm, h => by
    unfold joinM at h
    rw [List.append_assoc, List.append_assoc] at h
    obtain ⟨rfl, h2⟩ := mtc_peel (hl x List.mem_cons_self) (hm y List.mem_cons_self) h
    have hl' : ∀ z ∈ l, mtcOk z = true := fun z hz => hl z (List.mem_cons_of_mem _ hz)
    have hm' : ∀ z ∈ m, mtcOk z = true := fun z hz => hm z (List.mem_cons_of_mem _ hz)
    cases l with
    | nil =>
      cases m with
      | nil => rfl
      | cons y m => simp at h2
    | cons x' l =>
      cases m with
      | nil => simp at h2
      | cons y m =>
        simp only [List.isEmpty_cons, Bool.false_eq_true, if_false, List.cons_append, List.cons.injEq, true_and] at h2
        rw [join_inj hl' hm' h2]
theorem printM_inj {x y : List Mtc} (hx : rightM x = true) (hy : rightM y = true) (h : printM x = printM y) : x = y := by
  unfold printM at h
  rw [hx, hy] at h
  simp only [if_true, List.cons.injEq, true_and] at h
  exact join_inj (rightM_ok hx) (rightM_ok hy) h
end Go.Proofs.Ytpeakblpmcfdnaa
