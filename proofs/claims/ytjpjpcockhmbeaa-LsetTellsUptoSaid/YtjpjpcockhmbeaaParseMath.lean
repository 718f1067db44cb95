/- What a set's text is read as: plain functions on bytes, and that they undo what is printed. No walk. -/
import Derived.Test.YtjpjpcockhmbeaaPrint
namespace Go.Proofs.Ytjpjpcockhmbeaa
set_option linter.unusedVariables false
/-- Cut around the first c. -/
def cutL (c : UInt8) : List UInt8 → Option (List UInt8 × List UInt8)
  | [] => none
  | x :: r => if x = c then some ([], r) else (cutL c r).map fun p => (x :: p.1, p.2)
theorem cutL_some {c : UInt8} : ∀ {s a b : List UInt8}, cutL c s = some (a, b) → s = a ++ c :: b
  | [], a, b, h => by simp [cutL] at h
  | x :: r, a, b, h => by
    unfold cutL at h
    split at h
    · rename_i e; subst e; simp at h; obtain ⟨rfl, rfl⟩ := h; rfl
    · cases hr : cutL c r with
      | none => rw [hr] at h; simp at h
      | some p =>
        rw [hr] at h; simp at h; obtain ⟨rfl, rfl⟩ := h
        have := cutL_some hr
        rw [this]; rfl
theorem cutL_mk {c : UInt8} : ∀ {a b : List UInt8}, (∀ x ∈ a, x ≠ c) → cutL c (a ++ c :: b) = some (a, b)
  | [], b, h => by simp [cutL]
  | x :: a, b, h => by
    rw [List.cons_append, cutL, if_neg (h x List.mem_cons_self), cutL_mk fun y hy => h y (List.mem_cons_of_mem _ hy)]; rfl
/-- What is read behind the first quote: the text, and what is left behind the second one. -/
def unq : List UInt8 → List UInt8 → Option (List UInt8 × List UInt8)
  | [], _ => none
  | c :: r, acc => if 24 < acc.length then none else if c = 34 then some (acc, r) else if c = 92 then
      (match r with
        | [] => none
        | d :: r' => if escB d then unq r' (acc ++ [d]) else none)
      else unq r (acc ++ [c])
termination_by l => l.length
decreasing_by all_goals (simp_wf; try omega)
theorem unq_some : ∀ (n : Nat) {r acc v r' : List UInt8}, r.length ≤ n → unq r acc = some (v, r') → ∃ u, v = acc ++ u ∧ r = escL u ++ 34 :: r'
  | 0, r, acc, v, r', hn, h => by
    have : r = [] := List.eq_nil_of_length_eq_zero (by omega)
    subst this; unfold unq at h; simp at h
  | n + 1, [], acc, v, r', hn, h => by unfold unq at h; simp at h
  | n + 1, c :: r, acc, v, r', hn, h => by
    rw [List.length_cons] at hn
    unfold unq at h
    split at h
    · cases h
    split at h
    · rename_i e; subst e; simp at h; obtain ⟨rfl, rfl⟩ := h; exact ⟨[], by simp, by simp [escL]⟩
    split at h
    · rename_i _ _ e; subst e
      cases r with
      | nil => simp at h
      | cons d r2 =>
        simp only at h
        split at h
        · rename_i hd
          obtain ⟨u, hu, hr⟩ := unq_some n (by rw [List.length_cons] at hn; omega) h
          refine ⟨d :: u, by rw [hu]; simp, ?_⟩
          have e2 : escL (d :: u) = escL [d] ++ escL u := by rw [← escL_append]; rfl
          rw [e2, escL_one, hd, hr]; simp
        · cases h
    · rename_i h34 h92
      obtain ⟨u, hu, hr⟩ := unq_some n (by omega) h
      refine ⟨c :: u, by rw [hu]; simp, ?_⟩
      have e2 : escL (c :: u) = escL [c] ++ escL u := by rw [← escL_append]; rfl
      have hc : escB c = false := by
        simp only [escB, escN, Bool.or_eq_false_iff, decide_eq_false_iff_not]
        exact ⟨fun e => h34 (UInt8.toNat_inj.1 e), fun e => h92 (UInt8.toNat_inj.1 e)⟩
      rw [e2, escL_one, hc, hr]; simp
theorem unq_mk : ∀ (u acc r' : List UInt8), acc.length + u.length ≤ 24 → unq (escL u ++ 34 :: r') acc = some (acc ++ u, r')
  | [], acc, r', h => by
    unfold unq
    simp only [escL, List.flatMap_nil, List.nil_append]
    rw [if_neg (by simp at h; omega)]
    simp
  | c :: u, acc, r', h => by
    rw [List.length_cons] at h
    have e2 : escL (c :: u) = escL [c] ++ escL u := by rw [← escL_append]; rfl
    have ih := unq_mk u (acc ++ [c]) r' (by rw [List.length_append, List.length_singleton]; omega)
    rw [e2, escL_one]
    cases hc : escB c with
    | true =>
      simp only [if_true, List.cons_append, List.nil_append]
      unfold unq
      rw [if_neg (by omega), if_neg (by decide), if_pos rfl]
      simp only
      rw [if_pos hc, ih]; simp
    | false =>
      simp only [Bool.false_eq_true, if_false, List.cons_append, List.nil_append]
      have hc' := hc
      simp only [escB, escN, Bool.or_eq_false_iff, decide_eq_false_iff_not] at hc'
      unfold unq
      rw [if_neg (by omega), if_neg (fun e => hc'.1 (by rw [e]; rfl)), if_neg (fun e => hc'.2 (by rw [e]; rfl)), ih]; simp
/-- A text in quotes, read. -/
def unqText : List UInt8 → Option (List UInt8 × List UInt8)
  | [] => none
  | c :: r => if c = 34 then unq r [] else none
theorem unqText_some {s v r : List UInt8} (h : unqText s = some (v, r)) : s = quoteL v ++ r := by
  cases s with
  | nil => cases h
  | cons c s =>
    simp only [unqText] at h
    split at h
    · rename_i e; subst e
      obtain ⟨u, hu, hr⟩ := unq_some s.length (Nat.le_refl _) h
      rw [List.nil_append] at hu; subst hu
      rw [hr]; simp [quoteL]
    · cases h
theorem unqText_mk {v r : List UInt8} (h : v.length ≤ 24) : unqText (quoteL v ++ r) = some (v, r) := by
  have := unq_mk v [] r (by simpa using h)
  simp only [quoteL, List.cons_append, List.append_assoc, List.nil_append, unqText, if_true] at this ⊢
  exact this
/-- One label, read. -/
def labelF (s : List UInt8) : Option ((ByteArray × ByteArray) × List UInt8) :=
  match cutL 61 s with
  | none => none
  | some (n, r) => if wordF ⟨n.toArray⟩ then
      (match unqText r with
        | none => none
        | some (v, r') => some ((⟨n.toArray⟩, ⟨v.toArray⟩), r'))
      else none
theorem labelF_some {s r : List UInt8} {x : ByteArray × ByteArray} (h : labelF s = some (x, r)) : s = lblL x ++ r := by
  unfold labelF at h
  split at h
  · cases h
  · rename_i n q hc
    split at h
    · split at h
      · cases h
      · rename_i v q' hu
        simp only [Option.some.injEq, Prod.mk.injEq] at h
        obtain ⟨rfl, rfl⟩ := h
        rw [cutL_some hc, unqText_some hu]
        simp [lblL]
    · cases h
theorem allIn_get {s : ByteArray} : ∀ {n : Nat}, allIn s n = true → ∀ k, k < n → withinN (byteAt s k) = true
  | 0, _, k, hk => by omega
  | n + 1, h, k, hk => by
    simp only [allIn, Bool.and_eq_true] at h
    rcases Nat.lt_or_ge k n with h' | h'
    · exact allIn_get (n := n) (by first | exact h.1 | exact h.2) k h'
    · obtain rfl : k = n := by omega
      first | exact h.2 | exact h.1
theorem word_no_eq {s : ByteArray} (h : wordF s = true) : ∀ x ∈ s.data.toList, x ≠ 61 := by
  intro x hx e
  subst e
  obtain ⟨k, hk, hx⟩ := List.getElem_of_mem hx
  have hall : allIn s s.size = true := by simp [wordF] at h; exact h.2
  have hks : k < s.size := by simpa using hk
  have := allIn_get hall k hks
  rw [byteAt_get hks] at this
  have e : (s[k]'hks) = 61 := by rw [← hx]; rfl
  rw [e] at this
  exact absurd this (by decide)
theorem labelF_mk {x : ByteArray × ByteArray} {r : List UInt8} (h : lblOk x = true) : labelF (lblL x ++ r) = some (x, r) := by
  have hs := lblOk_size h
  have hw : wordF x.1 = true := by simp [lblOk] at h; exact h.1.1
  unfold labelF
  have e : lblL x ++ r = x.1.data.toList ++ 61 :: (quoteL x.2.data.toList ++ r) := by simp [lblL]
  rw [e, cutL_mk (word_no_eq hw)]
  simp only [Array.toArray_toList]
  rw [if_pos hw, unqText_mk (by simp; omega)]
/-- The labels behind the brace. -/
def parseLoop : Nat → List UInt8 → List (ByteArray × ByteArray) → Option (List (ByteArray × ByteArray))
  | 0, _, _ => none
  | f + 1, rest, l => if rest = [125] then some l else
    match (if l.length = 0 then some rest else match rest with | [] => none | c :: r => if c = 44 then some r else none) with
    | none => none
    | some r => match labelF r with
      | none => none
      | some (x, r') => if l.length + 1 ≤ 6 then parseLoop f r' (l ++ [x]) else none
/-- A set, read. -/
def parseF (s : List UInt8) : Option (List (ByteArray × ByteArray)) :=
  match s with
  | [] => none
  | c :: r => if c = 123 then (match parseLoop 8 r [] with | none => none | some l => if rightS l then some l else none) else none
theorem joinL_cons (x : ByteArray × ByteArray) (l : List (ByteArray × ByteArray)) : joinL (x :: l) = lblL x ++ l.flatMap (fun y => 44 :: lblL y) := by
  induction l generalizing x with
  | nil => simp [joinL]
  | cons y l ih => rw [joinL, ih y]; simp
/-- What stands behind labels that were read. -/
def moreL (l m : List (ByteArray × ByteArray)) : List UInt8 := if l.length = 0 then joinL m else m.flatMap fun y => 44 :: lblL y
theorem moreL_nil (l : List (ByteArray × ByteArray)) : moreL l [] = [] := by unfold moreL; split <;> simp [joinL]
theorem moreL_snoc (l m : List (ByteArray × ByteArray)) (x y : ByteArray × ByteArray) : moreL (l ++ [x]) m = m.flatMap fun y => 44 :: lblL y := by unfold moreL; rw [if_neg (by simp)]
theorem parseLoop_some : ∀ (f : Nat) {rest : List UInt8} {l l' : List (ByteArray × ByteArray)}, parseLoop f rest l = some l' → ∃ m, l' = l ++ m ∧ rest = moreL l m ++ [125]
  | 0, rest, l, l', h => by cases h
  | f + 1, rest, l, l', h => by
    unfold parseLoop at h
    split at h
    · rename_i e; subst e; cases h; exact ⟨[], by simp, by rw [moreL_nil]; rfl⟩
    split at h
    · cases h
    rename_i r hr
    split at h
    · cases h
    rename_i x r' hx
    split at h
    · obtain ⟨m, hm, hrest⟩ := parseLoop_some f h
      refine ⟨x :: m, by rw [hm]; simp, ?_⟩
      have hlab := labelF_some hx
      rw [moreL_snoc l m x x] at hrest
      split at hr
      · rename_i h0
        cases hr
        rw [hlab, hrest, moreL, if_pos h0, joinL_cons]; simp
      · rename_i h0
        split at hr
        · cases hr
        · rename_i c r2
          split at hr
          · rename_i e; cases hr; subst e
            rw [hlab, hrest, moreL, if_neg h0]; simp
          · cases hr
    · cases h
theorem parseF_some {s : List UInt8} {l : List (ByteArray × ByteArray)} (h : parseF s = some l) : rightS l = true ∧ printL l = s := by
  unfold parseF at h
  split at h
  · cases h
  · split at h
    · rename_i e; subst e
      split at h
      · cases h
      · rename_i l' hl
        split at h
        · rename_i hr; cases h
          obtain ⟨m, hm, hrest⟩ := parseLoop_some 8 hl
          rw [List.nil_append] at hm; subst hm
          refine ⟨hr, ?_⟩
          rw [printL, if_pos hr, hrest]; rfl
        · cases h
    · cases h
theorem lblL_ne (x : ByteArray × ByteArray) (r : List UInt8) (h : lblOk x = true) : lblL x ++ r ≠ [125] := by
  intro e
  have := congrArg List.length e
  have hs := lblOk_size h
  have h1 : x.1.data.toList.length = x.1.size := by simp
  simp [lblL, quoteL] at this
  omega
theorem parseLoop_mk : ∀ (m l : List (ByteArray × ByteArray)) (f : Nat), (∀ x ∈ m, lblOk x = true) → l.length + m.length ≤ 6 → m.length < f → parseLoop f (moreL l m ++ [125]) l = some (l ++ m)
  | [], l, f, h, h6, hf => by
    obtain ⟨f, rfl⟩ : ∃ g, f = g + 1 := ⟨f - 1, by simp at hf; omega⟩
    rw [moreL_nil, List.nil_append, parseLoop, if_pos rfl, List.append_nil]
  | x :: m, l, f, h, h6, hf => by
    rw [List.length_cons] at h6 hf
    obtain ⟨f, rfl⟩ : ∃ g, f = g + 1 := ⟨f - 1, by omega⟩
    have hx := h x List.mem_cons_self
    have ih := parseLoop_mk m (l ++ [x]) f (fun y hy => h y (List.mem_cons_of_mem _ hy)) (by rw [List.length_append, List.length_singleton]; omega) (by omega)
    rw [moreL_snoc l m x x] at ih
    unfold parseLoop
    by_cases h0 : l.length = 0
    · have e : moreL l (x :: m) ++ [125] = lblL x ++ ((m.flatMap fun y => 44 :: lblL y) ++ [125]) := by rw [moreL, if_pos h0, joinL_cons]; simp
      rw [e, if_neg (lblL_ne x _ hx), if_pos h0]
      show (match labelF (lblL x ++ ((m.flatMap fun y => 44 :: lblL y) ++ [125])) with | none => none | some (x, r') => if l.length + 1 ≤ 6 then parseLoop f r' (l ++ [x]) else none) = _
      rw [labelF_mk hx]
      simp only
      rw [if_pos (by omega), ih]; simp
    · have e : moreL l (x :: m) ++ [125] = 44 :: (lblL x ++ ((m.flatMap fun y => 44 :: lblL y) ++ [125])) := by rw [moreL, if_neg h0]; simp
      rw [e, if_neg (by intro e2; injection e2 with e3; exact absurd e3 (by decide)), if_neg h0]
      simp only [if_true]
      rw [labelF_mk hx]
      simp only
      rw [if_pos (by omega), ih]; simp
theorem parseF_print {l : List (ByteArray × ByteArray)} (h : rightS l = true) : parseF (printL l) = some l := by
  have h6 := rightS_len h
  have := parseLoop_mk l [] 8 (fun x hx => by
    obtain ⟨k, hk, rfl⟩ := List.getElem_of_mem hx
    exact (rightS_at h hk).1) (by simpa using h6) (by omega)
  rw [printL, if_pos h, parseF]
  simp only [if_true]
  have e : joinL l ++ [125] = moreL [] l ++ [125] := rfl
  rw [e, this]
  simp [h]
end Go.Proofs.Ytjpjpcockhmbeaa
