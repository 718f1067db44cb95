/- A token spelled out is a text's first token; texts cut into tokens. -/
import Derived.Test.YtnkbpcenkbihpaaDoorTokMath
namespace Go.Proofs.YtnkbpcenkbihpaaDoor
open Go.ChangeShapes Go.WideShapes Go.ChangeAt Go.RowKit
set_option linter.unusedVariables false
set_option linter.unusedSimpArgs false
set_option maxRecDepth 100000
theorem spanW_app {r rest : List UInt8} (h : ∀ x ∈ r, withinN x.toNat = true) (hr : ∀ c q, rest = c :: q → withinN c.toNat = false) : spanW (r ++ rest) = r.length := by
  induction r with
  | nil =>
    cases rest with
    | nil => rfl
    | cons c q => exact spanW_no (hr c q rfl)
  | cons x r ih =>
    rw [List.cons_append, spanW_yes (h x List.mem_cons_self), ih (fun y hy => h y (List.mem_cons_of_mem _ hy))]; rfl
theorem unq_escL : ∀ (l acc rest : List UInt8), acc.length + l.length ≤ 24 → unq (escL l ++ 34 :: rest) acc = some (acc ++ l, rest)
  | [], acc, rest, h => by
    show unq (34 :: rest) acc = _
    unfold unq
    rw [if_neg (by simp at h; omega), if_pos rfl, List.append_nil]
  | c :: l, acc, rest, h => by
    rw [List.length_cons] at h
    have ih := unq_escL l (acc ++ [c]) rest (by rw [List.length_append, List.length_singleton]; omega)
    by_cases he : escB c = true
    · have e : escL (c :: l) = 92 :: c :: escL l := by unfold escL; rw [List.flatMap_cons, if_pos he]; rfl
      rw [e]
      show unq (92 :: c :: (escL l ++ 34 :: rest)) acc = _
      unfold unq
      rw [if_neg (by omega), if_neg (by decide), if_pos rfl]
      simp only
      rw [if_pos he, ih, List.append_assoc]; rfl
    · have e : escL (c :: l) = c :: escL l := by unfold escL; rw [List.flatMap_cons, if_neg he]; rfl
      have h34 : c ≠ 34 := fun e => he (by rw [e]; decide)
      have h92 : c ≠ 92 := fun e => he (by rw [e]; decide)
      rw [e]
      show unq (c :: (escL l ++ 34 :: rest)) acc = _
      unfold unq
      rw [if_neg (by omega), if_neg h34, if_neg h92, ih, List.append_assoc]; rfl
/-- What a token's text begins with is no blank. -/
def NoBlank (l : List UInt8) : Prop := ∃ c r, l = c :: r ∧ (c.toNat == 32 || c.toNat == 10) = false
theorem ba_mk (l : List UInt8) : (⟨l.toArray⟩ : ByteArray).data.toList = l := rfl
theorem itoa_head (n : Int) : ∃ c r, Lib.itoa n = c :: r ∧ (digitN c.toNat = true ∨ c = 45 ∧ ∃ d q, r = d :: q ∧ digitN d.toNat = true) := by
  unfold Lib.itoa
  split
  · obtain ⟨d, q, e, hd⟩ := decDigits_head n.natAbs
    exact ⟨45, _, rfl, .inr ⟨rfl, d, q, e, hd⟩⟩
  · obtain ⟨d, q, e, hd⟩ := decDigits_head n.toNat
    exact ⟨d, q, e, .inl hd⟩
theorem first_num {n : Int} (hn : I64 n) {rest : List UInt8} (h : ∀ c q, rest = c :: q → digitN c.toNat = false) : firstT ⟨(Lib.itoa n ++ rest).toArray⟩ = some (⟨1, n, 0, ⟨#[]⟩⟩, (Lib.itoa n).length) := by
  have h1 : isNum (Lib.itoa n ++ rest) = true := by
    obtain ⟨c, r, e, hc | ⟨rfl, d, q, rfl, hd⟩⟩ := itoa_head n
    · rw [e]; unfold isNum
      show (digitN c.toNat || _) = true
      rw [hc]; rfl
    · rw [e]; unfold isNum
      show (digitN (45 : UInt8).toNat || ((45 : UInt8).toNat == 45 && (decide (1 < (45 :: d :: q ++ rest).length) && digitN d.toNat))) = true
      rw [hd, decide_eq_true (by simp)]; rfl
  unfold firstT
  rw [ba_mk, if_pos h1]
  unfold numT
  rw [numF_itoa hn h]; rfl
theorem small_facts {c : UInt8} (h : smallN c.toNat = true) : digitN c.toNat = false ∧ (c.toNat == 45) = false ∧ (c.toNat == 32 || c.toNat == 10) = false := by
  unfold smallN at h
  rw [Bool.and_eq_true, decide_eq_true_iff, decide_eq_true_iff] at h
  refine ⟨digitN_high (by omega), by rw [beq_eq_false_iff_ne]; omega, ?_⟩
  rw [beq_eq_false_iff_ne.2 (by omega), beq_eq_false_iff_ne.2 (by omega)]; rfl
theorem digit_facts {c : UInt8} (h : digitN c.toNat = true) : (c.toNat == 32 || c.toNat == 10) = false := by
  unfold digitN at h
  rw [Bool.and_eq_true, decide_eq_true_iff, decide_eq_true_iff] at h
  rw [beq_eq_false_iff_ne.2 (by omega), beq_eq_false_iff_ne.2 (by omega)]; rfl
theorem first_word {x : ByteArray} {c : UInt8} {r rest : List UInt8} (e : x.data.toList = c :: r) (hc : smallN c.toNat = true) (hr : ∀ y ∈ r, withinN y.toNat = true) (hl : r.length ≤ 23) (h : ∀ d q, rest = d :: q → withinN d.toNat = false) :
    firstT ⟨(x.data.toList ++ rest).toArray⟩ = some (⟨2, 0, 0, x⟩, x.data.toList.length) := by
  obtain ⟨f1, f2, _⟩ := small_facts hc
  unfold firstT
  rw [ba_mk, e]
  rw [if_neg (by unfold isNum; show ¬ (digitN c.toNat || (c.toNat == 45 && _)) = true; rw [f1, f2]; simp), if_pos (by exact hc)]
  unfold wordT
  rw [ba_mk]
  have hs : spanW ((c :: r ++ rest).drop 1) = r.length := spanW_app hr h
  rw [hs, if_neg (by omega)]
  congr 2
  · congr 1
    have hx : x = ⟨(c :: r).toArray⟩ := by
      have : x = ⟨x.data.toList.toArray⟩ := by cases x; simp
      rw [this, e]
    rw [hx]
    apply ByteArray.ext
    rw [ByteArray.data_extract]
    apply Array.toList_inj.1
    simp [List.extract_eq_take_drop]
theorem first_text {x : ByteArray} (hx : x.size ≤ 24) (rest : List UInt8) : firstT ⟨(quoteL x.data.toList ++ rest).toArray⟩ = some (⟨3, 0, 0, x⟩, (quoteL x.data.toList).length) := by
  have e : quoteL x.data.toList ++ rest = 34 :: (escL x.data.toList ++ 34 :: rest) := by unfold quoteL; simp
  unfold firstT
  rw [ba_mk, e]
  rw [if_neg (by unfold isNum; show ¬ (digitN (34 : UInt8).toNat || ((34 : UInt8).toNat == 45 && _)) = true; rw [show digitN (34 : UInt8).toNat = false by decide, show ((34 : UInt8).toNat == 45) = false by decide]; simp), if_neg (by show ¬ smallN (34 : UInt8).toNat = true; decide), if_pos (by show ((34 : UInt8).toNat == 34) = true; decide)]
  unfold quotedT
  rw [show (34 :: (escL x.data.toList ++ 34 :: rest)).drop 1 = escL x.data.toList ++ 34 :: rest from rfl, unq_escL _ [] rest (by simp; omega)]
  have hx2 : (⟨x.data.toList.toArray⟩ : ByteArray) = x := by cases x; simp
  simp only [Option.map_some, List.nil_append, hx2]
  congr 2
  unfold quoteL
  simp; omega
theorem signIn_go (l : List UInt8) (x : ByteArray) (r : List ByteArray) (h : Lib.hasPrefix l x.data.toList = false) : signIn l (x :: r) = signIn l r := by
  conv => lhs; unfold signIn
  rw [if_neg (by rw [h]; simp)]
/-- The byte ahead of which a sign ends. -/
theorem first_sign {x : ByteArray} (hx : x ∈ signsL) {rest : List UInt8} (h : ∀ c q, rest = c :: q → signOk x.data.toList c = true) : firstT ⟨(x.data.toList ++ rest).toArray⟩ = some (⟨4, 0, 0, x⟩, x.data.toList.length) := by
  have key : isNum (x.data.toList ++ rest) = false ∧ smallN ((x.data.toList ++ rest).headD 0).toNat = false ∧ (((x.data.toList ++ rest).headD 0).toNat == 34) = false ∧ signIn (x.data.toList ++ rest) signsL = some (⟨4, 0, 0, x⟩, x.data.toList.length) := by
    simp only [signsL, List.mem_cons, List.not_mem_nil, or_false] at hx
    rcases hx with rfl | rfl | rfl | rfl | rfl | rfl | rfl | rfl | rfl | rfl | rfl | rfl | rfl | rfl | rfl | rfl | rfl | rfl | rfl | rfl | rfl | rfl
    all_goals
      cases rest with
      | nil => exact ⟨rfl, rfl, rfl, rfl⟩
      | cons c q =>
        have hc := h c q rfl
        first
          | exact ⟨rfl, rfl, rfl, rfl⟩
          | (have h61 : c ≠ 61 := by simpa [signOk] using hc
             refine ⟨rfl, rfl, rfl, ?_⟩
             have hb : (61 == c) = false := by rw [beq_eq_false_iff_ne]; exact fun e => h61 e.symm
             simp [signIn, signsL, Lib.hasPrefix, List.isPrefixOf, hb]
             rfl)
          | (have hd : digitN c.toNat = false := by simpa [signOk] using hc
             refine ⟨?_, rfl, rfl, rfl⟩
             show (digitN (45 : UInt8).toNat || ((45 : UInt8).toNat == 45 && (decide (1 < (45 :: c :: q).length) && digitN c.toNat))) = false
             rw [hd]; simp; decide)
  obtain ⟨k1, k2, k3, k4⟩ := key
  unfold firstT
  rw [ba_mk, if_neg (by rw [k1]; simp), if_neg (by rw [k2]; simp), if_neg (by rw [k3]; simp), k4]
theorem sign_head {x : ByteArray} (hx : x ∈ signsL) : ∃ c r, x.data.toList = c :: r ∧ (c.toNat == 32 || c.toNat == 10) = false := by
  simp only [signsL, List.mem_cons, List.not_mem_nil, or_false] at hx
  rcases hx with rfl | rfl | rfl | rfl | rfl | rfl | rfl | rfl | rfl | rfl | rfl | rfl | rfl | rfl | rfl | rfl | rfl | rfl | rfl | rfl | rfl | rfl <;> exact ⟨_, _, rfl, by decide⟩
theorem first_spell {t : Tok} (h : okTok t) {rest : List UInt8} (hf : FollowL t rest) : firstT ⟨(tokL t ++ rest).toArray⟩ = some (⟨t.kd, t.n, 0, t.tx⟩, (tokL t).length) ∧ NoBlank (tokL t) := by
  obtain ⟨kd, n, at_, tx⟩ := t
  rcases h with ⟨h1, h2, h3⟩ | ⟨h1, h2, c, r, e, hc, hr, hl⟩ | ⟨h1, h2, h3⟩ | ⟨h1, h2, h3⟩
  · simp only at h1 h2 h3
    subst h1; subst h3
    refine ⟨first_num h2 (fun c q e => by have := hf c q e; simpa [follow] using this), ?_⟩
    obtain ⟨c, r, e, hc⟩ := itoa_head n
    refine ⟨c, r, e, ?_⟩
    rcases hc with hc | ⟨rfl, _⟩
    · exact digit_facts hc
    · decide
  · simp only at h1 h2 e
    subst h1; subst h2
    exact ⟨first_word e hc hr hl (fun c q e => by have := hf c q e; simpa [follow] using this), c, r, e, (small_facts hc).2.2⟩
  · simp only at h1 h2 h3
    subst h1; subst h2
    exact ⟨first_text h3 rest, 34, _, rfl, by decide⟩
  · simp only at h1 h2 h3
    subst h1; subst h2
    exact ⟨first_sign h3 (fun c q e => by have := hf c q e; simpa [follow] using this), sign_head h3⟩
end Go.Proofs.YtnkbpcenkbihpaaDoor
