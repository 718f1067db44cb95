/- Expressions' tokens and texts; how deep they are. -/
import Derived.Test.YtcaapbbbekggiaaGreatDoorBase4
import Derived.Test.YtcaapbbbekggiaaGreatDoorBase3
namespace Go.Proofs.YtcaapbbbekggiaaGreatDoor
open Go.ChangeShapes Go.WideShapes Go.ChangeAt Go.RowKit
set_option linter.unusedVariables false
set_option linter.unusedSimpArgs false
set_option maxRecDepth 100000
mutual
def PE.deep : PE → Nat
  | .mk _ _ _ _ ks => 1 + deepsP ks
def deepsP : List PE → Nat
  | [] => 0
  | x :: l => max x.deep (deepsP l)
end
def sgT (x : ByteArray) : Tok := ⟨4, 0, 0, x⟩
def wdT (x : ByteArray) : Tok := ⟨2, 0, 0, x⟩
def txT (x : ByteArray) : Tok := ⟨3, 0, 0, x⟩
def nmT (n : Int) : Tok := ⟨1, n, 0, ⟨#[]⟩⟩
/-- A matcher's tokens; those of more. -/
def mtoks (m : Mtc) : List Tok := [wdT m.1, sgT (signF m.2.2), txT m.2.1]
def msMore (l : List Mtc) : List Tok := l.flatMap fun m => sgT ⟨#[44]⟩ :: mtoks m
def msToks : List Mtc → List Tok
  | [] => []
  | m :: l => mtoks m ++ msMore l
/-- Names' tokens. -/
def nsMore (l : List ByteArray) : List Tok := l.flatMap fun m => [sgT ⟨#[44]⟩, wdT m]
def nsToks : List ByteArray → List Tok
  | [] => []
  | m :: l => wdT m :: nsMore l
/-- The token of an expression of two. -/
def opT (k : Int) : Tok := if 14 ≤ k then wdT (signX k) else sgT (signX k)
mutual
def PE.toks : PE → List Tok
  | .mk k n ms ns ks => if k = 1 then [nmT n]
    else if k = 2 then sgT ⟨#[123]⟩ :: (msToks ms ++ [sgT ⟨#[125]⟩, sgT ⟨#[91]⟩, nmT n, sgT ⟨#[93]⟩])
    else if 17 ≤ k then wdT (wordX k) :: wdT ⟨#[98, 121]⟩ :: sgT ⟨#[40]⟩ :: (nsToks ns ++ (sgT ⟨#[41]⟩ :: sgT ⟨#[40]⟩ :: ((toksP ks).headD [] ++ [sgT ⟨#[41]⟩])))
    else sgT ⟨#[40]⟩ :: ((toksP ks).headD [] ++ (opT k :: (((toksP ks).drop 1).headD [] ++ [sgT ⟨#[41]⟩])))
def toksP : List PE → List (List Tok)
  | [] => []
  | x :: l => x.toks :: toksP l
end
mutual
def PE.text : PE → List UInt8
  | .mk k n ms ns ks => if k = 1 then Lib.itoa n
    else if k = 2 then 123 :: (joinM ms ++ (125 :: 91 :: (Lib.itoa n ++ [93])))
    else if 17 ≤ k then (wordX k).data.toList ++ ([32, 98, 121, 32, 40] ++ (joinN ns ++ ([41, 32, 40] ++ ((textsP ks).headD [] ++ [41]))))
    else 40 :: ((textsP ks).headD [] ++ (32 :: ((signX k).data.toList ++ (32 :: (((textsP ks).drop 1).headD [] ++ [41])))))
def textsP : List PE → List (List UInt8)
  | [] => []
  | x :: l => x.text :: textsP l
end
mutual
/-- Its numbers fit an int. -/
def PE.fits : PE → Prop
  | .mk _ n _ _ ks => I64 n ∧ fitsP ks
def fitsP : List PE → Prop
  | [] => True
  | x :: l => x.fits ∧ fitsP l
end
/-- The kinds that a typed expression has, and what they say of it. -/
theorem word_kinds {k : Int} (h : wordX k ≠ ⟨#[]⟩) : 17 ≤ k ∧ k ≤ 20 := by
  unfold wordX at h
  by_cases h1 : k = 17 <;> by_cases h2 : k = 18 <;> by_cases h3 : k = 19 <;> by_cases h4 : k = 20 <;> first | omega | (exfalso; apply h; simp only [h1, h2, h3, h4, if_false])
theorem word_none {k : Int} (h : ¬ (17 ≤ k ∧ k ≤ 20)) : wordX k = ⟨#[]⟩ := by
  by_cases e : wordX k = ⟨#[]⟩
  · exact e
  · exact absurd (word_kinds e) h
theorem sign_kinds {k : Int} (h : signX k ≠ ⟨#[]⟩) : 3 ≤ k ∧ k ≤ 16 := by
  by_cases hk : 3 ≤ k ∧ k ≤ 16
  · exact hk
  · exfalso; apply h
    unfold signX
    simp only [show ¬ k = 3 by omega, show ¬ k = 4 by omega, show ¬ k = 5 by omega, show ¬ k = 6 by omega, show ¬ k = 7 by omega, show ¬ k = 8 by omega, show ¬ k = 9 by omega, show ¬ k = 10 by omega, show ¬ k = 11 by omega, show ¬ k = 12 by omega, show ¬ k = 13 by omega, show ¬ k = 14 by omega, show ¬ k = 15 by omega, show ¬ k = 16 by omega, if_false]
theorem word_is {k : Int} (h1 : 17 ≤ k) (h2 : k ≤ 20) : wordX k ≠ ⟨#[]⟩ := by
  have : k = 17 ∨ k = 18 ∨ k = 19 ∨ k = 20 := by omega
  rcases this with rfl | rfl | rfl | rfl <;> decide
theorem sign_is {k : Int} (h1 : 3 ≤ k) (h2 : k ≤ 16) : signX k ≠ ⟨#[]⟩ := by
  have : k = 3 ∨ k = 4 ∨ k = 5 ∨ k = 6 ∨ k = 7 ∨ k = 8 ∨ k = 9 ∨ k = 10 ∨ k = 11 ∨ k = 12 ∨ k = 13 ∨ k = 14 ∨ k = 15 ∨ k = 16 := by omega
  rcases this with rfl | rfl | rfl | rfl | rfl | rfl | rfl | rfl | rfl | rfl | rfl | rfl | rfl | rfl <;> decide
/-- An expression that has a type is one of these. -/
inductive Typed : PE → Prop where
  | num (n : Int) : Typed (.mk 1 n [] [] [])
  | pick (n : Int) (ms : List Mtc) (h : rightM ms = true) (h1 : 1 ≤ n) (h2 : n ≤ 1048576) : Typed (.mk 2 n ms [] [])
  | one (k : Int) (ns : List ByteArray) (a : PE) (h1 : 17 ≤ k) (h2 : k ≤ 20) (hn : namesF ns = true) (ha : a.ty = 2) : Typed (.mk k 0 [] ns [a])
  | two (k : Int) (a b : PE) (h1 : 3 ≤ k) (h2 : k ≤ 16) (ha : a.ty ≠ 0) (hb : b.ty ≠ 0) : Typed (.mk k 0 [] [] [a, b])
theorem ty_typed {x : PE} (h : x.ty ≠ 0) : Typed x := by
  obtain ⟨k, n, ms, ns, ks⟩ := x
  unfold PE.ty at h
  by_cases h1 : k = 1
  · rw [if_pos h1] at h
    by_cases h2 : ms.length + ns.length + ks.length = 0
    · obtain rfl : ms = [] := List.eq_nil_of_length_eq_zero (by omega)
      obtain rfl : ns = [] := List.eq_nil_of_length_eq_zero (by omega)
      obtain rfl : ks = [] := List.eq_nil_of_length_eq_zero (by omega)
      subst h1; exact .num n
    · rw [if_neg h2] at h; exact absurd rfl h
  · rw [if_neg h1] at h
    by_cases h2 : k = 2
    · rw [if_pos h2] at h
      by_cases h3 : ns.length + ks.length = 0 ∧ rightM ms = true ∧ 1 ≤ n ∧ n ≤ 1048576
      · obtain rfl : ns = [] := List.eq_nil_of_length_eq_zero (by omega)
        obtain rfl : ks = [] := List.eq_nil_of_length_eq_zero (by omega)
        subst h2; exact .pick n ms h3.2.1 h3.2.2.1 h3.2.2.2
      · rw [if_neg h3] at h; exact absurd rfl h
    · rw [if_neg h2] at h
      by_cases h3 : ms.length = 0 ∧ n = 0
      · rw [if_neg (by simpa using h3)] at h
        obtain ⟨hm, rfl⟩ := h3
        obtain rfl : ms = [] := List.eq_nil_of_length_eq_zero hm
        by_cases h4 : wordX k ≠ ⟨#[]⟩
        · rw [if_pos h4] at h
          have hk := word_kinds h4
          unfold oneT at h
          by_cases h5 : namesF ns = true ∧ tysP ks = [2]
          · obtain ⟨h5, h6⟩ := h5
            match ks, h6 with
            | [], h6 => simp [tysP] at h6
            | [a], h6 => simp [tysP] at h6; exact .one k ns a hk.1 hk.2 h5 h6
            | a :: b :: l, h6 => simp [tysP] at h6
          · rw [if_neg h5] at h; exact absurd rfl h
        · rw [if_neg h4] at h
          by_cases h5 : signX k ≠ ⟨#[]⟩
          · rw [if_pos h5] at h
            have hk := sign_kinds h5
            match ns, ks with
            | [], [a, b] =>
              simp only [tysP, twoT] at h
              by_cases h6 : a.ty = 0 ∨ b.ty = 0
              · rw [if_pos h6] at h; exact absurd rfl h
              · exact .two k a b hk.1 hk.2 (fun e => h6 (.inl e)) (fun e => h6 (.inr e))
            | [], [] => exact absurd rfl h
            | [], [a] => exact absurd rfl h
            | [], a :: b :: c :: l => exact absurd rfl h
            | s :: l, _ => exact absurd rfl h
          · rw [if_neg h5] at h; exact absurd rfl h
      · rw [if_pos h3] at h; exact absurd rfl h
/-- Cut into tokens that are alike these. -/
def CutA (l : List UInt8) (us : List Tok) (rest : List UInt8) : Prop := ∃ ts, CutR l ts rest ∧ AlikeL ts us
theorem alike_shift (k : Nat) {vs ws : List Tok} (h : AlikeL vs ws) : AlikeL (vs.map (shiftT k)) ws := by
  induction h with
  | nil => exact .nil
  | cons h _ ih => exact .cons h ih
theorem AlikeL.app {a b c d : List Tok} (h : AlikeL a b) (k : AlikeL c d) : AlikeL (a ++ c) (b ++ d) := by
  induction h with
  | nil => exact k
  | cons h _ ih => exact .cons h ih
theorem CutA.nil (rest : List UInt8) : CutA [] [] rest := ⟨[], CutR.nil rest, .nil⟩
theorem CutA.blank {l rest : List UInt8} {us : List Tok} (b : UInt8) (hb : (b.toNat == 32 || b.toNat == 10) = true) (h : CutA l us rest) : CutA (b :: l) us rest := by
  obtain ⟨ts, h1, h2⟩ := h
  exact ⟨_, CutR.blank b hb h1, alike_shift 1 h2⟩
theorem CutA.tok {l rest : List UInt8} {us : List Tok} (t : Tok) (ht : okTok t) (h0 : t.at_ = 0) (hf : FollowL t (l ++ rest)) (h : CutA l us rest) : CutA (tokL t ++ l) (t :: us) rest := by
  obtain ⟨ts, h1, h2⟩ := h
  exact ⟨_, CutR.tok t ht h0 hf h1, .cons ⟨rfl, rfl, rfl⟩ (alike_shift _ h2)⟩
theorem CutA.append {l l2 rest : List UInt8} {us vs : List Tok} (h : CutA l us (l2 ++ rest)) (h2 : CutA l2 vs rest) : CutA (l ++ l2) (us ++ vs) rest := by
  obtain ⟨ts, h1, h3⟩ := h
  obtain ⟨ws, h4, h5⟩ := h2
  exact ⟨_, h1.append h4 rfl, h3.app (alike_shift _ h5)⟩
theorem CutA.sign {l rest : List UInt8} {us : List Tok} (x : ByteArray) (hx : x ∈ signsL) (hf : ∀ c r, l ++ rest = c :: r → signOk x.data.toList c = true) (h : CutA l us rest) : CutA (x.data.toList ++ l) (sgT x :: us) rest :=
  h.tok (sgT x) (.inr (.inr (.inr ⟨rfl, rfl, hx⟩))) rfl (fun c r e => hf c r e)
theorem CutA.word {l rest : List UInt8} {us : List Tok} (x : ByteArray) {c : UInt8} {r : List UInt8} (e : x.data.toList = c :: r) (hc : smallN c.toNat = true) (hr : ∀ y ∈ r, withinN y.toNat = true) (hl : r.length ≤ 23) (hf : ∀ c r, l ++ rest = c :: r → withinN c.toNat = false) (h : CutA l us rest) : CutA (x.data.toList ++ l) (wdT x :: us) rest :=
  h.tok (wdT x) (.inr (.inl ⟨rfl, rfl, c, r, e, hc, hr, hl⟩)) rfl (fun c r e => by show (!withinN c.toNat) = true; rw [hf c r e]; rfl)
theorem CutA.text {l rest : List UInt8} {us : List Tok} (x : ByteArray) (hx : x.size ≤ 24) (h : CutA l us rest) : CutA (quoteL x.data.toList ++ l) (txT x :: us) rest :=
  h.tok (txT x) (.inr (.inr (.inl ⟨rfl, rfl, hx⟩))) rfl (fun c r e => rfl)
theorem CutA.num {l rest : List UInt8} {us : List Tok} (z : Int) (hz : I64 z) (hf : ∀ c r, l ++ rest = c :: r → digitN c.toNat = false) (h : CutA l us rest) : CutA (Lib.itoa z ++ l) (nmT z :: us) rest :=
  h.tok (nmT z) (.inl ⟨rfl, hz, rfl⟩) rfl (fun c r e => by show (!digitN c.toNat) = true; rw [hf c r e]; rfl)
theorem CutA.sign1 {l rest : List UInt8} {us : List Tok} (b : UInt8) (hb : (⟨#[b]⟩ : ByteArray) ∈ signsL) (h1 : ¬ (b = 61 ∨ b = 60 ∨ b = 62)) (h2 : b ≠ 45) (h : CutA l us rest) : CutA (b :: l) (sgT ⟨#[b]⟩ :: us) rest :=
  h.sign ⟨#[b]⟩ hb (fun c r e => by
    unfold signOk
    rw [if_neg (fun h => h1 (by simpa using h)), if_neg (fun h => h2 (by simpa using h))])
end Go.Proofs.YtcaapbbbekggiaaGreatDoor
