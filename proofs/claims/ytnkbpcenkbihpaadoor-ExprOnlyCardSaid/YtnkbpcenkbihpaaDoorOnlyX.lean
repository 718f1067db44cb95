/- What is parsed is an expression within bounds, or none, and a byte within the text. -/
import Derived.Test.YtnkbpcenkbihpaaDoorBackX
namespace Go.Proofs.YtnkbpcenkbihpaaDoor
open Go.ChangeShapes Go.WideShapes Go.ChangeAt Go.RowKit
set_option linter.unusedVariables false
set_option linter.unusedSimpArgs false
set_option maxRecDepth 100000
theorem numGo_range : ∀ (l : List UInt8) (n m : Int) (j : Nat), -9223372036854775808 ≤ n → n ≤ 0 → numGo n l = some (m, j) → -9223372036854775808 ≤ m ∧ m ≤ 0
  | [], n, m, j, h1, h2, h => by
    unfold numGo at h
    injection h with h; injection h with h _; omega
  | c :: r, n, m, j, h1, h2, h => by
    unfold numGo at h
    by_cases hd : digitN c.toNat = true
    · rw [if_pos hd] at h
      by_cases ho : n < (-9223372036854775808 + ((c.toNat : Int) - 48)).tdiv 10
      · rw [if_pos ho] at h; cases h
      · rw [if_neg ho, Option.map_eq_some_iff] at h
        obtain ⟨⟨m2, j2⟩, h3, he⟩ := h
        injection he with he _
        obtain ⟨d0, d9⟩ := digit_range hd
        obtain ⟨t, ht, t1, t2, t3⟩ := tdiv_min ((c.toNat : Int) - 48) (by omega) (by omega)
        rw [ht] at ho
        have := numGo_range r _ m2 j2 (by omega) (by omega) h3
        rw [← he]; exact this
    · rw [if_neg hd] at h
      injection h with h; injection h with h _; omega
theorem numAt_range {k : Nat} {l : List UInt8} {m : Int} {j : Nat} (h : numAt k 0 l = some (m, j)) : -9223372036854775808 ≤ m ∧ m ≤ 0 := by
  unfold numAt at h
  rw [Option.map_eq_some_iff] at h
  obtain ⟨⟨m2, j2⟩, h3, he⟩ := h
  injection he with he _
  rw [← he]
  exact numGo_range l 0 m2 j2 (by omega) (by omega) h3
theorem signIn_n {l : List UInt8} : ∀ {L : List ByteArray} {t : Tok} {u : Nat}, signIn l L = some (t, u) → t.n = 0
  | [], _, _, h => by cases h
  | x :: r, t, u, h => by
    unfold signIn at h
    split at h
    · injection h with h; injection h with h _; rw [← h]
    · exact signIn_n h
theorem i64_zero : I64 0 := by unfold I64; omega
theorem firstT_n {s : ByteArray} {t : Tok} {u : Nat} (h : firstT s = some (t, u)) : I64 t.n := by
  unfold firstT at h
  split at h
  · unfold numT at h
    rw [Option.map_eq_some_iff] at h
    obtain ⟨⟨n, j⟩, hn, he⟩ := h
    injection he with he _
    rw [← he]
    show I64 n
    unfold numF at hn
    unfold I64
    split at hn
    · have := numAt_range hn; omega
    · split at hn
      · cases hn
      · next n2 u2 h2 =>
        split at hn
        · cases hn
        · next hne =>
          injection hn with hn; injection hn with hn _
          have := numAt_range h2; omega
  · split at h
    · unfold wordT at h
      split at h
      · cases h
      · injection h with h; injection h with h _
        rw [← h]; exact i64_zero
    · split at h
      · unfold quotedT at h
        rw [Option.map_eq_some_iff] at h
        obtain ⟨p, _, he⟩ := h
        injection he with he _
        rw [← he]; exact i64_zero
      · rw [signIn_n h]; exact i64_zero
/-- A token's number and place. -/
def TokIn (N : Nat) (t : Tok) : Prop := I64 t.n ∧ 0 ≤ t.at_ ∧ t.at_ ≤ N
theorem tokGo_ok (N : Nat) : ∀ (f : Nat) (l : List UInt8) (a : Nat) (acc : List Tok), a + l.length ≤ N → (∀ t ∈ acc, TokIn N t) → (tokGo f l a acc).2 ≤ N ∧ ∀ t ∈ (tokGo f l a acc).1, TokIn N t
  | 0, l, a, acc, h1, h2 => by
    unfold tokGo; exact ⟨by show a ≤ N; omega, h2⟩
  | f + 1, l, a, acc, h1, h2 => by
    have h0 : a ≤ N := by omega
    unfold tokGo
    cases l with
    | nil => exact ⟨h0, h2⟩
    | cons c r =>
      rw [List.length_cons] at h1
      simp only
      split
      · exact tokGo_ok N f _ _ _ (by omega) h2
      · split
        · exact ⟨h0, h2⟩
        · split
          · exact ⟨h0, h2⟩
          · next t u ht =>
            split
            · exact ⟨h0, h2⟩
            · have hu := firstT_le (by show 0 < (c :: r).toArray.size; simp) ht
              have hn := firstT_n ht
              have hsz : (⟨(c :: r).toArray⟩ : ByteArray).size = r.length + 1 := by show (c :: r).toArray.size = _; simp
              rw [hsz] at hu
              refine tokGo_ok N f _ _ _ (by rw [List.length_drop, List.length_cons]; omega) (fun x hx => ?_)
              rcases List.mem_append.1 hx with hx | hx
              · exact h2 x hx
              · rw [List.mem_singleton] at hx; subst hx
                exact ⟨hn, by show (0 : Int) ≤ (a : Int); omega, by show (a : Int) ≤ (N : Int); omega⟩
theorem tokF_ok (l : List UInt8) : (tokF l).2 ≤ l.length ∧ ∀ t ∈ (tokF l).1, TokIn l.length t := tokGo_ok l.length _ l 0 [] (by omega) (fun t h => absurd h List.not_mem_nil)
/-- Tokens to read. -/
structure TsOk (ts : List Tok) (en : Int) (n : Nat) : Prop where
  len : ts.length = n
  ok : ∀ t ∈ ts, I64 t.n ∧ 0 ≤ t.at_ ∧ t.at_ ≤ en
  en0 : 0 ≤ en
/-- A reader's fault, if it has one, is one of two; its place is within. -/
def Good (en : Int) (s : PS) : Prop := (s.fe = 0 ∨ s.fe = 1 ∨ s.fe = 6) ∧ 0 ≤ s.fa ∧ s.fa ≤ en
/-- A step of at least so many tokens, if there is no fault behind it. -/
structure Adv (n : Nat) (en : Int) (k : Nat) (s s' : PS) : Prop where
  good : Good en s → Good en s'
  p : s.p ≤ n → s'.p ≤ n
  adv : s'.fe = 0 → s.fe = 0 ∧ s.p + k ≤ s'.p
theorem Adv.refl (n : Nat) (en : Int) (s : PS) : Adv n en 0 s s := ⟨id, id, fun h => ⟨h, Nat.le_refl _⟩⟩
theorem Adv.trans {n j k : Nat} {en : Int} {a b c : PS} (h : Adv n en j a b) (q : Adv n en k b c) : Adv n en (j + k) a c :=
  ⟨fun g => q.good (h.good g), fun g => q.p (h.p g), fun g => by
    obtain ⟨h1, h2⟩ := q.adv g
    obtain ⟨h3, h4⟩ := h.adv h1
    exact ⟨h3, by omega⟩⟩
section
variable {ts : List Tok} {en : Int} {n : Nat} {s : PS}
theorem adv_fail (H : TsOk ts en n) (k : Nat) (s : PS) {e : Int} (he : e = 1 ∨ e = 6) : Adv n en k s (failF ts en s e) := by
  unfold failF
  by_cases h : s.fe = 0
  · rw [if_pos h]
    refine ⟨fun _ => ⟨.inr he, ?_⟩, fun hp => hp, fun h0 => ?_⟩
    · show 0 ≤ (match ts[s.p]? with | some t => t.at_ | none => en) ∧ (match ts[s.p]? with | some t => t.at_ | none => en) ≤ en
      cases hq : ts[s.p]? with
      | none => exact ⟨H.en0, Int.le_refl _⟩
      | some t => exact (H.ok t (List.mem_of_getElem? hq)).2
    · have h0 : e = 0 := h0
      omega
  · rw [if_neg h]; exact ⟨id, id, fun he => absurd he h⟩
theorem adv_next (hp : s.p < n) : Adv n en 1 s (nextF s) := ⟨fun h => h, fun _ => hp, fun he => ⟨he, Nat.le_refl _⟩⟩
theorem adv_is (H : TsOk ts en n) {kd : Int} (hk : kd ≠ 0) {tx : ByteArray} (h : isF ts s kd tx = true) : Adv n en 1 s (nextF s) := by
  have := (isF_lt hk h).2
  exact adv_next (by have := H.len; omega)
theorem adv_must (H : TsOk ts en n) (s : PS) {kd : Int} (hk : kd ≠ 0) (tx : ByteArray) : Adv n en 1 s (mustF ts en s kd tx) := by
  unfold mustF
  by_cases h : isF ts s kd tx = true
  · rw [if_pos h]; exact adv_is H hk h
  · rw [if_neg h]; exact adv_fail H 1 s (.inl rfl)
theorem adv_take (H : TsOk ts en n) (s : PS) {kd : Int} (hk : kd ≠ 0) : Adv n en 1 s (takeF ts en s kd).2 := by
  unfold takeF
  by_cases h : (peekF ts s).kd = kd
  · rw [if_pos h]
    have := (peekF_lt (ts := ts) (s := s) (by rw [h]; exact hk)).2
    exact adv_next (by have := H.len; omega)
  · rw [if_neg h]; exact adv_fail H 1 s (.inl rfl)
theorem take_n (H : TsOk ts en n) (s : PS) (kd : Int) : I64 (takeF ts en s kd).1.n := by
  unfold takeF
  by_cases h : (peekF ts s).kd = kd
  · rw [if_pos h]
    show I64 (peekF ts s).n
    unfold peekF
    by_cases hf : s.fe = 0
    · rw [if_pos hf]
      cases hq : ts[s.p]? with
      | none => exact i64_zero
      | some t => exact (H.ok t (List.mem_of_getElem? hq)).1
    · rw [if_neg hf]; exact i64_zero
  · rw [if_neg h]; exact i64_zero
theorem adv_op (H : TsOk ts en n) (s : PS) : Adv n en 1 s (opF ts en s).2 := by
  unfold opF
  by_cases h1 : isF ts s 4 ⟨#[61]⟩ = true
  · rw [if_pos h1]; exact adv_is H (by decide) h1
  · rw [if_neg h1]
    by_cases h2 : isF ts s 4 ⟨#[33, 61]⟩ = true
    · rw [if_pos h2]; exact adv_is H (by decide) h2
    · rw [if_neg h2]
      by_cases h3 : isF ts s 4 ⟨#[94, 61]⟩ = true
      · rw [if_pos h3]; exact adv_is H (by decide) h3
      · rw [if_neg h3]
        by_cases h4 : isF ts s 4 ⟨#[33, 94]⟩ = true
        · rw [if_pos h4]; exact adv_is H (by decide) h4
        · rw [if_neg h4]; exact adv_fail H 1 s (.inl rfl)
theorem adv_matcher (H : TsOk ts en n) (s : PS) : Adv n en 3 s (matcherF ts en s).2 := by
  unfold matcherF
  exact ((adv_take H s (by decide)).trans (adv_op H _)).trans (adv_take H _ (by decide))
theorem msToks_snoc (l : List Mtc) (m : Mtc) : (msToks (l ++ [m])).length = (msToks l).length + if l.length = 0 then 3 else 4 := by
  cases l with
  | nil => simp [msToks, mtoks, msMore]
  | cons a l => simp [msToks, mtoks, msMore, Nat.add_assoc]
theorem nsToks_snoc (l : List ByteArray) (m : ByteArray) : (nsToks (l ++ [m])).length = (nsToks l).length + if l.length = 0 then 1 else 2 := by
  cases l with
  | nil => simp [nsToks, nsMore]
  | cons a l => simp [nsToks, nsMore, Nat.add_assoc]
theorem msF_stop (f : Nat) (ms : List Mtc) {s : PS} (h : s.fe ≠ 0) : msF ts en f ms s = (ms, s) := by
  cases f with
  | zero => rfl
  | succ f => unfold msF; rw [if_neg h]
theorem nsF_stop (f : Nat) (ns : List ByteArray) {s : PS} (h : s.fe ≠ 0) : nsF ts en f ns s = (ns, s) := by
  cases f with
  | zero => rfl
  | succ f => unfold nsF; rw [if_neg h]
theorem msF_adv (H : TsOk ts en n) : ∀ (f : Nat) (ms : List Mtc) (s : PS), s.p ≤ n → n < s.p + f →
    (Good en s → Good en (msF ts en f ms s).2) ∧ (msF ts en f ms s).2.p ≤ n ∧ ((msF ts en f ms s).2.fe = 0 → s.fe = 0 ∧ s.p + (msToks (msF ts en f ms s).1).length + 1 ≤ (msF ts en f ms s).2.p + (msToks ms).length)
  | 0, ms, s, h1, h2 => by omega
  | f + 1, ms, s, h1, h2 => by
    unfold msF
    by_cases hf : s.fe = 0
    · rw [if_pos hf]
      by_cases hb : isF ts s 4 ⟨#[125]⟩ = true
      · rw [if_pos hb]
        have a := adv_is (en := en) H (by decide) hb
        exact ⟨a.good, a.p h1, fun _ => ⟨hf, by show s.p + (msToks ms).length + 1 ≤ s.p + 1 + (msToks ms).length; omega⟩⟩
      · rw [if_neg hb]
        obtain ⟨s1, hs1⟩ : ∃ s1, (if ms.length = 0 then s else mustF ts en s 4 ⟨#[44]⟩) = s1 := ⟨_, rfl⟩
        have a1 : Adv n en (if ms.length = 0 then 0 else 1) s s1 := by
          by_cases hm : ms.length = 0
          · rw [if_pos hm] at hs1 ⊢; rw [← hs1]; exact Adv.refl _ _ _
          · rw [if_neg hm] at hs1 ⊢; rw [← hs1]; exact adv_must H s (by decide) _
        rw [hs1]
        have a2 := a1.trans (adv_matcher H s1)
        obtain ⟨r, hr⟩ : ∃ r, matcherF ts en s1 = r := ⟨_, rfl⟩
        rw [hr] at a2 ⊢
        have hp := a2.p h1
        by_cases hf2 : r.2.fe = 0
        · have h3 := (a2.adv hf2).2
          obtain ⟨i1, i2, i3⟩ := msF_adv H f (ms ++ [r.1]) r.2 hp (by omega)
          refine ⟨fun g => i1 (a2.good g), i2, fun h0 => ⟨hf, ?_⟩⟩
          have h4 := (i3 h0).2
          rw [msToks_snoc] at h4
          split at h4 <;> split at h3 <;> omega
        · rw [msF_stop f _ hf2]
          exact ⟨a2.good, hp, fun h0 => absurd h0 hf2⟩
    · rw [if_neg hf]
      exact ⟨id, h1, fun h0 => absurd h0 hf⟩
theorem nsF_adv (H : TsOk ts en n) : ∀ (f : Nat) (ns : List ByteArray) (s : PS), s.p ≤ n → n < s.p + f →
    (Good en s → Good en (nsF ts en f ns s).2) ∧ (nsF ts en f ns s).2.p ≤ n ∧ ((nsF ts en f ns s).2.fe = 0 → s.fe = 0 ∧ s.p + (nsToks (nsF ts en f ns s).1).length + 1 ≤ (nsF ts en f ns s).2.p + (nsToks ns).length)
  | 0, ns, s, h1, h2 => by omega
  | f + 1, ns, s, h1, h2 => by
    unfold nsF
    by_cases hf : s.fe = 0
    · rw [if_pos hf]
      by_cases hb : isF ts s 4 ⟨#[41]⟩ = true
      · rw [if_pos hb]
        have a := adv_is (en := en) H (by decide) hb
        exact ⟨a.good, a.p h1, fun _ => ⟨hf, by show s.p + (nsToks ns).length + 1 ≤ s.p + 1 + (nsToks ns).length; omega⟩⟩
      · rw [if_neg hb]
        obtain ⟨s1, hs1⟩ : ∃ s1, (if ns.length = 0 then s else mustF ts en s 4 ⟨#[44]⟩) = s1 := ⟨_, rfl⟩
        have a1 : Adv n en (if ns.length = 0 then 0 else 1) s s1 := by
          by_cases hm : ns.length = 0
          · rw [if_pos hm] at hs1 ⊢; rw [← hs1]; exact Adv.refl _ _ _
          · rw [if_neg hm] at hs1 ⊢; rw [← hs1]; exact adv_must H s (by decide) _
        rw [hs1]
        have a2 := a1.trans (adv_take H s1 (kd := 2) (by decide))
        obtain ⟨r, hr⟩ : ∃ r, takeF ts en s1 2 = r := ⟨_, rfl⟩
        rw [hr] at a2 ⊢
        have hp := a2.p h1
        by_cases hf2 : r.2.fe = 0
        · have h3 := (a2.adv hf2).2
          obtain ⟨i1, i2, i3⟩ := nsF_adv H f (ns ++ [r.1.tx]) r.2 hp (by omega)
          refine ⟨fun g => i1 (a2.good g), i2, fun h0 => ⟨hf, ?_⟩⟩
          have h4 := (i3 h0).2
          rw [nsToks_snoc] at h4
          split at h4 <;> split at h3 <;> omega
        · rw [nsF_stop f _ hf2]
          exact ⟨a2.good, hp, fun h0 => absurd h0 hf2⟩
    · rw [if_neg hf]
      exact ⟨id, h1, fun h0 => absurd h0 hf⟩
theorem firstK_some {p : Int → Bool} : ∀ {f : Nat} {k j : Int}, firstK p f k = some j → k ≤ j ∧ j < k + f ∧ p j = true
  | 0, k, j, h => by cases h
  | f + 1, k, j, h => by
    unfold firstK at h
    split at h
    · next hp => injection h with h; subst h; exact ⟨by omega, by omega, hp⟩
    · have := firstK_some h
      exact ⟨by omega, by omega, this.2.2⟩
theorem kindF_range {t : Tok} (h : kindF t ≠ 0) : 17 ≤ kindF t ∧ kindF t ≤ 20 := by
  unfold kindF at h ⊢
  split
  · next h2 =>
    rw [if_pos h2] at h
    cases hq : firstK (fun k => decide (t.tx = wordX k)) 4 17 with
    | none => rw [hq] at h; exact absurd rfl h
    | some j => have := firstK_some hq; show 17 ≤ j ∧ j ≤ 20; omega
  · next h2 => rw [if_neg h2] at h; exact absurd rfl h
theorem adv_between (H : TsOk ts en n) (s : PS) : Adv n en 1 s (betweenF ts en s).2 ∧ ((betweenF ts en s).2.fe = 0 → 3 ≤ (betweenF ts en s).1 ∧ (betweenF ts en s).1 ≤ 16) := by
  unfold betweenF
  cases hq : firstK (fun k => isF ts s (if 14 ≤ k then 2 else 4) (signX k)) 14 3 with
  | none =>
    have a := adv_fail H 1 s (e := 1) (.inl rfl)
    refine ⟨a, fun h0 => ?_⟩
    exfalso
    have h1 := (a.adv h0).1
    have h0' : (failF ts en s 1).fe = 0 := h0
    unfold failF at h0'
    rw [if_pos h1] at h0'
    exact absurd h0' (show ¬ (1 : Int) = 0 by decide)
  | some j =>
    obtain ⟨h1, h2, h3⟩ := firstK_some hq
    refine ⟨adv_is H (by split <;> decide) h3, fun _ => ?_⟩
    show 3 ≤ j ∧ j ≤ 16
    omega
/-- An expression read: what is told of it, and of the reader behind it. -/
structure RdOk (n : Nat) (en : Int) (f : Nat) (s : PS) (x : PE) (s' : PS) : Prop where
  good : Good en s → Good en s'
  p : s'.p ≤ n
  adv : s'.fe = 0 → s.fe = 0 ∧ s.p + x.toks.length ≤ s'.p ∧ x.fits ∧ x.deep ≤ f
theorem fail_rd (H : TsOk ts en n) (f : Nat) (x : PE) (hp : s.p ≤ n) {e : Int} (he : e = 1 ∨ e = 6) : RdOk n en f s x (failF ts en s e) := by
  have a := adv_fail H 0 s he
  refine ⟨a.good, a.p hp, fun h0 => ?_⟩
  exfalso
  have h1 := (a.adv h0).1
  unfold failF at h0
  rw [if_pos h1] at h0
  have h0 : e = 0 := h0
  omega
theorem exprF_rd (H : TsOk ts en n) : ∀ (f : Nat) (s : PS), s.p ≤ n → RdOk n en f s (exprF ts en n f s).1 (exprF ts en n f s).2
  | 0, s, hp => by
    unfold exprF
    split
    · exact fail_rd H 0 _ hp (.inl rfl)
    · exact fail_rd H 0 _ hp (.inr rfl)
  | f + 1, s, hp => by
    unfold exprF
    split
    · exact fail_rd H _ _ hp (.inl rfl)
    · split
      · have a := adv_take H s (kd := 1) (by decide)
        refine ⟨a.good, a.p hp, fun h0 => ?_⟩
        obtain ⟨h1, h2⟩ := a.adv h0
        refine ⟨h1, h2, ?_, ?_⟩
        · unfold PE.fits fitsP; exact ⟨take_n H s 1, trivial⟩
        · unfold PE.deep deepsP; omega
      · split
        · next hk =>
          have hkr := kindF_range hk
          obtain ⟨kk, hkk⟩ : ∃ k, kindF (peekF ts s) = k := ⟨_, rfl⟩
          rw [hkk] at hkr ⊢
          unfold ofOneF
          simp only
          have a1 := ((adv_take H s (kd := 2) (by decide)).trans (adv_must H _ (kd := 2) (by decide) ⟨#[98, 121]⟩)).trans (adv_must H _ (kd := 4) (by decide) ⟨#[40]⟩)
          generalize mustF ts en (mustF ts en (takeF ts en s 2).2 2 ⟨#[98, 121]⟩) 4 ⟨#[40]⟩ = s3 at *
          obtain ⟨b1, b2, b3⟩ := nsF_adv H (n + 2) [] s3 (a1.p hp) (by omega)
          generalize nsF ts en (n + 2) [] s3 = r at *
          have a2 := adv_must H r.2 (kd := 4) (by decide) ⟨#[40]⟩
          generalize mustF ts en r.2 4 ⟨#[40]⟩ = s4 at *
          have a3 := exprF_rd H f s4 (a2.p b2)
          generalize exprF ts en n f s4 = y at *
          have a4 := adv_must H y.2 (kd := 4) (by decide) ⟨#[41]⟩
          generalize mustF ts en y.2 4 ⟨#[41]⟩ = s5 at *
          refine ⟨fun g => a4.good (a3.good (a2.good (b1 (a1.good g)))), a4.p a3.p, fun h0 => ?_⟩
          obtain ⟨c1, c2⟩ := a4.adv h0
          obtain ⟨c3, c4, c5, c6⟩ := a3.adv c1
          obtain ⟨c7, c8⟩ := a2.adv c3
          obtain ⟨c9, c10⟩ := b3 c7
          obtain ⟨c11, c12⟩ := a1.adv c9
          refine ⟨c11, ?_, ?_, ?_⟩
          · rw [toks_one _ _ hkr.1]
            simp only [List.length_cons, List.length_append, List.length_nil, nsToks] at c10 ⊢
            omega
          · unfold PE.fits fitsP fitsP; exact ⟨i64_zero, c5, trivial⟩
          · unfold PE.deep deepsP deepsP; omega
        · split
          · unfold pickR readPickF
            simp only
            have a1 := adv_must H s (kd := 4) (by decide) ⟨#[123]⟩
            generalize mustF ts en s 4 ⟨#[123]⟩ = s1 at *
            obtain ⟨b1, b2, b3⟩ := msF_adv H (n + 2) [] s1 (a1.p hp) (by omega)
            generalize msF ts en (n + 2) [] s1 = r at *
            have a2 := adv_must H r.2 (kd := 4) (by decide) ⟨#[91]⟩
            generalize mustF ts en r.2 4 ⟨#[91]⟩ = s2 at *
            have a3 := adv_take H s2 (kd := 1) (by decide)
            have hn := take_n H s2 1
            generalize takeF ts en s2 1 = t at *
            have a4 := adv_must H t.2 (kd := 4) (by decide) ⟨#[93]⟩
            generalize mustF ts en t.2 4 ⟨#[93]⟩ = s5 at *
            refine ⟨fun g => a4.good (a3.good (a2.good (b1 (a1.good g)))), a4.p (a3.p (a2.p b2)), fun h0 => ?_⟩
            obtain ⟨c1, c2⟩ := a4.adv h0
            obtain ⟨c3, c4⟩ := a3.adv c1
            obtain ⟨c7, c8⟩ := a2.adv c3
            obtain ⟨c9, c10⟩ := b3 c7
            obtain ⟨c11, c12⟩ := a1.adv c9
            refine ⟨c11, ?_, ?_, ?_⟩
            · show s.p + (PE.mk 2 t.1.n r.1 [] []).toks.length ≤ s5.p
              unfold PE.toks
              rw [if_neg (by decide), if_pos rfl]
              simp only [List.length_cons, List.length_append, List.length_nil, msToks] at c10 ⊢
              omega
            · show (PE.mk 2 t.1.n r.1 [] []).fits
              unfold PE.fits fitsP; exact ⟨hn, trivial⟩
            · show (PE.mk 2 t.1.n r.1 [] []).deep ≤ f + 1
              unfold PE.deep deepsP; omega
          · unfold ofTwoF
            simp only
            have a1 := adv_must H s (kd := 4) (by decide) ⟨#[40]⟩
            generalize mustF ts en s 4 ⟨#[40]⟩ = s1 at *
            have a2 := exprF_rd H f s1 (a1.p hp)
            generalize exprF ts en n f s1 = y at *
            obtain ⟨a3, hk⟩ := adv_between H y.2
            generalize betweenF ts en y.2 = k at *
            have a4 := exprF_rd H f k.2 (a3.p a2.p)
            generalize exprF ts en n f k.2 = z at *
            have a5 := adv_must H z.2 (kd := 4) (by decide) ⟨#[41]⟩
            generalize mustF ts en z.2 4 ⟨#[41]⟩ = s5 at *
            refine ⟨fun g => a5.good (a4.good (a3.good (a2.good (a1.good g)))), a5.p a4.p, fun h0 => ?_⟩
            obtain ⟨c1, c2⟩ := a5.adv h0
            obtain ⟨c3, c4, c5, c6⟩ := a4.adv c1
            obtain ⟨c7, c8⟩ := a3.adv c3
            obtain ⟨c9, c10, c11, c12⟩ := a2.adv c7
            obtain ⟨c13, c14⟩ := a1.adv c9
            obtain ⟨k1, k2⟩ := hk c3
            refine ⟨c13, ?_, ?_, ?_⟩
            · rw [toks_two _ _ k1 k2]
              simp only [List.length_cons, List.length_append, List.length_nil]
              omega
            · unfold PE.fits fitsP fitsP fitsP; exact ⟨i64_zero, c11, c5, trivial⟩
            · unfold PE.deep deepsP deepsP deepsP; omega
/-- What is told of an answer. -/
def AnsIn (N : Int) (n : Nat) (r : PE × Int × Int) : Prop :=
  (r.2.2 = 0 → r.2.1 = 0 ∧ r.1.ty ≠ 0 ∧ r.1.fits ∧ r.1.deep ≤ 8 ∧ r.1.toks.length ≤ n ∧ r.1.small) ∧ (r.2.2 ≠ 0 → r.1 = zeroPE ∧ (r.2.2 = 1 ∨ r.2.2 = 6) ∧ 0 ≤ r.2.1 ∧ r.2.1 ≤ N)
theorem readF_in (H : TsOk ts en n) (hn : n ≤ 1000000) : AnsIn en n (readF ts en n) := by
  have h := exprF_rd H 8 ⟨0, 0, 0⟩ (Nat.zero_le _)
  have hsm := exprF_small (ts := ts) (en := en) hn 8 ⟨0, 0, 0⟩
  unfold readF
  simp only
  generalize exprF ts en n 8 ⟨0, 0, 0⟩ = r at *
  have g : Good en r.2 := h.good ⟨.inl rfl, Int.le_refl _, H.en0⟩
  have g2 : Good en (if r.2.p < n then failF ts en r.2 1 else r.2) := by
    split
    · exact (adv_fail H 0 r.2 (.inl rfl)).good g
    · exact g
  have h2 : (if r.2.p < n then failF ts en r.2 1 else r.2).fe = 0 → r.2.fe = 0 := by
    split
    · exact fun h0 => ((adv_fail H 0 r.2 (.inl rfl)).adv h0).1
    · exact id
  generalize (if r.2.p < n then failF ts en r.2 1 else r.2) = s at *
  by_cases hf : s.fe = 0
  · rw [if_neg (fun h => h hf)]
    by_cases ht : r.1.ty = 0
    · rw [if_pos ht]
      exact ⟨fun h0 => absurd h0 (by decide), fun _ => ⟨rfl, .inl rfl, Int.le_refl _, H.en0⟩⟩
    · rw [if_neg ht]
      obtain ⟨h3, h4, h5, h6⟩ := h.adv (h2 hf)
      have hp := h.p
      exact ⟨fun _ => ⟨rfl, ht, h5, h6, by
        have h4 : 0 + r.1.toks.length ≤ r.2.p := h4
        show r.1.toks.length ≤ n
        omega, hsm⟩, fun h0 => absurd rfl h0⟩
  · rw [if_pos hf]
    refine ⟨fun h0 => absurd h0 hf, fun _ => ⟨rfl, ?_, g2.2⟩⟩
    rcases g2.1 with h | h
    · exact absurd h hf
    · exact h
end
theorem parseF_in (l : List UInt8) : AnsIn l.length 400 (parseF l) := by
  obtain ⟨h1, h2⟩ := tokF_ok l
  have h3 := tokF_len l
  unfold parseF
  split
  · exact ⟨fun h0 => absurd h0 (by show ¬ ((1 : Int) = 0); decide), fun _ => ⟨rfl, .inl rfl, by show (0 : Int) ≤ ((tokF l).2 : Nat); omega, by show (((tokF l).2 : Nat) : Int) ≤ l.length; omega⟩⟩
  · have h := readF_in (ts := (tokF l).1) (en := l.length) (n := (tokF l).1.length) ⟨rfl, h2, by omega⟩ (by omega)
    refine ⟨fun h0 => ?_, h.2⟩
    obtain ⟨a1, a2, a3, a4, a5, a6⟩ := h.1 h0
    exact ⟨a1, a2, a3, a4, by omega, a6⟩
end Go.Proofs.YtnkbpcenkbihpaaDoor
