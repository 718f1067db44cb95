/- What ExprTells' expression is told by: short rows, numbers that fit, few picks; a typed one can be printed, and its text is the document's. -/
import Derived.Test.YtcaapbbbekggiaaGreatDoorSmall
import Derived.Test.YtcaapbbbekggiaaGreatDoorPicksAny
import Derived.Test.YtcaapbbbekggiaaGreatDoorPrintX
import Derived.Test.YtcaapbbbekggiaaGreatDoorBase3
namespace Go.Proofs.YtcaapbbbekggiaaGreatDoor
open Go.ChangeShapes Go.WideShapes Go.ChangeAt Go.RowKit
set_option linter.unusedVariables false
set_option linter.unusedSimpArgs false
set_option maxRecDepth 100000
theorem pe_eq (kd n : Int) (mv nv kv : Value) (ms : List Mtc) (ns : List ByteArray) (ks : List XE) : (XE.mk kd n mv ms nv ns kv ks).pe = .mk kd n ms ns (pesX ks) := rfl
theorem pesX_all {P : PE → Prop} : ∀ (l : List XE), (∀ x ∈ l, P x.pe) → ∀ p ∈ pesX l, P p := fun l h p hp => by
  rw [pesX_map] at hp
  obtain ⟨x, hx, rfl⟩ := List.mem_map.1 hp
  exact h x hx
theorem fewP_of : ∀ l : List PE, (∀ p ∈ l, p.few) → fewP l
  | [], _ => trivial
  | a :: l, h => ⟨h a List.mem_cons_self, fewP_of l (fun p hp => h p (List.mem_cons_of_mem _ hp))⟩
theorem smallP_of : ∀ l : List PE, (∀ p ∈ l, p.small) → smallP l
  | [], _ => trivial
  | a :: l, h => ⟨h a List.mem_cons_self, smallP_of l (fun p hp => h p (List.mem_cons_of_mem _ hp))⟩
theorem fitsP_of : ∀ l : List PE, (∀ p ∈ l, p.fits) → fitsP l
  | [], _ => trivial
  | a :: l, h => ⟨h a List.mem_cons_self, fitsP_of l (fun p hp => h p (List.mem_cons_of_mem _ hp))⟩
theorem countP_le {c : Nat} : ∀ l : List PE, (∀ p ∈ l, p.count ≤ c) → countP l ≤ l.length * c
  | [], _ => Nat.zero_le _
  | a :: l, h => by
    have h1 := h a List.mem_cons_self
    have h2 := countP_le l (fun p hp => h p (List.mem_cons_of_mem _ hp))
    show a.count + countP l ≤ (l.length + 1) * c
    rw [Nat.succ_mul]; omega
theorem tiny_facts {w : World} : ∀ (d : Nat) (x : XE), okX d x w → tinyX d x → szX d x → x.pe.few ∧ x.pe.small ∧ x.pe.fits ∧ x.pe.count ≤ 4 ^ d
  | 0, _, h, _, _ => h.elim
  | d + 1, .mk kd n mv ms nv ns kv ks, h, ⟨h1, h2, h3, h4⟩, ⟨s1, s2, s3, s4⟩ => by
    simp only [XE.ms, XE.ns, XE.kids, XE.n] at h1 h2 h3 h4 s1 s2 s3 s4
    have ih := fun x hx => tiny_facts d x (h.2.2.2 x hx) (h4 x hx) (s4 x hx)
    rw [pe_eq]
    have hc := countP_le (c := 4 ^ d) (pesX ks) (pesX_all ks (P := fun p => p.count ≤ 4 ^ d) fun x hx => (ih x hx).2.2.2)
    rw [pesX_length] at hc
    refine ⟨?_, ?_, ?_, ?_⟩
    · unfold PE.few; rw [pesX_length]; exact ⟨by omega, by omega, by omega, fewP_of _ (pesX_all ks fun x hx => (ih x hx).1)⟩
    · unfold PE.small; rw [pesX_length]; exact ⟨by omega, by omega, by omega, smallP_of _ (pesX_all ks fun x hx => (ih x hx).2.1)⟩
    · unfold PE.fits; exact ⟨s1, fitsP_of _ (pesX_all ks fun x hx => (ih x hx).2.2.1)⟩
    · unfold PE.count
      have hp : 1 ≤ 4 ^ d := Nat.one_le_pow _ _ (by omega)
      have hm : ks.length * 4 ^ d ≤ 3 * 4 ^ d := Nat.mul_le_mul_right _ h3
      have e : 4 ^ (d + 1) = 4 * 4 ^ d := by rw [Nat.pow_succ, Nat.mul_comm]
      split <;> omega
theorem keepN_ts : ∀ (d : Nat) (x : XE), keepN d x → tinyX d x ∧ szX d x
  | 0, _, h => h.elim
  | d + 1, x, h => by
    rcases h with ⟨h1, h2, h3, h4, h5, h6⟩ | ⟨h1, h2, h3, h4, h5, a, b, hk, ⟨a1, a2, a3, a4, a5, a6⟩, hb⟩
    · exact ⟨⟨by rw [h4]; simp, by rw [h5]; simp, by rw [h6]; simp, by rw [h6]; simp⟩, ⟨by unfold I64; omega, by rw [h4]; simp, by rw [h5]; simp, by rw [h6]; simp⟩⟩
    · have ihb := keepN_ts d b hb
      have iha : tinyX d a ∧ szX d a := by
        cases d with
        | zero => exact ⟨trivial, trivial⟩
        | succ d => exact ⟨⟨by rw [a4]; simp, by rw [a5]; simp, by rw [a6]; simp, by rw [a6]; simp⟩, ⟨by unfold I64; omega, by rw [a4]; simp, by rw [a5]; simp, by rw [a6]; simp⟩⟩
      refine ⟨⟨by rw [h4]; simp, by rw [h5]; simp, by rw [hk]; simp, ?_⟩, ⟨by unfold I64; omega, by rw [h4]; simp, by rw [h5]; simp, ?_⟩⟩ <;> rw [hk] <;> intro k hk2 <;> simp only [List.mem_cons, List.not_mem_nil, or_false] at hk2 <;> rcases hk2 with rfl | rfl
      · exact iha.1
      · exact ihb.1
      · exact iha.2
      · exact ihb.2
theorem keepMs_ts {ms : List Mtc} (h : keepMs ms) : ms.length ≤ 7 ∧ ∀ m ∈ ms, m.1.size ≤ 9223372036854775807 ∧ m.2.1.size ≤ 9223372036854775807 := by
  obtain ⟨c, hc, h⟩ := h
  have hn : ∀ a, a < 3 → (keepNames.getD a ⟨#[]⟩).size ≤ 24 := fun a ha => by
    have : ∀ q : Fin 3, (keepNames.getD q ⟨#[]⟩).size ≤ 24 := by decide
    exact this ⟨a, ha⟩
  have hv : ∀ a, a < 4 → (keepValues.getD a ⟨#[]⟩).size ≤ 24 := fun a ha => by
    have : ∀ q : Fin 4, (keepValues.getD q ⟨#[]⟩).size ≤ 24 := by decide
    exact this ⟨a, ha⟩
  have e1 : (⟨#[110, 97, 109, 101]⟩ : ByteArray).size = 4 := rfl
  have e2 : (⟨#[c]⟩ : ByteArray).size = 1 := rfl
  rcases h with rfl | ⟨a, q, kd, ha, hq, _, _, rfl⟩
  · refine ⟨by simp, fun m hm => ?_⟩
    rw [List.mem_singleton] at hm; subst hm
    exact ⟨by rw [e1]; omega, by rw [e2]; omega⟩
  · refine ⟨by simp, fun m hm => ?_⟩
    have h1 := hn a ha
    have h2 := hv q hq
    simp only [List.mem_cons, List.not_mem_nil, or_false] at hm
    rcases hm with rfl | rfl
    · exact ⟨by rw [e1]; omega, by rw [e2]; omega⟩
    · exact ⟨by show (keepNames.getD a ⟨#[]⟩).size ≤ _; omega, by show (keepValues.getD q ⟨#[]⟩).size ≤ _; omega⟩
theorem keepNs_ts {ns : List ByteArray} (h : keepNs ns) : ns.length ≤ 7 ∧ ∀ s ∈ ns, s.size ≤ maxLen := by
  have hl := h.length_le
  have h3 : keepNames.length ≤ 7 := by decide
  refine ⟨by omega, fun s hs => ?_⟩
  have hm := h.subset hs
  have : ∀ s ∈ keepNames, s.size ≤ 24 := by decide
  have := this s hm
  unfold maxLen; omega
theorem keepNum_ts (d : Nat) {x : XE} {hi : Int} (hhi : hi ≤ 9) (h : x.kd = 1 ∧ -3 ≤ x.n ∧ x.n ≤ hi ∧ x.ms = [] ∧ x.ns = [] ∧ x.kids = []) : tinyX d x ∧ szX d x := by
  obtain ⟨h1, h2, h3, h4, h5, h6⟩ := h
  cases d with
  | zero => exact ⟨trivial, trivial⟩
  | succ d => exact ⟨⟨by rw [h4]; simp, by rw [h5]; simp, by rw [h6]; simp, by rw [h6]; simp⟩, ⟨by unfold I64; omega, by rw [h4]; simp, by rw [h5]; simp, by rw [h6]; simp⟩⟩
theorem two_ts {d : Nat} {x a b : XE} (h3 : x.n = 0) (h4 : x.ms = []) (h5 : x.ns = []) (hk : x.kids = [a, b]) (iha : tinyX d a ∧ szX d a) (ihb : tinyX d b ∧ szX d b) : tinyX (d + 1) x ∧ szX (d + 1) x := by
  refine ⟨⟨by rw [h4]; simp, by rw [h5]; simp, by rw [hk]; simp, ?_⟩, ⟨by rw [h3]; unfold I64; omega, by rw [h4]; simp, by rw [h5]; simp, ?_⟩⟩ <;> rw [hk] <;> intro k hk2 <;> simp only [List.mem_cons, List.not_mem_nil, or_false] at hk2 <;> rcases hk2 with rfl | rfl
  · exact iha.1
  · exact ihb.1
  · exact iha.2
  · exact ihb.2
theorem keepV_ts : ∀ (d : Nat) (x : XE), keepV d x → tinyX d x ∧ szX d x
  | 0, _, h => h.elim
  | d + 1, x, h => by
    rcases h with ⟨h1, h2, h3, hm, h5, h6⟩ | ⟨h1, h2, h3, h4, h5, a, b, hk, ha, hb⟩ | ⟨h1, h2, h3, h4, h5, a, b, hk, ha, hb⟩ | ⟨h1, h2, h3, h4, h5, a, b, hk, ha, hb⟩ | ⟨h1, h2, h3, h4, h5, a, hk, ha⟩
    · obtain ⟨m1, m2⟩ := keepMs_ts hm
      exact ⟨⟨m1, by rw [h5]; simp, by rw [h6]; simp, by rw [h6]; simp⟩, ⟨by unfold I64; omega, m2, by rw [h5]; simp, by rw [h6]; simp⟩⟩
    · exact two_ts h3 h4 h5 hk (keepV_ts d a ha) (keepNum_ts d (by omega) hb)
    · exact two_ts h3 h4 h5 hk (keepV_ts d a ha) (keepV_ts d b hb)
    · exact two_ts h3 h4 h5 hk (keepV_ts d a ha) (keepN_ts d b hb)
    · obtain ⟨m1, m2⟩ := keepNs_ts h5
      have iha := keepV_ts d a ha
      refine ⟨⟨by rw [h4]; simp, m1, by rw [hk]; simp, ?_⟩, ⟨by rw [h3]; unfold I64; omega, by rw [h4]; simp, m2, ?_⟩⟩ <;> rw [hk] <;> intro k hk2 <;> rw [List.mem_singleton] at hk2 <;> subst hk2
      · exact iha.1
      · exact iha.2
theorem sign_op {k : Int} (h1 : 3 ≤ k) (h2 : k ≤ 16) : opsL.getD (k - 3).toNat ⟨#[]⟩ = signX k := by
  have : k = 3 ∨ k = 4 ∨ k = 5 ∨ k = 6 ∨ k = 7 ∨ k = 8 ∨ k = 9 ∨ k = 10 ∨ k = 11 ∨ k = 12 ∨ k = 13 ∨ k = 14 ∨ k = 15 ∨ k = 16 := by omega
  rcases this with rfl | rfl | rfl | rfl | rfl | rfl | rfl | rfl | rfl | rfl | rfl | rfl | rfl | rfl <;> rfl
theorem word_agg {k : Int} (h1 : 17 ≤ k) (h2 : k ≤ 20) : aggsL.getD (k - 17).toNat ⟨#[]⟩ = wordX k := by
  have : k = 17 ∨ k = 18 ∨ k = 19 ∨ k = 20 := by omega
  rcases this with rfl | rfl | rfl | rfl <;> rfl
theorem typed_good {w : World} : ∀ (d : Nat) (x : XE), okX d x w → x.pe.ty ≠ 0 → x.pe.fits → goodX d x ∧ printX d x = x.pe.text
  | 0, _, h, _, _ => h.elim
  | d + 1, .mk kd n mv ms nv ns kv ks, h, ht, hf => by
    have hT := ty_typed ht
    have ih := fun x hx => typed_good d x (h.2.2.2 x hx)
    simp only [XE.kids] at ih
    rw [pe_eq] at hT hf ⊢
    generalize hks : pesX ks = ps at hT hf ⊢
    cases hT with
    | num n =>
      obtain rfl : ks = [] := List.eq_nil_of_length_eq_zero (by rw [← pesX_length, hks]; rfl)
      have hn : I64 n := by unfold PE.fits at hf; exact hf.1
      refine ⟨⟨by show (1 : Int) ≤ 1; decide, by show (1 : Int) ≤ 20; decide, hn, fun e => absurd (show (1 : Int) = 2 from e) (by decide), fun e => absurd (show (17 : Int) ≤ 1 from e) (by decide), fun e => absurd (show (3 : Int) ≤ 1 from e) (by decide)⟩, ?_⟩
      rw [text_num]; unfold printX; rw [if_pos (by rfl)]; rfl
    | pick n ms hr h1 h2 =>
      have h4 := rightM_facts hr
      have hn : I64 n := by unfold PE.fits at hf; exact hf.1
      refine ⟨⟨by show (1 : Int) ≤ 2; decide, by show (2 : Int) ≤ 20; decide, hn, fun _ => ⟨h4.1, fun m hm => ⟨(wordF_sz (h4.2 m hm).1).2, (h4.2 m hm).2⟩⟩, fun e => absurd (show (17 : Int) ≤ 2 from e) (by decide), fun e => absurd (show (3 : Int) ≤ 2 from e) (by decide)⟩, ?_⟩
      rw [text_pick]; unfold printX; rw [if_neg (by show ¬ (2 : Int) = 1; decide), if_pos (by rfl)]; rfl
    | one k ns a h1 h2 hn ha =>
      obtain ⟨xa, rfl⟩ : ∃ xa, ks = [xa] := List.length_eq_one_iff.1 (by rw [← pesX_length, hks]; rfl)
      obtain rfl : xa.pe = a := by simpa [pesX] using hks
      have hfa : xa.pe.fits := by unfold PE.fits fitsP at hf; exact hf.2.1
      obtain ⟨g1, g2⟩ := ih xa (by simp) (by rw [ha]; decide) hfa
      have h3 := namesF_facts hn
      refine ⟨⟨by show 1 ≤ kd; omega, by show kd ≤ 20; omega, by show I64 0; unfold I64; omega, fun e => absurd (show kd = 2 from e) (by omega), fun _ => ⟨h3.1, fun s hs => (wordF_sz (h3.2 s hs)).2, xa, rfl, g1⟩, fun _ e => absurd (show kd ≤ 16 from e) (by omega)⟩, ?_⟩
      rw [text_one _ _ h1, printX_one (x := .mk kd 0 mv [] nv ns kv [xa]) (a := xa) (o := (kd - 17).toNat) (by show ¬ kd = 1; omega) (by show ¬ kd = 2; omega) h1 rfl rfl, word_agg h1 h2, g2]
      rfl
    | two k a b h1 h2 ha hb =>
      obtain ⟨xa, xb, rfl⟩ : ∃ xa xb, ks = [xa, xb] := by
        have hl : ks.length = 2 := by rw [← pesX_length, hks]; rfl
        match ks, hl with
        | [xa, xb], _ => exact ⟨xa, xb, rfl⟩
      have he : xa.pe = a ∧ xb.pe = b := by simpa [pesX] using hks
      obtain ⟨rfl, rfl⟩ := he
      have hfs : xa.pe.fits ∧ xb.pe.fits := by unfold PE.fits fitsP fitsP at hf; exact ⟨hf.2.1, hf.2.2.1⟩
      obtain ⟨g1, g2⟩ := ih xa (by simp) ha hfs.1
      obtain ⟨g3, g4⟩ := ih xb (by simp) hb hfs.2
      refine ⟨⟨by show 1 ≤ kd; omega, by show kd ≤ 20; omega, by show I64 0; unfold I64; omega, fun e => absurd (show kd = 2 from e) (by omega), fun e => absurd (show 17 ≤ kd from e) (by omega), fun _ _ => ⟨xa, xb, rfl, g1, g3⟩⟩, ?_⟩
      rw [text_two _ _ h1 h2, printX_two (x := .mk kd 0 mv [] nv [] kv [xa, xb]) (a := xa) (b := xb) (o := (kd - 3).toNat) (by show ¬ kd = 1; omega) (by show ¬ kd = 2; omega) (by show ¬ 17 ≤ kd; omega) rfl rfl, sign_op h1 h2, g2, g4]
end Go.Proofs.YtcaapbbbekggiaaGreatDoor
