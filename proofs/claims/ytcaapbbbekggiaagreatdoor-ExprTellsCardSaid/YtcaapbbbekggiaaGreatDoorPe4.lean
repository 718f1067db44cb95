/- A typed expression's text is parsed to it; what klaxonkeep makes is typed. -/
import Derived.Test.YtcaapbbbekggiaaGreatDoorPe3
import Derived.Test.YtcaapbbbekggiaaGreatDoorDeep
import Derived.Test.YtcaapbbbekggiaaGreatDoorWriteX
import Derived.Test.YtcaapbbbekggiaaGreatDoorParseX
namespace Go.Proofs.YtcaapbbbekggiaaGreatDoor
open Go.ChangeShapes Go.WideShapes Go.ChangeAt Go.RowKit
set_option linter.unusedVariables false
set_option linter.unusedSimpArgs false
set_option maxRecDepth 100000
theorem AlikeL.symm_len {l m : List Tok} (h : AlikeL l m) : m.length = l.length := h.len.symm
/-- Tokens that stand for it are read as it. -/
theorem readF_back {x : PE} {ts : List Tok} (en : Int) (ht : x.ty ≠ 0) (hd : x.deep ≤ 8) (ha : AlikeL ts x.toks) : readF ts en ts.length = (x, 0, 0) := by
  have h := reads_pe (en := en) (fa := 0) (n := ts.length) rfl 8 x 0 [] hd ht (by rw [List.append_nil]; exact At.of_alike ha)
  unfold readF
  simp only
  rw [h]
  have hp : ¬ (0 + x.toks.length < ts.length) := by rw [ha.len]; omega
  simp only
  rw [if_neg hp, if_neg (by simp), if_neg ht]
theorem parse_back {x : PE} (ht : x.ty ≠ 0) (hd : x.deep ≤ 8) (hf : x.fits) (hl : x.toks.length ≤ 400) : parseF x.text = (x, 0, 0) := by
  obtain ⟨ts, h1, h2⟩ := pe_cutA 8 x hd ht hf [] (fun c r e => by cases e)
  have h3 := h1.tokF (by rw [h2.len]; exact hl)
  unfold parseF
  rw [h3]
  simp only
  rw [if_neg (by omega)]
  exact readF_back _ ht hd h2
theorem xe_pe (x : XE) : x.pe = .mk x.kd x.n x.ms x.ns (pesX x.kids) := by cases x; rfl
theorem keepName_wordF {s : ByteArray} (h : s ∈ keepNames) : wordF s = true := by
  simp only [keepNames, List.mem_cons, List.not_mem_nil, or_false] at h
  rcases h with rfl | rfl | rfl | rfl <;> rfl
theorem keepNs_namesF {ns : List ByteArray} (h : keepNs ns) : namesF ns = true := by
  unfold keepNs keepNames at h
  simp only [List.sublist_cons_iff, List.sublist_nil] at h
  rcases h with ((((rfl | ⟨r, rfl, rfl⟩) | ⟨r, rfl, (rfl | ⟨r2, rfl, rfl⟩)⟩) | ⟨r, rfl, ((rfl | ⟨r2, rfl, rfl⟩) | ⟨r2, rfl, (rfl | ⟨r3, rfl, rfl⟩)⟩)⟩) | ⟨r, rfl, (((rfl | ⟨r2, rfl, rfl⟩) | ⟨r2, rfl, (rfl | ⟨r3, rfl, rfl⟩)⟩) | ⟨r2, rfl, ((rfl | ⟨r3, rfl, rfl⟩) | ⟨r3, rfl, (rfl | ⟨r4, rfl, rfl⟩)⟩)⟩)⟩) <;> decide
theorem signF_full {k : Int} (h1 : 1 ≤ k) (h4 : k ≤ 4) : ¬ signF k = ⟨#[]⟩ := by
  have hk : k = 1 ∨ k = 2 ∨ k = 3 ∨ k = 4 := by omega
  rcases hk with rfl | rfl | rfl | rfl <;> decide
theorem mtcOk_of {x : Mtc} (h1 : wordF x.1 = true) (h2 : x.2.1.size ≤ 24) (h3 : 1 ≤ x.2.2) (h4 : x.2.2 ≤ 4) : mtcOk x = true := by
  unfold mtcOk
  rw [h1, decide_eq_true h2, decide_eq_false (signF_full h3 h4)]; rfl
theorem keepMs_right {ms : List Mtc} (h : keepMs ms) : rightM ms = true ∧ (msToks ms).length ≤ 7 := by
  obtain ⟨c, _, h⟩ := h
  have h1 : (⟨#[c]⟩ : ByteArray).size ≤ 24 := by show #[c].size ≤ 24; simp
  have e1 : mtcOk (⟨#[110, 97, 109, 101]⟩, ⟨#[c]⟩, 1) = true := mtcOk_of (by rfl) h1 (by show (1 : Int) ≤ 1; decide) (by show (1 : Int) ≤ 4; decide)
  rcases h with rfl | ⟨a, q, kd, ha, hq, hk1, hk4, rfl⟩
  · exact ⟨by unfold rightM; simp [e1], by simp [msToks, mtoks, msMore]⟩
  · have h3 := keepValue_size q (by omega)
    have e2 : mtcOk (keepNames.getD a ⟨#[]⟩, keepValues.getD q ⟨#[]⟩, kd) = true := mtcOk_of (keepName_wordF (keepNames_mem ha)) (by show (keepValues.getD q ⟨#[]⟩).size ≤ 24; omega) hk1 hk4
    refine ⟨?_, by simp [msToks, mtoks, msMore]⟩
    unfold rightM
    rw [List.all_cons, List.all_cons, e1, e2]; rfl
/-- What is told of what klaxonkeep makes. -/
structure KeepFacts (d : Nat) (t : Int) (x : PE) : Prop where
  ty : x.ty = t
  fits : x.fits
  small : x.small
  deep : x.deep ≤ d
  toks : 2 * (x.toks.length + 3) ≤ 15 * 2 ^ d
theorem toks_one (kk nn : Int) (h : 17 ≤ kk) (ms : List Mtc) (ns : List ByteArray) (a : PE) : (PE.mk kk nn ms ns [a]).toks = wdT (wordX kk) :: wdT ⟨#[98, 121]⟩ :: sgT ⟨#[40]⟩ :: (nsToks ns ++ (sgT ⟨#[41]⟩ :: sgT ⟨#[40]⟩ :: (a.toks ++ [sgT ⟨#[41]⟩]))) := by
  conv => lhs; unfold PE.toks
  rw [if_neg (by omega), if_neg (by omega), if_pos h]; rfl
theorem toks_two (kk nn : Int) (h1 : 3 ≤ kk) (h2 : kk ≤ 16) (ms : List Mtc) (ns : List ByteArray) (a b : PE) : (PE.mk kk nn ms ns [a, b]).toks = sgT ⟨#[40]⟩ :: (a.toks ++ (opT kk :: (b.toks ++ [sgT ⟨#[41]⟩]))) := by
  conv => lhs; unfold PE.toks
  rw [if_neg (by omega), if_neg (by omega), if_neg (by omega)]; rfl
theorem num_facts (d : Nat) {n : Int} (h : I64 n) : KeepFacts (d + 1) 1 (.mk 1 n [] [] []) := by
  have hp : 1 ≤ 2 ^ d := Nat.one_le_two_pow
  have hp1 : 2 ^ (d + 1) = 2 ^ d + 2 ^ d := by rw [Nat.pow_succ]; omega
  refine ⟨rfl, by unfold PE.fits fitsP; exact ⟨h, trivial⟩, by unfold PE.small smallP; exact ⟨by simp, by simp, by simp, trivial⟩, by unfold PE.deep deepsP; omega, ?_⟩
  have e : (PE.mk 1 n [] [] []).toks.length = 1 := rfl
  rw [e]; omega
theorem two_facts {d n m : Nat} {k t ta tb : Int} {a b : PE} (h1 : 3 ≤ k) (h2 : k ≤ 16) (ha : KeepFacts d ta a) (hb : KeepFacts d tb b) (ht : twoT k [] [ta, tb] = t) : KeepFacts (d + 1) t (.mk k 0 [] [] [a, b]) := by
  have hp1 : 2 ^ (d + 1) = 2 ^ d + 2 ^ d := by rw [Nat.pow_succ]; omega
  refine ⟨?_, ?_, ?_, ?_, ?_⟩
  · unfold PE.ty
    rw [if_neg (by omega), if_neg (by omega), if_neg (by simp), word_none (by omega), if_neg (by simp), if_pos (sign_is h1 h2)]
    simp only [tysP]; rw [ha.ty, hb.ty]; exact ht
  · unfold PE.fits fitsP fitsP fitsP; exact ⟨by unfold I64; omega, ha.fits, hb.fits, trivial⟩
  · unfold PE.small smallP smallP smallP; exact ⟨by simp, by simp, by simp, ha.small, hb.small, trivial⟩
  · have := ha.deep; have := hb.deep
    unfold PE.deep deepsP deepsP deepsP; omega
  · have := ha.toks; have := hb.toks
    rw [toks_two _ _ h1 h2]
    simp only [List.length_cons, List.length_append, List.length_nil]; omega
theorem keepN_facts : ∀ (d : Nat) (x : XE), keepN d x → KeepFacts d 1 x.pe
  | 0, _, h => h.elim
  | d + 1, x, h => by
    rcases h with ⟨h1, h2, h3, h4, h5, h6⟩ | ⟨h1, h2, h3, h4, h5, a, b, hk, ⟨a1, a2, a3, a4, a5, a6⟩, hb⟩
    · rw [xe_pe, h1, h4, h5, h6]; exact num_facts d (by unfold I64; omega)
    · have hd := keepN_pos hb
      obtain ⟨d', rfl⟩ : ∃ d', d = d' + 1 := ⟨d - 1, by omega⟩
      rw [xe_pe, h3, h4, h5, hk]
      show KeepFacts _ 1 (.mk x.kd 0 [] [] [a.pe, b.pe])
      have ha : KeepFacts (d' + 1) 1 a.pe := by rw [xe_pe, a1, a4, a5, a6]; exact num_facts d' (by unfold I64; omega)
      refine two_facts (n := 0) (m := 0) h1 (by omega) ha (keepN_facts _ b hb) ?_
      unfold twoT
      simp only
      rw [if_neg (by decide), if_pos (by refine ⟨by omega, ?_, ?_⟩ <;> trivial)]
theorem keepV_facts : ∀ (d : Nat) (x : XE), keepV d x → KeepFacts d 2 x.pe
  | 0, _, h => h.elim
  | d + 1, x, h => by
    rcases h with ⟨h1, h2, h3, h4, h5, h6⟩ | ⟨h1, h2, h3, h4, h5, a, b, hk, ha, ⟨b1, b2, b3, b4, b5, b6⟩⟩ | ⟨h1, h2, h3, h4, h5, a, b, hk, ha, hb⟩ | ⟨h1, h2, h3, h4, h5, a, b, hk, ha, hb⟩ | ⟨h1, h2, h3, h4, h5, a, hk, ha⟩
    · rw [xe_pe, h1, h5, h6]
      show KeepFacts _ 2 (.mk 2 x.n x.ms [] [])
      obtain ⟨hr, hl⟩ := keepMs_right h4
      have h6' := (rightM_facts hr).1
      have hp : 1 ≤ 2 ^ d := Nat.one_le_two_pow
      have hp1 : 2 ^ (d + 1) = 2 ^ d + 2 ^ d := by rw [Nat.pow_succ]; omega
      refine ⟨?_, by unfold PE.fits fitsP; exact ⟨by unfold I64; omega, trivial⟩, by unfold PE.small smallP; exact ⟨by omega, by simp, by simp, trivial⟩, by unfold PE.deep deepsP; omega, ?_⟩
      · unfold PE.ty
        rw [if_neg (by decide), if_pos rfl, if_pos ⟨by simp, hr, h2, by omega⟩]
      · unfold PE.toks
        rw [if_neg (by decide), if_pos rfl]
        simp only [List.length_cons, List.length_append, List.length_nil]; omega
    · have hd := keepV_pos ha
      obtain ⟨d', rfl⟩ : ∃ d', d = d' + 1 := ⟨d - 1, by omega⟩
      rw [xe_pe, h3, h4, h5, hk]
      show KeepFacts _ 2 (.mk x.kd 0 [] [] [a.pe, b.pe])
      have hb : KeepFacts (d' + 1) 1 b.pe := by rw [xe_pe, b1, b4, b5, b6]; exact num_facts d' (by unfold I64; omega)
      refine two_facts (n := 0) (m := 0) (by omega) (by omega) (keepV_facts _ a ha) hb ?_
      unfold twoT
      simp only
      rw [if_neg (by decide), if_neg (by omega), if_neg (by omega), if_neg (by omega), if_neg (by omega)]
    · rw [xe_pe, h3, h4, h5, hk]
      show KeepFacts _ 2 (.mk x.kd 0 [] [] [a.pe, b.pe])
      refine two_facts (n := 0) (m := 0) h1 h2 (keepV_facts _ a ha) (keepV_facts _ b hb) ?_
      unfold twoT
      simp only
      rw [if_neg (by decide), if_neg (by omega)]
      by_cases h7 : x.kd ≤ 7
      · rw [if_pos h7]
      · rw [if_neg h7, if_neg (by omega), if_neg (by omega)]
    · rw [xe_pe, h3, h4, h5, hk]
      show KeepFacts _ 2 (.mk x.kd 0 [] [] [a.pe, b.pe])
      refine two_facts (n := 0) (m := 0) h1 (by omega) (keepV_facts _ a ha) (keepN_facts _ b hb) ?_
      unfold twoT
      simp only
      rw [if_neg (by decide), if_neg (by omega), if_pos h2]
    · have hd := keepV_pos ha
      obtain ⟨d', rfl⟩ : ∃ d', d = d' + 1 := ⟨d - 1, by omega⟩
      have hfa := keepV_facts _ a ha
      have hp : 1 ≤ 2 ^ d' := Nat.one_le_two_pow
      have hp1 : 2 ^ (d' + 1) = 2 ^ d' + 2 ^ d' := by rw [Nat.pow_succ]; omega
      have hp2 : 2 ^ (d' + 1 + 1) = 2 ^ (d' + 1) + 2 ^ (d' + 1) := by rw [Nat.pow_succ]; omega
      have hn := keepNs_namesF h5
      have hnl := (keepNs_good h5).1
      rw [xe_pe, h3, h4, hk]
      show KeepFacts _ 2 (.mk x.kd 0 [] x.ns [a.pe])
      refine ⟨?_, ?_, ?_, ?_, ?_⟩
      · unfold PE.ty
        rw [if_neg (by omega), if_neg (by omega), if_neg (by simp), if_pos (word_is h1 h2)]
        unfold oneT
        rw [if_pos ⟨hn, by simp only [tysP]; rw [hfa.ty]⟩]
      · unfold PE.fits fitsP fitsP; exact ⟨by unfold I64; omega, hfa.fits, trivial⟩
      · unfold PE.small smallP smallP; exact ⟨by simp, by omega, by simp, hfa.small, trivial⟩
      · have := hfa.deep
        unfold PE.deep deepsP deepsP; omega
      · have := hfa.toks
        have hnt : (nsToks x.ns).length ≤ 7 := by
          have key : ∀ l : List ByteArray, (nsMore l).length = 2 * l.length := fun l => by
            induction l with
            | nil => rfl
            | cons z l ih => simp only [nsMore, List.flatMap_cons, List.length_append, List.length_cons, List.length_nil] at ih ⊢; omega
          cases hx : x.ns with
          | nil => simp [nsToks]
          | cons z l =>
            rw [hx] at hnl
            have := key l
            simp only [nsToks, List.length_cons] at hnl ⊢; omega
        rw [toks_one _ _ h1]
        simp only [List.length_cons, List.length_append, List.length_nil]; omega
end Go.Proofs.YtcaapbbbekggiaaGreatDoor
