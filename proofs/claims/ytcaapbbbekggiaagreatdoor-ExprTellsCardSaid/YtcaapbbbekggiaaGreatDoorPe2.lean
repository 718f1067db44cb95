/- The text of a typed expression is cut into its tokens. -/
import Derived.Test.YtcaapbbbekggiaaGreatDoorPe
namespace Go.Proofs.YtcaapbbbekggiaaGreatDoor
open Go.ChangeShapes Go.WideShapes Go.ChangeAt Go.RowKit
set_option linter.unusedVariables false
set_option linter.unusedSimpArgs false
set_option maxRecDepth 100000
theorem allIn_at {s : ByteArray} : ∀ {n : Nat}, allIn s n = true → ∀ k, k < n → withinN (byteAt s k) = true
  | 0, _, k, hk => by omega
  | n + 1, h, k, hk => by
    unfold allIn at h
    rw [Bool.and_eq_true] at h
    by_cases e : k = n
    · rw [e]; exact h.2
    · exact allIn_at h.1 k (by omega)
theorem wordF_list {s : ByteArray} (h : wordF s = true) : ∃ c r, s.data.toList = c :: r ∧ smallN c.toNat = true ∧ (∀ y ∈ r, withinN y.toNat = true) ∧ r.length ≤ 23 := by
  simp only [wordF, Bool.and_eq_true, decide_eq_true_eq] at h
  obtain ⟨⟨⟨h1, h2⟩, h3⟩, h4⟩ := h
  have hl : s.data.toList.length = s.size := by simp
  obtain ⟨l, hs⟩ : ∃ l, s.data.toList = l := ⟨_, rfl⟩
  rw [hs] at hl ⊢
  have hat : ∀ k (hk : k < l.length), byteAt s k = (l[k]).toNat := fun k hk => by
    rw [byteAt_get (by omega)]
    subst hs; rfl
  cases l with
  | nil => simp at hl; omega
  | cons c r =>
    rw [List.length_cons] at hl
    refine ⟨c, r, rfl, ?_, fun y hy => ?_, by omega⟩
    · rw [hat 0 (by simp)] at h3; exact h3
    · obtain ⟨k, hk, rfl⟩ := List.mem_iff_getElem.1 hy
      have := allIn_at h4 (k + 1) (by omega)
      rw [hat (k + 1) (by simpa using hk)] at this
      exact this
theorem wordF_sz {s : ByteArray} (h : wordF s = true) : 1 ≤ s.size ∧ s.size ≤ 24 := by
  simp only [wordF, Bool.and_eq_true, decide_eq_true_eq] at h
  exact ⟨h.1.1.1, h.1.1.2⟩
theorem signF_k {k : Int} (h : ¬ signF k = ⟨#[]⟩) : 1 ≤ k ∧ k ≤ 4 := by
  by_cases hk : 1 ≤ k ∧ k ≤ 4
  · exact hk
  · exfalso; apply h
    unfold signF
    simp only [show ¬ k = 1 by omega, show ¬ k = 2 by omega, show ¬ k = 3 by omega, show ¬ k = 4 by omega, if_false]
theorem mtcOk_facts {x : Mtc} (h : mtcOk x = true) : wordF x.1 = true ∧ x.2.1.size ≤ 24 ∧ 1 ≤ x.2.2 ∧ x.2.2 ≤ 4 := by
  simp only [mtcOk, Bool.and_eq_true, decide_eq_true_eq, Bool.not_eq_true', decide_eq_false_iff_not] at h
  exact ⟨h.1, h.2.1, signF_k h.2.2⟩
theorem rightM_facts {l : List Mtc} (h : rightM l = true) : l.length ≤ 6 ∧ ∀ x ∈ l, wordF x.1 = true ∧ x.2.1.size ≤ 24 ∧ 1 ≤ x.2.2 ∧ x.2.2 ≤ 4 := by
  simp only [rightM, Bool.and_eq_true, decide_eq_true_eq] at h
  exact ⟨h.1, fun x hx => mtcOk_facts (List.all_eq_true.1 h.2 x hx)⟩
theorem namesOk_at {ns : List ByteArray} : ∀ {n : Nat}, namesOk ns n = true → ∀ k, k < n → nameAt ns k = true
  | 0, _, k, hk => by omega
  | n + 1, h, k, hk => by
    unfold namesOk at h
    rw [Bool.and_eq_true] at h
    by_cases e : k = n
    · rw [e]; exact h.2
    · exact namesOk_at h.1 k (by omega)
theorem namesF_facts {ns : List ByteArray} (h : namesF ns = true) : ns.length ≤ 6 ∧ ∀ x ∈ ns, wordF x = true := by
  simp only [namesF, Bool.and_eq_true, decide_eq_true_eq] at h
  refine ⟨h.1, fun x hx => ?_⟩
  obtain ⟨k, hk, rfl⟩ := List.mem_iff_getElem.1 hx
  have := namesOk_at h.2 k hk
  unfold nameAt at this
  rw [Bool.and_eq_true] at this
  simpa [hk] using this.1
theorem joinM_cons (m : Mtc) (l : List Mtc) : joinM (m :: l) = mtcL m ++ l.flatMap fun x => 44 :: mtcL x := by
  induction l generalizing m with
  | nil => simp [joinM]
  | cons y l ih =>
    rw [joinM, ih y]
    simp
theorem joinN_cons (m : ByteArray) (l : List ByteArray) : joinN (m :: l) = m.data.toList ++ l.flatMap fun x => 44 :: x.data.toList := by
  induction l generalizing m with
  | nil => simp [joinN]
  | cons y l ih =>
    rw [joinN, ih y]
    simp
theorem mtc_cutA {x : Mtc} {l rest : List UInt8} {us : List Tok} (hn : wordF x.1 = true ∧ x.2.1.size ≤ 24 ∧ 1 ≤ x.2.2 ∧ x.2.2 ≤ 4) (h : CutA l us rest) : CutA (mtcL x ++ l) (mtoks x ++ us) rest := by
  obtain ⟨hw, hv, h1, h4⟩ := hn
  obtain ⟨c, r, e, hc, hr, hl⟩ := wordF_list hw
  obtain ⟨hs, d, q, es, hd⟩ := signF_mem h1 h4
  have k1 := (h.text x.2.1 hv).sign (signF x.2.2) hs (fun c r e => by
    have : c = 34 := by unfold quoteL at e; exact head_is e
    rw [this]; exact signOk_quote _)
  have k2 := k1.word x.1 e hc hr hl (fun c' r' e' => by
    rw [es] at e'
    have : c' = d := head_is (show d :: (q ++ (quoteL x.2.1.data.toList ++ l) ++ rest) = c' :: r' by simpa using e')
    rw [this]; exact hd)
  unfold mtcL
  rw [List.append_assoc, List.append_assoc]
  exact k2
theorem comma_cutA {l rest : List UInt8} {us : List Tok} (h : CutA l us rest) : CutA (44 :: l) (sgT ⟨#[44]⟩ :: us) rest := h.sign1 44 (by simp [signsL]) (by decide) (by decide)
theorem msMore_cutA : ∀ (ms : List Mtc), (∀ x ∈ ms, wordF x.1 = true ∧ x.2.1.size ≤ 24 ∧ 1 ≤ x.2.2 ∧ x.2.2 ≤ 4) → ∀ {l rest : List UInt8} {us : List Tok}, CutA l us rest → CutA ((ms.flatMap fun x => 44 :: mtcL x) ++ l) (msMore ms ++ us) rest
  | [], _, _, _, _, h => h
  | m :: ms, hm, l, rest, us, h => by
    have ih := msMore_cutA ms (fun x hx => hm x (List.mem_cons_of_mem _ hx)) h
    have k := comma_cutA (mtc_cutA (hm m List.mem_cons_self) ih)
    unfold msMore
    rw [List.flatMap_cons, List.flatMap_cons, List.append_assoc, List.append_assoc]
    exact k
theorem ms_cutA {ms : List Mtc} (h : ∀ x ∈ ms, wordF x.1 = true ∧ x.2.1.size ≤ 24 ∧ 1 ≤ x.2.2 ∧ x.2.2 ≤ 4) {l rest : List UInt8} {us : List Tok} (hc : CutA l us rest) : CutA (joinM ms ++ l) (msToks ms ++ us) rest := by
  cases ms with
  | nil => exact hc
  | cons m ms =>
    rw [joinM_cons, msToks, List.append_assoc, List.append_assoc]
    exact mtc_cutA (h m List.mem_cons_self) (msMore_cutA ms (fun x hx => h x (List.mem_cons_of_mem _ hx)) hc)
theorem nsMore_cutA : ∀ (ns : List ByteArray), (∀ x ∈ ns, wordF x = true) → ∀ {l rest : List UInt8} {us : List Tok}, CutA (41 :: l) us rest → CutA ((ns.flatMap fun x => 44 :: x.data.toList) ++ 41 :: l) (nsMore ns ++ us) rest ∧ ∃ c r, (ns.flatMap fun x => 44 :: x.data.toList) ++ 41 :: l = c :: r ∧ withinN c.toNat = false
  | [], _, l, _, _, h => ⟨h, 41, l, rfl, by decide⟩
  | m :: ms, hm, l, rest, us, h => by
    obtain ⟨ih, d, q, ed, hd⟩ := nsMore_cutA ms (fun x hx => hm x (List.mem_cons_of_mem _ hx)) h
    obtain ⟨c, r, e, hc, hr, hl⟩ := wordF_list (hm m List.mem_cons_self)
    have k := comma_cutA (ih.word m e hc hr hl (fun c' r' e' => by
      rw [ed] at e'
      rw [head_is e']; exact hd))
    unfold nsMore
    rw [List.flatMap_cons, List.flatMap_cons, List.append_assoc, List.append_assoc]
    exact ⟨k, 44, _, rfl, by decide⟩
theorem ns_cutA {ns : List ByteArray} (h : ∀ x ∈ ns, wordF x = true) {l rest : List UInt8} {us : List Tok} (hc : CutA (41 :: l) us rest) : CutA (joinN ns ++ (41 :: l)) (nsToks ns ++ us) rest := by
  cases ns with
  | nil => exact hc
  | cons m ms =>
    obtain ⟨ih, d, q, ed, hd⟩ := nsMore_cutA ms (fun x hx => h x (List.mem_cons_of_mem _ hx)) hc
    obtain ⟨c, r, e, hc, hr, hl⟩ := wordF_list (h m List.mem_cons_self)
    rw [joinN_cons, nsToks, List.append_assoc]
    exact ih.word m e hc hr hl (fun c' r' e' => by
      rw [ed] at e'
      rw [head_is e']; exact hd)
theorem opX_cutA {k : Int} (h1 : 3 ≤ k) (h2 : k ≤ 16) {l rest : List UInt8} {us : List Tok} (hc : CutA l us rest) : CutA ((signX k).data.toList ++ (32 :: l)) (opT k :: us) rest := by
  have hb := hc.blank 32 (by decide)
  have hs : ∀ x : ByteArray, x ∈ signsL → CutA (x.data.toList ++ (32 :: l)) (sgT x :: us) rest := fun x hx => hb.sign x hx (fun c r e => by
    rw [head_is (show 32 :: (l ++ rest) = c :: r from e)]
    exact (by simpa [follow] using follow_blank (t := ⟨4, 0, 0, x⟩) (.inr (.inr (.inr ⟨rfl, rfl, hx⟩))) 32 (.inl rfl)))
  have hw : ∀ (x : ByteArray) (c : UInt8) (r : List UInt8), x.data.toList = c :: r → smallN c.toNat = true → (∀ y ∈ r, withinN y.toNat = true) → r.length ≤ 23 → CutA (x.data.toList ++ (32 :: l)) (wdT x :: us) rest := fun x c r e h1 h2 h3 =>
    hb.word x e h1 h2 h3 (fun d q e => by rw [head_is (show 32 :: (l ++ rest) = d :: q from e)]; decide)
  have : k = 3 ∨ k = 4 ∨ k = 5 ∨ k = 6 ∨ k = 7 ∨ k = 8 ∨ k = 9 ∨ k = 10 ∨ k = 11 ∨ k = 12 ∨ k = 13 ∨ k = 14 ∨ k = 15 ∨ k = 16 := by omega
  rcases this with rfl | rfl | rfl | rfl | rfl | rfl | rfl | rfl | rfl | rfl | rfl | rfl | rfl | rfl
  · exact hs ⟨#[43]⟩ (by simp [signsL])
  · exact hs ⟨#[45]⟩ (by simp [signsL])
  · exact hs ⟨#[42]⟩ (by simp [signsL])
  · exact hs ⟨#[47]⟩ (by simp [signsL])
  · exact hs ⟨#[37]⟩ (by simp [signsL])
  · exact hs ⟨#[61, 61]⟩ (by simp [signsL])
  · exact hs ⟨#[33, 61]⟩ (by simp [signsL])
  · exact hs ⟨#[60]⟩ (by simp [signsL])
  · exact hs ⟨#[60, 61]⟩ (by simp [signsL])
  · exact hs ⟨#[62]⟩ (by simp [signsL])
  · exact hs ⟨#[62, 61]⟩ (by simp [signsL])
  · exact hw ⟨#[97, 110, 100]⟩ 97 [110, 100] rfl (by decide) (by decide) (by simp)
  · exact hw ⟨#[111, 114]⟩ 111 [114] rfl (by decide) (by decide) (by simp)
  · exact hw ⟨#[117, 110, 108, 101, 115, 115]⟩ 117 [110, 108, 101, 115, 115] rfl (by decide) (by decide) (by simp)
theorem wordX_list {k : Int} (h1 : 17 ≤ k) (h2 : k ≤ 20) : ∃ c r, (wordX k).data.toList = c :: r ∧ smallN c.toNat = true ∧ (∀ y ∈ r, withinN y.toNat = true) ∧ r.length ≤ 23 := by
  have : k = 17 ∨ k = 18 ∨ k = 19 ∨ k = 20 := by omega
  rcases this with rfl | rfl | rfl | rfl
  · exact ⟨115, [117, 109], rfl, by decide, by decide, by simp⟩
  · exact ⟨109, [105, 110], rfl, by decide, by decide, by simp⟩
  · exact ⟨109, [97, 120], rfl, by decide, by decide, by simp⟩
  · exact ⟨99, [111, 117, 110, 116], rfl, by decide, by decide, by simp⟩
theorem paren_end (rest : List UInt8) : CutA [41] [sgT ⟨#[41]⟩] rest := (CutA.nil rest).sign1 41 (by simp [signsL]) (by decide) (by decide)
/-- The text of a typed expression is cut into its tokens. -/
theorem pe_cutA : ∀ (d : Nat) (x : PE), x.deep ≤ d → x.ty ≠ 0 → x.fits → ∀ rest, NoDigit rest → CutA x.text x.toks rest
  | 0, x, hd, _, _ => by
    obtain ⟨k, n, ms, ns, ks⟩ := x
    unfold PE.deep at hd; omega
  | d + 1, x, hd, ht, hf => fun rest hr => by
    cases ty_typed ht with
    | num n =>
      have hn : I64 n := by unfold PE.fits at hf; exact hf.1
      have h := (CutA.nil rest).num n hn (fun c r e => hr c r (by simpa using e))
      unfold PE.text PE.toks
      rw [if_pos rfl, if_pos rfl]
      rw [List.append_nil] at h
      exact h
    | pick n ms hm h1 h2 =>
      have hn : I64 n := by unfold PE.fits at hf; exact hf.1
      unfold PE.text PE.toks
      rw [if_neg (by decide), if_pos rfl, if_neg (by decide), if_pos rfl]
      have k1 : CutA [93] [sgT ⟨#[93]⟩] rest := (CutA.nil rest).sign1 93 (by simp [signsL]) (by decide) (by decide)
      have k2 := k1.num n hn (fun c q e => by rw [head_is (show 93 :: rest = c :: q from e)]; decide)
      have k3 := (k2.sign1 91 (by simp [signsL]) (by decide) (by decide)).sign1 125 (by simp [signsL]) (by decide) (by decide)
      exact (ms_cutA (rightM_facts hm).2 k3).sign1 123 (by simp [signsL]) (by decide) (by decide)
    | one k ns a h1 h2 hn ha =>
      have hfa : a.fits := by unfold PE.fits fitsP at hf; exact hf.2.1
      have hda : a.deep ≤ d := by unfold PE.deep deepsP at hd; simp [deepsP] at hd; omega
      have ih := pe_cutA d a hda (by rw [ha]; decide) hfa
      unfold PE.text PE.toks
      rw [if_neg (by omega), if_neg (by omega), if_pos h1, if_neg (by omega), if_neg (by omega), if_pos h1]
      simp only [textsP, toksP, List.headD_cons]
      obtain ⟨c, q, e, hcc, hqq, hll⟩ := wordX_list h1 h2
      have k2 := (ih ([41] ++ rest) (fun c q e => by rw [head_is (show 41 :: rest = c :: q from e)]; decide)).append (paren_end rest)
      have k3 := (k2.sign1 40 (by simp [signsL]) (by decide) (by decide)).blank 32 (by decide)
      have k4 := k3.sign1 41 (by simp [signsL]) (by decide) (by decide)
      have k5 := ns_cutA (namesF_facts hn).2 k4
      have k6 := (k5.sign1 40 (by simp [signsL]) (by decide) (by decide)).blank 32 (by decide)
      have k7 := (k6.word ⟨#[98, 121]⟩ (c := 98) (r := [121]) rfl (by decide) (by decide) (by simp) (fun c q e => by rw [head_is (show 32 :: _ = c :: q from e)]; decide)).blank 32 (by decide)
      exact k7.word (wordX k) e hcc hqq hll (fun c q e => by rw [head_is (show 32 :: _ = c :: q from e)]; decide)
    | two k a b h1 h2 ha hb =>
      have hfs : a.fits ∧ b.fits := by unfold PE.fits fitsP fitsP at hf; exact ⟨hf.2.1, hf.2.2.1⟩
      have hds : a.deep ≤ d ∧ b.deep ≤ d := by unfold PE.deep deepsP deepsP at hd; omega
      have iha := pe_cutA d a hds.1 ha hfs.1
      have ihb := pe_cutA d b hds.2 hb hfs.2
      unfold PE.text PE.toks
      rw [if_neg (by omega), if_neg (by omega), if_neg (by omega), if_neg (by omega), if_neg (by omega), if_neg (by omega)]
      simp only [textsP, toksP, List.headD_cons, List.drop_succ_cons, List.drop_zero]
      have k2 := (ihb ([41] ++ rest) (fun c q e => by rw [head_is (show 41 :: rest = c :: q from e)]; decide)).append (paren_end rest)
      have k3 := (opX_cutA h1 h2 k2).blank 32 (by decide)
      have k4 := (iha (32 :: ((signX k).data.toList ++ (32 :: (b.text ++ [41]))) ++ rest) (fun c q e => by rw [head_is (show 32 :: (((signX k).data.toList ++ (32 :: (b.text ++ [41]))) ++ rest) = c :: q from e)]; decide)).append k3
      exact k4.sign1 40 (by simp [signsL]) (by decide) (by decide)
end Go.Proofs.YtcaapbbbekggiaaGreatDoor
