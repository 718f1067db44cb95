/- The text of an expression of numbers is cut into tokens. -/
import Derived.Test.YtnkbpcenkbihpaaDoorTokMath3
import Derived.Test.YtnkbpcenkbihpaaDoorRefPrint2
namespace Go.Proofs.YtnkbpcenkbihpaaDoor
open Go.ChangeShapes Go.WideShapes Go.ChangeAt Go.RowKit
set_option linter.unusedVariables false
set_option linter.unusedSimpArgs false
set_option maxRecDepth 100000
/-- There are tokens, at most so many. -/
def Cuts (l : List UInt8) (n : Nat) (rest : List UInt8) : Prop := ∃ ts, CutR l ts rest ∧ ts.length ≤ n
theorem Cuts.nil (rest : List UInt8) : Cuts [] 0 rest := ⟨[], CutR.nil rest, Nat.le_refl _⟩
theorem Cuts.blank {l rest : List UInt8} {n : Nat} (b : UInt8) (hb : (b.toNat == 32 || b.toNat == 10) = true) (h : Cuts l n rest) : Cuts (b :: l) n rest := by
  obtain ⟨ts, h1, h2⟩ := h
  exact ⟨_, CutR.blank b hb h1, by rw [List.length_map]; exact h2⟩
theorem Cuts.tok {l rest : List UInt8} {n : Nat} (t : Tok) (ht : okTok t) (h0 : t.at_ = 0) (hf : FollowL t (l ++ rest)) (h : Cuts l n rest) : Cuts (tokL t ++ l) (n + 1) rest := by
  obtain ⟨ts, h1, h2⟩ := h
  exact ⟨_, CutR.tok t ht h0 hf h1, by rw [List.length_cons, List.length_map]; omega⟩
theorem Cuts.append {l l2 rest : List UInt8} {n m : Nat} (h : Cuts l n (l2 ++ rest)) (h2 : Cuts l2 m rest) : Cuts (l ++ l2) (n + m) rest := by
  obtain ⟨ts, h1, h3⟩ := h
  obtain ⟨us, h4, h5⟩ := h2
  exact ⟨_, h1.append h4 rfl, by rw [List.length_append, List.length_map]; omega⟩
theorem Cuts.more {l rest : List UInt8} {n m : Nat} (h : Cuts l n rest) (hm : n ≤ m) : Cuts l m rest := by
  obtain ⟨ts, h1, h2⟩ := h
  exact ⟨ts, h1, by omega⟩
/-- One sign ahead. -/
theorem Cuts.sign {l rest : List UInt8} {n : Nat} (x : ByteArray) (hx : x ∈ signsL) (hf : ∀ c r, l ++ rest = c :: r → signOk x.data.toList c = true) (h : Cuts l n rest) : Cuts (x.data.toList ++ l) (n + 1) rest :=
  h.tok ⟨4, 0, 0, x⟩ (.inr (.inr (.inr ⟨rfl, rfl, hx⟩))) rfl (fun c r e => hf c r e)
theorem Cuts.word {l rest : List UInt8} {n : Nat} (x : ByteArray) {c : UInt8} {r : List UInt8} (e : x.data.toList = c :: r) (hc : smallN c.toNat = true) (hr : ∀ y ∈ r, withinN y.toNat = true) (hl : r.length ≤ 23) (hf : ∀ c r, l ++ rest = c :: r → withinN c.toNat = false) (h : Cuts l n rest) : Cuts (x.data.toList ++ l) (n + 1) rest :=
  h.tok ⟨2, 0, 0, x⟩ (.inr (.inl ⟨rfl, rfl, c, r, e, hc, hr, hl⟩)) rfl (fun c r e => by show (!withinN c.toNat) = true; rw [hf c r e]; rfl)
theorem Cuts.text {l rest : List UInt8} {n : Nat} (x : ByteArray) (hx : x.size ≤ 24) (h : Cuts l n rest) : Cuts (quoteL x.data.toList ++ l) (n + 1) rest :=
  h.tok ⟨3, 0, 0, x⟩ (.inr (.inr (.inl ⟨rfl, rfl, hx⟩))) rfl (fun c r e => rfl)
theorem Cuts.num {l rest : List UInt8} {n : Nat} (z : Int) (hz : I64 z) (hf : ∀ c r, l ++ rest = c :: r → digitN c.toNat = false) (h : Cuts l n rest) : Cuts (Lib.itoa z ++ l) (n + 1) rest :=
  h.tok ⟨1, z, 0, ⟨#[]⟩⟩ (.inl ⟨rfl, hz, rfl⟩) rfl (fun c r e => by show (!digitN c.toNat) = true; rw [hf c r e]; rfl)
/-- No digit follows. -/
def NoDigit (rest : List UInt8) : Prop := ∀ c r, rest = c :: r → digitN c.toNat = false
theorem head_is {c d : UInt8} {l r : List UInt8} (e : d :: l = c :: r) : c = d := by injection e with e _; exact e.symm
/-- klaxonkeep's names are words. -/
theorem keepName_word2 {x : ByteArray} (h : x ∈ keepNames) : ∃ c r, x.data.toList = c :: r ∧ smallN c.toNat = true ∧ (∀ y ∈ r, withinN y.toNat = true) ∧ r.length ≤ 23 := by
  simp only [keepNames, List.mem_cons, List.not_mem_nil, or_false] at h
  rcases h with rfl | rfl | rfl | rfl
  · exact ⟨97, [], rfl, by decide, by simp, by simp⟩
  · exact ⟨98, [], rfl, by decide, by simp, by simp⟩
  · exact ⟨99, [], rfl, by decide, by simp, by simp⟩
  · exact ⟨110, [97, 109, 101], rfl, by decide, by decide, by simp⟩
theorem signF_mem {kd : Int} (h1 : 1 ≤ kd) (h4 : kd ≤ 4) : signF kd ∈ signsL ∧ ∃ c r, (signF kd).data.toList = c :: r ∧ withinN c.toNat = false := by
  have hk : kd = 1 ∨ kd = 2 ∨ kd = 3 ∨ kd = 4 := by omega
  rcases hk with rfl | rfl | rfl | rfl
  · exact ⟨(by simp [signsL] : (⟨#[61]⟩ : ByteArray) ∈ signsL), 61, [], rfl, by decide⟩
  · exact ⟨(by simp [signsL] : (⟨#[33, 61]⟩ : ByteArray) ∈ signsL), 33, [61], rfl, by decide⟩
  · exact ⟨(by simp [signsL] : (⟨#[94, 61]⟩ : ByteArray) ∈ signsL), 94, [61], rfl, by decide⟩
  · exact ⟨(by simp [signsL] : (⟨#[33, 94]⟩ : ByteArray) ∈ signsL), 33, [94], rfl, by decide⟩
theorem signOk_quote (s : List UInt8) : signOk s 34 = true := by
  unfold signOk
  split
  · decide
  · split
    · decide
    · rfl
/-- A matcher's text: three tokens. -/
theorem mtc_cuts {x : Mtc} {l rest : List UInt8} {n : Nat} (hn : x.1 ∈ keepNames) (hv : x.2.1.size ≤ 24) (h1 : 1 ≤ x.2.2) (h4 : x.2.2 ≤ 4) (h : Cuts l n rest) : Cuts (mtcL x ++ l) (n + 3) rest := by
  obtain ⟨c, r, e, hc, hr, hl⟩ := keepName_word2 hn
  obtain ⟨hs, d, q, es, hd⟩ := signF_mem h1 h4
  have k1 := (h.text x.2.1 hv).sign (signF x.2.2) hs (fun c r e => by
    have : c = 34 := by unfold quoteL at e; exact head_is e
    rw [this]; exact signOk_quote _)
  have k2 := k1.word x.1 e hc hr hl (fun c' r' e' => by
    rw [es] at e'
    have : c' = d := head_is (show d :: (q ++ (quoteL x.2.1.data.toList ++ l) ++ rest) = c' :: r' by simpa using e')
    rw [this]; exact hd)
  unfold mtcL
  rw [List.append_assoc, List.append_assoc]
  exact k2
theorem keepNames_mem {a : Nat} (h : a < 3) : keepNames.getD a ⟨#[]⟩ ∈ keepNames := by
  match a, h with
  | 0, _ => exact (show (⟨#[97]⟩ : ByteArray) ∈ keepNames by simp [keepNames])
  | 1, _ => exact (show (⟨#[98]⟩ : ByteArray) ∈ keepNames by simp [keepNames])
  | 2, _ => exact (show (⟨#[99]⟩ : ByteArray) ∈ keepNames by simp [keepNames])
theorem comma_cuts {l rest : List UInt8} {n : Nat} (h : Cuts l n rest) : Cuts (44 :: l) (n + 1) rest :=
  h.sign ⟨#[44]⟩ (by simp [signsL]) (fun c r e => by unfold signOk; rw [if_neg (by decide), if_neg (by decide)])
theorem sign1_cuts {l rest : List UInt8} {n : Nat} (b : UInt8) (hb : (⟨#[b]⟩ : ByteArray) ∈ signsL) (h1 : ¬ (b = 61 ∨ b = 60 ∨ b = 62)) (h2 : b ≠ 45) (h : Cuts l n rest) : Cuts (b :: l) (n + 1) rest :=
  h.sign ⟨#[b]⟩ hb (fun c r e => by
    unfold signOk
    rw [if_neg (fun h => h1 (by simpa using h)), if_neg (fun h => h2 (by simpa using h))])
/-- The matchers' texts. -/
theorem keepMs_cuts {ms : List Mtc} (h : keepMs ms) {l rest : List UInt8} {n : Nat} (hc : Cuts l n rest) : Cuts (joinM ms ++ l) (n + 7) rest := by
  obtain ⟨c, _, h⟩ := h
  have hn : (⟨#[110, 97, 109, 101]⟩ : ByteArray) ∈ keepNames := by simp [keepNames]
  have h1 : (⟨#[c]⟩ : ByteArray).size ≤ 24 := by show #[c].size ≤ 24; simp
  rcases h with rfl | ⟨a, q, kd, ha, hq, hk1, hk4, rfl⟩
  · have k := mtc_cuts (x := (⟨#[110, 97, 109, 101]⟩, ⟨#[c]⟩, 1)) hn h1 (Int.le_refl 1) (by omega : (1 : Int) ≤ 4) hc
    unfold joinM
    simp only [List.isEmpty_nil, if_true, List.append_nil]
    exact k.more (by omega)
  · have h3 := keepValue_size q (by omega)
    have k1 := mtc_cuts (x := (keepNames.getD a ⟨#[]⟩, keepValues.getD q ⟨#[]⟩, kd)) (keepNames_mem ha) (by show (keepValues.getD q ⟨#[]⟩).size ≤ 24; omega) hk1 hk4 hc
    have k2 := mtc_cuts (x := (⟨#[110, 97, 109, 101]⟩, ⟨#[c]⟩, 1)) hn h1 (Int.le_refl 1) (by omega : (1 : Int) ≤ 4) (comma_cuts k1)
    have e : joinM [(⟨#[110, 97, 109, 101]⟩, ⟨#[c]⟩, 1), (keepNames.getD a ⟨#[]⟩, keepValues.getD q ⟨#[]⟩, kd)] ++ l = mtcL (⟨#[110, 97, 109, 101]⟩, ⟨#[c]⟩, 1) ++ (44 :: (mtcL (keepNames.getD a ⟨#[]⟩, keepValues.getD q ⟨#[]⟩, kd) ++ l)) := by
      unfold joinM joinM joinM
      simp
    rw [e]
    exact k2.more (by omega)
/-- Names with commas between, a sign behind. -/
theorem joinN_cuts : ∀ (ns : List ByteArray), (∀ x ∈ ns, x ∈ keepNames) → ∀ {l rest : List UInt8} {n : Nat}, Cuts (41 :: l) n rest → Cuts (joinN ns ++ (41 :: l)) (n + 2 * ns.length) rest
  | [], _, l, rest, n, h => by simpa [joinN] using h
  | x :: ns, hm, l, rest, n, h => by
    obtain ⟨c, r, e, hc, hr, hl⟩ := keepName_word2 (hm x List.mem_cons_self)
    have ih := joinN_cuts ns (fun y hy => hm y (List.mem_cons_of_mem _ hy)) h
    unfold joinN
    cases ns with
    | nil =>
      simp only [List.isEmpty_nil, if_true, List.append_nil, List.length_singleton]
      exact (h.word x e hc hr hl (fun d q e => by rw [head_is (show 41 :: (l ++ rest) = d :: q from e)]; decide)).more (by omega)
    | cons y ns =>
      simp only [List.isEmpty_cons, Bool.false_eq_true, if_false, List.append_assoc]
      exact ((comma_cuts ih).word x e hc hr hl (fun d q e => by rw [head_is (show 44 :: (joinN (y :: ns) ++ 41 :: l ++ rest) = d :: q from e)]; decide)).more (by simp only [List.length_cons]; omega)
theorem aggs_word : ∀ o, o < 4 → ∃ c r, (aggsL.getD o ⟨#[]⟩).data.toList = c :: r ∧ smallN c.toNat = true ∧ (∀ y ∈ r, withinN y.toNat = true) ∧ r.length ≤ 23 := by
  intro o h
  match o, h with
  | 0, _ => exact ⟨115, [117, 109], rfl, by decide, by decide, by simp⟩
  | 1, _ => exact ⟨109, [105, 110], rfl, by decide, by decide, by simp⟩
  | 2, _ => exact ⟨109, [97, 120], rfl, by decide, by decide, by simp⟩
  | 3, _ => exact ⟨99, [111, 117, 110, 116], rfl, by decide, by decide, by simp⟩
/-- An operator, blanks on both sides. -/
theorem op_cuts {o : Nat} (h : o < 14) {l rest : List UInt8} {n : Nat} (hc : Cuts l n rest) : Cuts ((opsL.getD o ⟨#[]⟩).data.toList ++ (32 :: l)) (n + 1) rest := by
  have hb := hc.blank 32 (by decide)
  have hs : ∀ x : ByteArray, x ∈ signsL → Cuts (x.data.toList ++ (32 :: l)) (n + 1) rest := fun x hx => hb.sign x hx (fun c r e => by
    rw [head_is (show 32 :: (l ++ rest) = c :: r from e)]
    exact (by simpa [follow] using follow_blank (t := ⟨4, 0, 0, x⟩) (.inr (.inr (.inr ⟨rfl, rfl, hx⟩))) 32 (.inl rfl)))
  have hw : ∀ (x : ByteArray) (c : UInt8) (r : List UInt8), x.data.toList = c :: r → smallN c.toNat = true → (∀ y ∈ r, withinN y.toNat = true) → r.length ≤ 23 → Cuts (x.data.toList ++ (32 :: l)) (n + 1) rest := fun x c r e h1 h2 h3 =>
    hb.word x e h1 h2 h3 (fun d q e => by rw [head_is (show 32 :: (l ++ rest) = d :: q from e)]; decide)
  match o, h with
  | 0, _ => exact hs ⟨#[43]⟩ (by simp [signsL])
  | 1, _ => exact hs ⟨#[45]⟩ (by simp [signsL])
  | 2, _ => exact hs ⟨#[42]⟩ (by simp [signsL])
  | 3, _ => exact hs ⟨#[47]⟩ (by simp [signsL])
  | 4, _ => exact hs ⟨#[37]⟩ (by simp [signsL])
  | 5, _ => exact hs ⟨#[61, 61]⟩ (by simp [signsL])
  | 6, _ => exact hs ⟨#[33, 61]⟩ (by simp [signsL])
  | 7, _ => exact hs ⟨#[60]⟩ (by simp [signsL])
  | 8, _ => exact hs ⟨#[60, 61]⟩ (by simp [signsL])
  | 9, _ => exact hs ⟨#[62]⟩ (by simp [signsL])
  | 10, _ => exact hs ⟨#[62, 61]⟩ (by simp [signsL])
  | 11, _ => exact hw ⟨#[97, 110, 100]⟩ 97 [110, 100] rfl (by decide) (by decide) (by simp)
  | 12, _ => exact hw ⟨#[111, 114]⟩ 111 [114] rfl (by decide) (by decide) (by simp)
  | 13, _ => exact hw ⟨#[117, 110, 108, 101, 115, 115]⟩ 117 [110, 108, 101, 115, 115] rfl (by decide) (by decide) (by simp)
/-- An expression of two, its kids' texts ahead and behind. -/
theorem two_cuts {a b rest : List UInt8} {o n m : Nat} (ho : o < 14) (ha : ∀ r, NoDigit r → Cuts a n r) (hb : ∀ r, NoDigit r → Cuts b m r) : Cuts (40 :: (a ++ (32 :: ((opsL.getD o ⟨#[]⟩).data.toList ++ (32 :: (b ++ [41])))))) (n + m + 3) rest := by
  have k1 : Cuts [41] 1 rest := sign1_cuts 41 (by simp [signsL]) (by decide) (by decide) (Cuts.nil rest)
  have k2 := (hb ([41] ++ rest) (fun c r e => by rw [head_is (show 41 :: rest = c :: r from e)]; decide)).append k1
  have k3 := (op_cuts ho k2).blank 32 (by decide)
  have k4 := (ha (32 :: ((opsL.getD o ⟨#[]⟩).data.toList ++ (32 :: (b ++ [41]))) ++ rest) (fun c r e => by rw [head_is (show 32 :: (((opsL.getD o ⟨#[]⟩).data.toList ++ (32 :: (b ++ [41]))) ++ rest) = c :: r from e)]; decide)).append k3
  exact (sign1_cuts 40 (by simp [signsL]) (by decide) (by decide) k4).more (by omega)
theorem num_cuts {d : Nat} {x : XE} {hi : Int} (hhi : hi ≤ 9) (h : x.kd = 1 ∧ -3 ≤ x.n ∧ x.n ≤ hi ∧ x.ms = [] ∧ x.ns = [] ∧ x.kids = []) : ∀ r, NoDigit r → Cuts (printX (d + 1) x) 1 r := by
  intro r hr
  have e : printX (d + 1) x = Lib.itoa x.n ++ [] := by rw [printX, if_pos h.1, List.append_nil]
  rw [e]
  exact (Cuts.nil r).num x.n (by obtain ⟨_, h1, h2, _⟩ := h; unfold I64; omega) hr
theorem keepN_cuts : ∀ (d : Nat) (x : XE), keepN d x → ∃ n, 2 * (n + 3) ≤ 15 * 2 ^ d ∧ ∀ r, NoDigit r → Cuts (printX d x) n r
  | 0, _, h => h.elim
  | d + 1, x, h => by
    obtain ⟨hp1, hp2⟩ := (show 2 ^ (d + 1) = 2 ^ d + 2 ^ d ∧ 1 ≤ 2 ^ d from ⟨by rw [Nat.pow_succ]; omega, Nat.one_le_two_pow⟩)
    rcases h with h | ⟨h1, h2, h3, h4, h5, a, b, hk, ha, hb⟩
    · exact ⟨1, by omega, num_cuts (by omega) h⟩
    · have hd := keepN_pos hb
      obtain ⟨d', rfl⟩ : ∃ d', d = d' + 1 := ⟨d - 1, by omega⟩
      obtain ⟨m, hm, hc⟩ := keepN_cuts _ b hb
      refine ⟨1 + m + 3, by omega, fun r hr => ?_⟩
      rw [printX_two (o := (x.kd - 3).toNat) (by omega) (by omega) (by omega) hk rfl]
      exact two_cuts (by omega) (num_cuts (by omega) ha) hc
theorem keepV_cuts : ∀ (d : Nat) (x : XE), keepV d x → ∃ n, 2 * (n + 3) ≤ 15 * 2 ^ d ∧ ∀ r, NoDigit r → Cuts (printX d x) n r
  | 0, _, h => h.elim
  | d + 1, x, h => by
    obtain ⟨hp1, hp2⟩ := (show 2 ^ (d + 1) = 2 ^ d + 2 ^ d ∧ 1 ≤ 2 ^ d from ⟨by rw [Nat.pow_succ]; omega, Nat.one_le_two_pow⟩)
    rcases h with ⟨h1, h2, h3, h4, h5, h6⟩ | ⟨h1, h2, h3, h4, h5, a, b, hk, ha, hb⟩ | ⟨h1, h2, h3, h4, h5, a, b, hk, ha, hb⟩ | ⟨h1, h2, h3, h4, h5, a, b, hk, ha, hb⟩ | ⟨h1, h2, h3, h4, h5, a, hk, ha⟩
    · refine ⟨12, by omega, fun r hr => ?_⟩
      have e : printX (d + 1) x = 123 :: (joinM x.ms ++ (125 :: 91 :: (Lib.itoa x.n ++ [93]))) := by rw [printX, if_neg (by omega), if_pos h1]
      rw [e]
      have k1 : Cuts [93] 1 r := sign1_cuts 93 (by simp [signsL]) (by decide) (by decide) (Cuts.nil r)
      have k2 := k1.num x.n (by unfold I64; omega) (fun c q e => by rw [head_is (show 93 :: r = c :: q from e)]; decide)
      have k3 := sign1_cuts 125 (by simp [signsL]) (by decide) (by decide) (sign1_cuts 91 (by simp [signsL]) (by decide) (by decide) k2)
      exact (sign1_cuts 123 (by simp [signsL]) (by decide) (by decide) (keepMs_cuts h4 k3)).more (by omega)
    · have hd := keepV_pos ha
      obtain ⟨d', rfl⟩ : ∃ d', d = d' + 1 := ⟨d - 1, by omega⟩
      obtain ⟨m, hm, hc⟩ := keepV_cuts _ a ha
      have hq : 1 ≤ 2 ^ d' := Nat.one_le_two_pow
      have hq2 : 2 ^ (d' + 1) = 2 ^ d' + 2 ^ d' := by rw [Nat.pow_succ]; omega
      refine ⟨m + 1 + 3, by omega, fun r hr => ?_⟩
      rw [printX_two (o := (x.kd - 3).toNat) (by omega) (by omega) (by omega) hk rfl]
      exact two_cuts (by omega) hc (num_cuts (by omega) hb)
    · obtain ⟨m, hm, hc⟩ := keepV_cuts _ a ha
      obtain ⟨m2, hm2, hc2⟩ := keepV_cuts _ b hb
      refine ⟨m + m2 + 3, by omega, fun r hr => ?_⟩
      rw [printX_two (o := (x.kd - 3).toNat) (by omega) (by omega) (by omega) hk rfl]
      exact two_cuts (by omega) hc hc2
    · obtain ⟨m, hm, hc⟩ := keepV_cuts _ a ha
      obtain ⟨m2, hm2, hc2⟩ := keepN_cuts _ b hb
      refine ⟨m + m2 + 3, by omega, fun r hr => ?_⟩
      rw [printX_two (o := (x.kd - 3).toNat) (by omega) (by omega) (by omega) hk rfl]
      exact two_cuts (by omega) hc hc2
    · have hd := keepV_pos ha
      obtain ⟨d', rfl⟩ : ∃ d', d = d' + 1 := ⟨d - 1, by omega⟩
      have hq : 1 ≤ 2 ^ d' := Nat.one_le_two_pow
      have hq2 : 2 ^ (d' + 1) = 2 ^ d' + 2 ^ d' := by rw [Nat.pow_succ]; omega
      obtain ⟨m, hm, hc⟩ := keepV_cuts _ a ha
      have hn4 := h5.length_le
      refine ⟨m + 14, by omega, fun r hr => ?_⟩
      rw [printX_one (o := (x.kd - 17).toNat) (by omega) (by omega) (by omega) hk rfl]
      obtain ⟨c, q, e, hcc, hqq, hll⟩ := aggs_word (x.kd - 17).toNat (by omega)
      have k1 : Cuts [41] 1 r := sign1_cuts 41 (by simp [signsL]) (by decide) (by decide) (Cuts.nil r)
      have k2 := (hc ([41] ++ r) (fun c q e => by rw [head_is (show 41 :: r = c :: q from e)]; decide)).append k1
      have k3 := (sign1_cuts 40 (by simp [signsL]) (by decide) (by decide) k2).blank 32 (by decide)
      have k4 := sign1_cuts 41 (by simp [signsL]) (by decide) (by decide) k3
      have k5 := joinN_cuts x.ns (fun y hy => h5.subset hy) k4
      have k6 := (sign1_cuts 40 (by simp [signsL]) (by decide) (by decide) k5).blank 32 (by decide)
      have k7 := (k6.word ⟨#[98, 121]⟩ (c := 98) (r := [121]) rfl (by decide) (by decide) (by simp) (fun c q e => by rw [head_is (show 32 :: _ = c :: q from e)]; decide)).blank 32 (by decide)
      have k8 := k7.word (aggsL.getD (x.kd - 17).toNat ⟨#[]⟩) e hcc hqq hll (fun c q e => by rw [head_is (show 32 :: _ = c :: q from e)]; decide)
      have h44 : keepNames.length = 4 := rfl
      exact k8.more (by omega)
/-- The text of an expression of numbers, and its tokens. -/
theorem keepV_toks {x : XE} (h : keepV 5 x) : ∃ ts, tokF (printX 5 x) = (ts, (printX 5 x).length) ∧ ts.length ≤ 237 ∧ ∀ t ∈ ts, okTok t := by
  obtain ⟨n, hn, hc⟩ := keepV_cuts 5 x h
  obtain ⟨ts, h1, h2⟩ := hc [] (fun c r e => by cases e)
  have h3 : (2 : Nat) ^ 5 = 32 := rfl
  exact ⟨ts, h1.tokF (by omega), by omega, h1.ok⟩
end Go.Proofs.YtnkbpcenkbihpaaDoor
