/- The tokens of a typed expression are read as it. -/
import Derived.Test.YtcaapbbbekggiaaGreatDoorPe2
namespace Go.Proofs.YtcaapbbbekggiaaGreatDoor
open Go.ChangeShapes Go.WideShapes Go.ChangeAt Go.RowKit
set_option linter.unusedVariables false
set_option linter.unusedSimpArgs false
set_option maxRecDepth 100000
/-- From place p on tokens alike these stand. -/
def At (ts : List Tok) (p : Nat) (us : List Tok) : Prop := ∀ i (h : i < us.length), ∃ t, ts[p + i]? = some t ∧ alike t us[i]
theorem At.nil (ts : List Tok) (p : Nat) : At ts p [] := fun i h => absurd h (by simp)
theorem At.left {ts : List Tok} {p : Nat} {us vs : List Tok} (h : At ts p (us ++ vs)) : At ts p us := fun i hi => by
  obtain ⟨t, h1, h2⟩ := h i (by rw [List.length_append]; omega)
  rw [List.getElem_append_left hi] at h2
  exact ⟨t, h1, h2⟩
theorem At.right {ts : List Tok} {p : Nat} {us vs : List Tok} (h : At ts p (us ++ vs)) : At ts (p + us.length) vs := fun i hi => by
  obtain ⟨t, h1, h2⟩ := h (us.length + i) (by rw [List.length_append]; omega)
  rw [List.getElem_append_right (by omega)] at h2
  simp only [Nat.add_sub_cancel_left] at h2
  exact ⟨t, by rw [Nat.add_assoc]; exact h1, h2⟩
theorem At.app {ts : List Tok} {p : Nat} {us vs : List Tok} (h : At ts p us) (k : At ts (p + us.length) vs) : At ts p (us ++ vs) := fun i hi => by
  by_cases hl : i < us.length
  · obtain ⟨t, h1, h2⟩ := h i hl
    exact ⟨t, h1, by rw [List.getElem_append_left hl]; exact h2⟩
  · rw [List.length_append] at hi
    obtain ⟨t, h1, h2⟩ := k (i - us.length) (by omega)
    exact ⟨t, by rw [← h1]; congr 1; omega, by rw [List.getElem_append_right (by omega)]; exact h2⟩
theorem At.tail {ts : List Tok} {p : Nat} {u : Tok} {vs : List Tok} (h : At ts p (u :: vs)) : At ts (p + 1) vs := At.right (us := [u]) h
theorem At.head {ts : List Tok} {p : Nat} {u : Tok} {vs : List Tok} (h : At ts p (u :: vs)) : ∃ t, ts[p]? = some t ∧ alike t u := h 0 (by simp)
theorem At.cons {ts : List Tok} {p : Nat} {u : Tok} {vs : List Tok} (h : ∃ t, ts[p]? = some t ∧ alike t u) (k : At ts (p + 1) vs) : At ts p (u :: vs) := At.app (us := [u]) (fun i hi => by
  have : i = 0 := by simpa using hi
  subst this; exact h) k
theorem At.lt {ts : List Tok} {p : Nat} {us : List Tok} (h : At ts p us) : us = [] ∨ p + us.length ≤ ts.length := by
  cases us with
  | nil => exact .inl rfl
  | cons u us =>
    refine .inr ?_
    obtain ⟨t, h1, _⟩ := h us.length (by simp)
    have := (List.getElem?_eq_some_iff.1 h1).1
    rw [List.length_cons]; omega
theorem At.of_alike {ts us : List Tok} (h : AlikeL ts us) : At ts 0 us := fun i hi => by
  have hl := h.len
  exact ⟨ts[i]'(by omega), by rw [Nat.zero_add]; exact List.getElem?_eq_getElem _, h.get i _ _⟩
section
variable {ts : List Tok} {en : Int} {p : Nat} {fa : Int} {u : Tok} {vs : List Tok}
theorem at_peek (h : At ts p (u :: vs)) : ∃ t, peekF ts ⟨p, fa, 0⟩ = t ∧ alike t u := by
  obtain ⟨t, h1, h2⟩ := h.head
  exact ⟨t, by unfold peekF; rw [if_pos rfl]; show (ts[p]?).getD zeroT = t; rw [h1]; rfl, h2⟩
theorem at_is (h : At ts p (u :: vs)) (kd : Int) (tx : ByteArray) : isF ts ⟨p, fa, 0⟩ kd tx = (decide (u.kd = kd) && decide (u.tx = tx)) := by
  obtain ⟨t, h1, h2⟩ := at_peek (fa := fa) h
  unfold isF Tok.same
  rw [h1, h2.1, h2.2.2]
theorem at_must (h : At ts p (u :: vs)) {kd : Int} {tx : ByteArray} (h1 : u.kd = kd) (h2 : u.tx = tx) : mustF ts en ⟨p, fa, 0⟩ kd tx = ⟨p + 1, fa, 0⟩ := by
  unfold mustF
  rw [at_is h, decide_eq_true h1, decide_eq_true h2]; rfl
theorem at_take (h : At ts p (u :: vs)) {kd : Int} (h1 : u.kd = kd) : ∃ t, takeF ts en ⟨p, fa, 0⟩ kd = (t, ⟨p + 1, fa, 0⟩) ∧ t.n = u.n ∧ t.tx = u.tx := by
  obtain ⟨t, h2, h3⟩ := at_peek (fa := fa) h
  refine ⟨t, ?_, h3.2.1, h3.2.2⟩
  unfold takeF
  rw [h2, if_pos (by rw [h3.1]; exact h1)]; rfl
end
theorem at_op {ts : List Tok} {en : Int} {p : Nat} {fa : Int} {k : Int} {vs : List Tok} (h1 : 1 ≤ k) (h4 : k ≤ 4) (h : At ts p (sgT (signF k) :: vs)) : opF ts en ⟨p, fa, 0⟩ = (k, ⟨p + 1, fa, 0⟩) := by
  have hk : k = 1 ∨ k = 2 ∨ k = 3 ∨ k = 4 := by omega
  unfold opF
  rw [at_is h, at_is h, at_is h, at_is h]
  rcases hk with rfl | rfl | rfl | rfl <;> rfl
theorem at_mtc {ts : List Tok} {en : Int} {p : Nat} {fa : Int} {x : Mtc} {vs : List Tok} (h1 : 1 ≤ x.2.2) (h4 : x.2.2 ≤ 4) (h : At ts p (mtoks x ++ vs)) : matcherF ts en ⟨p, fa, 0⟩ = (x, ⟨p + 3, fa, 0⟩) := by
  obtain ⟨n, v, k⟩ := x
  have h' : At ts p (wdT n :: sgT (signF k) :: txT v :: vs) := h
  obtain ⟨t1, e1, _, x1⟩ := at_take (en := en) (fa := fa) h' (kd := 2) rfl
  obtain ⟨t3, e3, _, x3⟩ := at_take (en := en) (fa := fa) h'.tail.tail (kd := 3) rfl
  have e2 := at_op (en := en) (fa := fa) h1 h4 h'.tail
  unfold matcherF
  rw [e1]
  simp only
  rw [e2]
  simp only
  rw [e3]
  simp only
  rw [x1, x3]; rfl
theorem at_ms {ts : List Tok} {en : Int} {fa : Int} : ∀ (l acc : List Mtc) (f p : Nat) (vs : List Tok), (∀ x ∈ l, 1 ≤ x.2.2 ∧ x.2.2 ≤ 4) → acc ≠ [] → l.length < f → At ts p (msMore l ++ (sgT ⟨#[125]⟩ :: vs)) → msF ts en f acc ⟨p, fa, 0⟩ = (acc ++ l, ⟨p + (msMore l).length + 1, fa, 0⟩)
  | [], acc, f, p, vs, _, ha, hf, h => by
    cases f with
    | zero => simp at hf
    | succ f =>
      unfold msF
      rw [if_pos rfl, if_pos (by rw [at_is (vs := vs) h]; rfl), List.append_nil]; rfl
  | m :: l, acc, f, p, vs, hm, ha, hf, h => by
    cases f with
    | zero => simp at hf
    | succ f =>
      have h' : At ts p (sgT ⟨#[44]⟩ :: (mtoks m ++ (msMore l ++ (sgT ⟨#[125]⟩ :: vs)))) := by
        have e : msMore (m :: l) ++ (sgT ⟨#[125]⟩ :: vs) = sgT ⟨#[44]⟩ :: (mtoks m ++ (msMore l ++ (sgT ⟨#[125]⟩ :: vs))) := by simp [msMore]
        rw [← e]; exact h
      have hk := hm m List.mem_cons_self
      have h0 : acc.length ≠ 0 := fun e => ha (List.eq_nil_of_length_eq_zero e)
      have e1 := at_must (en := en) (fa := fa) h' (kd := 4) (tx := ⟨#[44]⟩) rfl rfl
      have e2 := at_mtc (en := en) (fa := fa) hk.1 hk.2 h'.tail
      have ih := at_ms (en := en) (fa := fa) l (acc ++ [m]) f (p + 1 + 3) vs (fun x hx => hm x (List.mem_cons_of_mem _ hx)) (by simp) (by simpa using hf) (At.right (us := mtoks m) h'.tail)
      unfold msF
      rw [if_pos rfl, if_neg (by rw [at_is h']; simp [sgT]), if_neg h0, e1, e2]
      simp only
      rw [ih, List.append_assoc]
      congr 2
      simp [msMore, mtoks]; omega
theorem at_ms0 {ts : List Tok} {en : Int} {fa : Int} (l : List Mtc) (f p : Nat) (vs : List Tok) (hm : ∀ x ∈ l, 1 ≤ x.2.2 ∧ x.2.2 ≤ 4) (hf : l.length < f) (h : At ts p (msToks l ++ (sgT ⟨#[125]⟩ :: vs))) : msF ts en f [] ⟨p, fa, 0⟩ = (l, ⟨p + (msToks l).length + 1, fa, 0⟩) := by
  cases f with
  | zero => simp at hf
  | succ f =>
    cases l with
    | nil =>
      unfold msF
      rw [if_pos rfl, if_pos (by rw [at_is (vs := vs) h]; rfl)]; rfl
    | cons m l =>
      have h' : At ts p (mtoks m ++ (msMore l ++ (sgT ⟨#[125]⟩ :: vs))) := by
        have e : msToks (m :: l) ++ (sgT ⟨#[125]⟩ :: vs) = mtoks m ++ (msMore l ++ (sgT ⟨#[125]⟩ :: vs)) := by simp [msToks]
        rw [← e]; exact h
      have hk := hm m List.mem_cons_self
      have h2 : At ts p (wdT m.1 :: sgT (signF m.2.2) :: txT m.2.1 :: (msMore l ++ (sgT ⟨#[125]⟩ :: vs))) := h'
      have e2 := at_mtc (en := en) (fa := fa) hk.1 hk.2 h'
      have ih := at_ms (en := en) (fa := fa) l [m] f (p + 3) vs (fun x hx => hm x (List.mem_cons_of_mem _ hx)) (by simp) (by simpa using hf) (At.right (us := mtoks m) h')
      unfold msF
      rw [if_pos rfl, if_neg (by rw [at_is h2]; simp [wdT]), if_pos (show ([] : List Mtc).length = 0 from rfl), e2]
      simp only
      rw [List.nil_append, ih]
      congr 2
      simp [msToks, mtoks]; omega
theorem at_ns {ts : List Tok} {en : Int} {fa : Int} : ∀ (l acc : List ByteArray) (f p : Nat) (vs : List Tok), acc ≠ [] → l.length < f → At ts p (nsMore l ++ (sgT ⟨#[41]⟩ :: vs)) → nsF ts en f acc ⟨p, fa, 0⟩ = (acc ++ l, ⟨p + (nsMore l).length + 1, fa, 0⟩)
  | [], acc, f, p, vs, ha, hf, h => by
    cases f with
    | zero => simp at hf
    | succ f =>
      unfold nsF
      rw [if_pos rfl, if_pos (by rw [at_is (vs := vs) h]; rfl), List.append_nil]; rfl
  | m :: l, acc, f, p, vs, ha, hf, h => by
    cases f with
    | zero => simp at hf
    | succ f =>
      have h' : At ts p (sgT ⟨#[44]⟩ :: wdT m :: (nsMore l ++ (sgT ⟨#[41]⟩ :: vs))) := by
        have e : nsMore (m :: l) ++ (sgT ⟨#[41]⟩ :: vs) = sgT ⟨#[44]⟩ :: wdT m :: (nsMore l ++ (sgT ⟨#[41]⟩ :: vs)) := by simp [nsMore]
        rw [← e]; exact h
      have h0 : acc.length ≠ 0 := fun e => ha (List.eq_nil_of_length_eq_zero e)
      have e1 := at_must (en := en) (fa := fa) h' (kd := 4) (tx := ⟨#[44]⟩) rfl rfl
      obtain ⟨t, e2, _, hx⟩ := at_take (en := en) (fa := fa) h'.tail (kd := 2) rfl
      have ih := at_ns (en := en) (fa := fa) l (acc ++ [m]) f (p + 1 + 1) vs (by simp) (by simpa using hf) h'.tail.tail
      have hxm : t.tx = m := hx
      unfold nsF
      rw [if_pos rfl, if_neg (by rw [at_is h']; simp [sgT]), if_neg h0, e1, e2]
      simp only
      rw [hxm, ih, List.append_assoc]
      congr 2
      simp [nsMore]; omega
theorem at_ns0 {ts : List Tok} {en : Int} {fa : Int} (l : List ByteArray) (f p : Nat) (vs : List Tok) (hf : l.length < f) (h : At ts p (nsToks l ++ (sgT ⟨#[41]⟩ :: vs))) : nsF ts en f [] ⟨p, fa, 0⟩ = (l, ⟨p + (nsToks l).length + 1, fa, 0⟩) := by
  cases f with
  | zero => simp at hf
  | succ f =>
    cases l with
    | nil =>
      unfold nsF
      rw [if_pos rfl, if_pos (by rw [at_is (vs := vs) h]; rfl)]; rfl
    | cons m l =>
      have h' : At ts p (wdT m :: (nsMore l ++ (sgT ⟨#[41]⟩ :: vs))) := h
      obtain ⟨t, e2, _, hx⟩ := at_take (en := en) (fa := fa) h' (kd := 2) rfl
      have hxm : t.tx = m := hx
      have ih := at_ns (en := en) (fa := fa) l [m] f (p + 1) vs (by simp) (by simpa using hf) h'.tail
      unfold nsF
      rw [if_pos rfl, if_neg (by rw [at_is h']; simp [wdT]), if_pos (show ([] : List ByteArray).length = 0 from rfl), e2]
      simp only
      rw [hxm, List.nil_append, ih]
      congr 2
      simp [nsToks]; omega
theorem msMore_len (l : List Mtc) : l.length ≤ (msMore l).length := by
  induction l with
  | nil => simp
  | cons m l ih => simp only [msMore, List.flatMap_cons, List.length_append, List.length_cons] at ih ⊢; omega
theorem msToks_len (l : List Mtc) : l.length ≤ (msToks l).length := by
  cases l with
  | nil => simp
  | cons m l => have := msMore_len l; simp [msToks, mtoks]; omega
theorem nsMore_len (l : List ByteArray) : l.length ≤ (nsMore l).length := by
  induction l with
  | nil => simp
  | cons m l ih => simp only [nsMore, List.flatMap_cons, List.length_append, List.length_cons] at ih ⊢; omega
theorem nsToks_len (l : List ByteArray) : l.length ≤ (nsToks l).length := by
  cases l with
  | nil => simp
  | cons m l => have := nsMore_len l; simp [nsToks]; omega
theorem at_between {ts : List Tok} {en : Int} {p : Nat} {fa : Int} {k : Int} {vs : List Tok} (h1 : 3 ≤ k) (h2 : k ≤ 16) (h : At ts p (opT k :: vs)) : betweenF ts en ⟨p, fa, 0⟩ = (k, ⟨p + 1, fa, 0⟩) := by
  have e : (fun j => isF ts ⟨p, fa, 0⟩ (if 14 ≤ j then 2 else 4) (signX j)) = fun j => (decide ((opT k).kd = (if 14 ≤ j then 2 else 4)) && decide ((opT k).tx = signX j)) := by
    funext j; exact at_is h _ _
  unfold betweenF
  rw [e]
  have : k = 3 ∨ k = 4 ∨ k = 5 ∨ k = 6 ∨ k = 7 ∨ k = 8 ∨ k = 9 ∨ k = 10 ∨ k = 11 ∨ k = 12 ∨ k = 13 ∨ k = 14 ∨ k = 15 ∨ k = 16 := by omega
  rcases this with rfl | rfl | rfl | rfl | rfl | rfl | rfl | rfl | rfl | rfl | rfl | rfl | rfl | rfl <;> rfl
theorem kindF_word {k : Int} (h1 : 17 ≤ k) (h2 : k ≤ 20) {t : Tok} (h : alike t (wdT (wordX k))) : kindF t = k := by
  unfold kindF
  rw [h.1, h.2.2]
  have : k = 17 ∨ k = 18 ∨ k = 19 ∨ k = 20 := by omega
  rcases this with rfl | rfl | rfl | rfl <;> rfl
theorem kindF_sign {x : ByteArray} {t : Tok} (h : alike t (sgT x)) : kindF t = 0 := by
  unfold kindF
  rw [h.1, if_neg (show ¬ (sgT x).kd = 2 from by show ¬ (4 : Int) = 2; decide)]
theorem kindF_num {n : Int} {t : Tok} (h : alike t (nmT n)) : kindF t = 0 := by
  unfold kindF
  rw [h.1, if_neg (show ¬ (nmT n).kd = 2 from by show ¬ (1 : Int) = 2; decide)]
/-- The tokens of a typed expression are read as it. -/
theorem reads_pe {ts : List Tok} {en : Int} {n : Nat} {fa : Int} (hn : ts.length = n) : ∀ (d : Nat) (x : PE) (p : Nat) (vs : List Tok), x.deep ≤ d → x.ty ≠ 0 → At ts p (x.toks ++ vs) → exprF ts en n d ⟨p, fa, 0⟩ = (x, ⟨p + x.toks.length, fa, 0⟩)
  | 0, x, _, _, hd, _, _ => by
    obtain ⟨k, m, ms, ns, ks⟩ := x
    unfold PE.deep at hd; omega
  | d + 1, x, p, vs, hd, ht, hat => by
    cases ty_typed ht with
    | num m =>
      have hat' : At ts p (nmT m :: vs) := by unfold PE.toks at hat; rw [if_pos rfl] at hat; exact hat
      obtain ⟨t, e1, a1⟩ := at_peek (fa := fa) hat'
      obtain ⟨t2, e2, a2, _⟩ := at_take (en := en) (fa := fa) hat' (kd := 1) rfl
      have h2 : t2.n = m := a2
      unfold exprF
      rw [if_neg (by unfold noneF; rw [e1, a1.1]; show ¬ ((1 : Int) != 1 && _ && _ && _) = true; simp), if_pos (by rw [e1, a1.1]; rfl), e2]
      simp only
      rw [h2]
      unfold PE.toks
      rw [if_pos rfl]; rfl
    | pick m ms hm h1 h2 =>
      have hat' : At ts p (sgT ⟨#[123]⟩ :: (msToks ms ++ (sgT ⟨#[125]⟩ :: sgT ⟨#[91]⟩ :: nmT m :: sgT ⟨#[93]⟩ :: vs))) := by unfold PE.toks at hat; rw [if_neg (by decide), if_pos rfl] at hat; simpa using hat
      obtain ⟨t, e1, a1⟩ := at_peek (fa := fa) hat'
      have i1 : isF ts ⟨p, fa, 0⟩ 4 ⟨#[123]⟩ = true := by rw [at_is hat']; rfl
      have k0 : kindF t = 0 := kindF_sign a1
      have hml : ms.length < n + 2 := by
        have h3 := hat'.lt
        rcases h3 with h3 | h3
        · cases h3
        · have := msToks_len ms
          simp only [List.length_cons, List.length_append] at h3; omega
      have m1 := at_must (en := en) (fa := fa) hat' (kd := 4) (tx := ⟨#[123]⟩) rfl rfl
      have m2 := at_ms0 (en := en) (fa := fa) ms (n + 2) (p + 1) _ (fun x hx => ((rightM_facts hm).2 x hx).2.2) hml hat'.tail
      have h3 : At ts (p + 1 + (msToks ms).length + 1) (sgT ⟨#[91]⟩ :: nmT m :: sgT ⟨#[93]⟩ :: vs) := (At.right (us := msToks ms) hat'.tail).tail
      have m3 := at_must (en := en) (fa := fa) h3 (kd := 4) (tx := ⟨#[91]⟩) rfl rfl
      obtain ⟨t4, e4, a4, _⟩ := at_take (en := en) (fa := fa) h3.tail (kd := 1) rfl
      have m5 := at_must (en := en) (fa := fa) h3.tail.tail (kd := 4) (tx := ⟨#[93]⟩) rfl rfl
      have h4 : t4.n = m := a4
      unfold exprF
      rw [if_neg (by unfold noneF; rw [i1]; simp), if_neg (by rw [e1, a1.1]; show ¬ (4 : Int) = 1; decide), if_neg (by rw [e1, k0]; simp), if_pos i1]
      unfold pickR readPickF
      simp only
      rw [m1, m2]
      simp only
      rw [m3, e4]
      simp only
      rw [m5, h4]
      unfold PE.toks
      rw [if_neg (by decide), if_pos rfl]
      congr 2
      simp; omega
    | one k ns a h1 h2 hns ha =>
      have hda : a.deep ≤ d := by unfold PE.deep deepsP at hd; simp [deepsP] at hd; omega
      have etoks : (PE.mk k 0 [] ns [a]).toks = wdT (wordX k) :: wdT ⟨#[98, 121]⟩ :: sgT ⟨#[40]⟩ :: (nsToks ns ++ (sgT ⟨#[41]⟩ :: sgT ⟨#[40]⟩ :: (a.toks ++ [sgT ⟨#[41]⟩]))) := by
        conv => lhs; unfold PE.toks
        rw [if_neg (by omega), if_neg (by omega), if_pos h1]
        simp only [toksP, List.headD_cons]
      rw [etoks] at hat ⊢
      have hat' : At ts p (wdT (wordX k) :: wdT ⟨#[98, 121]⟩ :: sgT ⟨#[40]⟩ :: (nsToks ns ++ (sgT ⟨#[41]⟩ :: sgT ⟨#[40]⟩ :: (a.toks ++ (sgT ⟨#[41]⟩ :: vs))))) := by simpa using hat
      obtain ⟨t, e1, a1⟩ := at_peek (fa := fa) hat'
      have k0 : kindF t = k := kindF_word h1 h2 a1
      have hk0 : k ≠ 0 := by omega
      have hml : ns.length < n + 2 := by
        rcases hat'.lt with h3 | h3
        · cases h3
        · have := nsToks_len ns
          simp only [List.length_cons, List.length_append] at h3; omega
      obtain ⟨t2, e2, _, _⟩ := at_take (en := en) (fa := fa) hat' (kd := 2) rfl
      have m2 := at_must (en := en) (fa := fa) hat'.tail (kd := 2) (tx := ⟨#[98, 121]⟩) rfl rfl
      have m3 := at_must (en := en) (fa := fa) hat'.tail.tail (kd := 4) (tx := ⟨#[40]⟩) rfl rfl
      have m4 := at_ns0 (en := en) (fa := fa) ns (n + 2) (p + 1 + 1 + 1) _ hml hat'.tail.tail.tail
      have h3 := (At.right (us := nsToks ns) hat'.tail.tail.tail).tail
      have m5 := at_must (en := en) (fa := fa) h3 (kd := 4) (tx := ⟨#[40]⟩) rfl rfl
      have m6 := reads_pe hn (en := en) (fa := fa) d a _ _ hda (by rw [ha]; decide) h3.tail
      have m7 := at_must (en := en) (fa := fa) (At.right (us := a.toks) h3.tail) (kd := 4) (tx := ⟨#[41]⟩) rfl rfl
      unfold exprF
      rw [if_neg (by unfold noneF; rw [e1, k0, beq_eq_false_iff_ne.2 hk0]; simp), if_neg (by rw [e1, a1.1]; show ¬ (2 : Int) = 1; decide), if_pos (by rw [e1, k0]; exact hk0), e1, k0]
      unfold ofOneF
      simp only
      rw [e2]
      simp only
      rw [m2, m3, m4]
      simp only
      rw [m5, m6]
      simp only
      rw [m7]
      congr 2
      simp; omega
    | two k a b h1 h2 ha hb =>
      have hds : a.deep ≤ d ∧ b.deep ≤ d := by unfold PE.deep deepsP deepsP at hd; omega
      have etoks : (PE.mk k 0 [] [] [a, b]).toks = sgT ⟨#[40]⟩ :: (a.toks ++ (opT k :: (b.toks ++ [sgT ⟨#[41]⟩]))) := by
        conv => lhs; unfold PE.toks
        rw [if_neg (by omega), if_neg (by omega), if_neg (by omega)]
        simp only [toksP, List.headD_cons, List.drop_succ_cons, List.drop_zero]
      rw [etoks] at hat ⊢
      have hat' : At ts p (sgT ⟨#[40]⟩ :: (a.toks ++ (opT k :: (b.toks ++ (sgT ⟨#[41]⟩ :: vs))))) := by simpa using hat
      obtain ⟨t, e1, a1⟩ := at_peek (fa := fa) hat'
      have i1 : isF ts ⟨p, fa, 0⟩ 4 ⟨#[40]⟩ = true := by rw [at_is hat']; rfl
      have i2 : isF ts ⟨p, fa, 0⟩ 4 ⟨#[123]⟩ = false := by rw [at_is hat']; show (decide ((4 : Int) = 4) && decide ((⟨#[40]⟩ : ByteArray) = ⟨#[123]⟩)) = false; decide
      have k0 : kindF t = 0 := kindF_sign a1
      have m1 := at_must (en := en) (fa := fa) hat' (kd := 4) (tx := ⟨#[40]⟩) rfl rfl
      have m2 := reads_pe hn (en := en) (fa := fa) d a _ _ hds.1 ha hat'.tail
      have h3 := At.right (us := a.toks) hat'.tail
      have m3 := at_between (en := en) (fa := fa) h1 h2 h3
      have m4 := reads_pe hn (en := en) (fa := fa) d b _ _ hds.2 hb h3.tail
      have m5 := at_must (en := en) (fa := fa) (At.right (us := b.toks) h3.tail) (kd := 4) (tx := ⟨#[41]⟩) rfl rfl
      unfold exprF
      rw [if_neg (by unfold noneF; rw [i1]; simp), if_neg (by rw [e1, a1.1]; show ¬ (4 : Int) = 1; decide), if_neg (by rw [e1, k0]; simp), if_neg (by rw [i2]; simp)]
      unfold ofTwoF
      simp only
      rw [m1, m2]
      simp only
      rw [m3]
      simp only
      rw [m4]
      simp only
      rw [m5]
      congr 2
      simp; omega
end Go.Proofs.YtcaapbbbekggiaaGreatDoor
