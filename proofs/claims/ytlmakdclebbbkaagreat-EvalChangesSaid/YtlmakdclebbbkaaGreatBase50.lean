/- Texts, merged in one. -/
import Derived.Test.YtlmakdclebbbkaaGreatBase9
import Derived.Test.YtlmakdclebbbkaaGreatBase31
import Derived.Test.YtlmakdclebbbkaaGreatBase49
import Derived.Test.YtlmakdclebbbkaaGreatBase48
import Derived.Test.YtlmakdclebbbkaaGreatBase32
import Derived.Test.YtlmakdclebbbkaaGreatBase
import Derived.Test.YtlmakdclebbbkaaGreatRows
import Derived.Maps.OwnOps
import Derived.Maps.OwnSet
import Derived.Maps.Views
import Derived.WalkKit
namespace Go.Proofs.YtlmakdclebbbkaaGreat
open Go.ChangeShapes Go.WideShapes Go.ChangeAt Go.RowKit
set_option linter.unusedVariables false
set_option maxRecDepth 100000
/-- Is the i'th sample at t? Does it end there? -/
def sAt (L : List (Int × Int)) (t : Int) (i : Nat) : Bool := match L[i]? with | none => false | some x => x.1 == t
def eAt (L : List (Int × Int)) (k t : Int) (i : Nat) : Bool := match L[i]? with | none => false | some x => (x.1 + k == t) && (match L[i + 1]? with | none => true | some y => decide (t < y.1))
def sUp (L : List (Int × Int)) (t : Int) (j : Nat) : Bool := (List.range j).any (sAt L t)
def eUp (L : List (Int × Int)) (k t : Int) (j : Nat) : Bool := (List.range j).any (eAt L k t)
theorem eAt_last {L : List (Int × Int)} {k t : Int} {i : Nat} (h : i < L.length) (h2 : i + 1 = L.length) : eAt L k t i = (L[i].1 + k == t) := by
  unfold eAt; rw [List.getElem?_eq_getElem h, List.getElem?_eq_none (by omega)]; simp
theorem eAt_mid {L : List (Int × Int)} {k t : Int} {i : Nat} (h : i < L.length) (h2 : i + 1 < L.length) : eAt L k t i = ((L[i].1 + k == t) && decide (t < L[i + 1].1)) := by
  unfold eAt; rw [List.getElem?_eq_getElem h, List.getElem?_eq_getElem h2]
theorem sUp_cons (x : Int × Int) (L : List (Int × Int)) (t : Int) (j : Nat) : sUp (x :: L) t (j + 1) = ((x.1 == t) || sUp L t j) := by
  unfold sUp; rw [List.range_succ_eq_map, List.any_cons, List.any_map]; rfl
theorem eUp_cons (x : Int × Int) (L : List (Int × Int)) (k t : Int) (j : Nat) : eUp (x :: L) k t (j + 1) = (eAt (x :: L) k t 0 || eUp L k t j) := by
  unfold eUp; rw [List.range_succ_eq_map, List.any_cons, List.any_map]; rfl
theorem mem_inR (f t x z : Int) : z ∈ inR f t x ↔ (f ≤ x ∧ x ≤ t) ∧ z = x := by
  unfold inR; split
  · rename_i h; simp [h]
  · rename_i h; exact ⟨fun h2 => (by cases h2), fun h2 => absurd h2.1 h⟩
theorem mem_chg (k f t : Int) (L : List (Int × Int)) (z : Int) : z ∈ chg k f t L ↔ (f ≤ z ∧ z ≤ t) ∧ (sUp L z L.length = true ∨ eUp L k z L.length = true) := by
  induction L with
  | nil => simp [chg, sUp, eUp]
  | cons x r ih =>
    rw [List.length_cons, sUp_cons, eUp_cons]
    simp only [Bool.or_eq_true]
    cases r with
    | nil =>
      rw [eAt_last (by simp) (by simp)]
      simp only [chg, List.mem_append, mem_inR, List.length_nil, sUp, eUp, List.range_zero, List.any_nil, Bool.false_eq_true, or_false, List.getElem_cons_zero, beq_iff_eq]
      constructor
      · rintro (⟨h, rfl⟩ | ⟨h, rfl⟩)
        · exact ⟨h, .inl rfl⟩
        · exact ⟨h, .inr rfl⟩
      · rintro ⟨h, e | e⟩
        · exact .inl ⟨by rw [e]; exact h, e.symm⟩
        · exact .inr ⟨by rw [e]; exact h, e.symm⟩
    | cons y r =>
      rw [eAt_mid (by simp) (by simp)]
      simp only [chg, List.mem_append, ih, List.getElem_cons_zero, List.getElem_cons_succ, Bool.and_eq_true, beq_iff_eq, decide_eq_true_eq, mem_inR]
      constructor
      · rintro ((⟨h, rfl⟩ | h) | ⟨h, h2⟩)
        · exact ⟨h, .inl (.inl rfl)⟩
        · split at h
          · rename_i hlt
            rw [mem_inR] at h
            obtain ⟨h, rfl⟩ := h
            exact ⟨h, .inr (.inl ⟨rfl, hlt⟩)⟩
          · cases h
        · exact ⟨h, h2.elim (fun h => .inl (.inr h)) (fun h => .inr (.inr h))⟩
      · rintro ⟨h, (e | e) | (⟨e, e2⟩ | e)⟩
        · exact .inl (.inl ⟨by rw [e]; exact h, e.symm⟩)
        · exact .inr ⟨h, .inl e⟩
        · refine .inl (.inr ?_)
          rw [if_pos (by omega), mem_inR]
          exact ⟨by rw [e]; exact h, e.symm⟩
        · exact .inr ⟨h, .inr e⟩
theorem beh_same {L : List (Int × Int)} {t : Int} (h : sUp L t L.length = false) : nBeh L t = nBeh L (t - 1) := by
  induction L with
  | nil => rfl
  | cons x r ih =>
    rw [List.length_cons, sUp_cons, Bool.or_eq_false_iff] at h
    have hx : x.1 ≠ t := by simpa using h.1
    have := ih h.2
    unfold nBeh at this ⊢
    by_cases hx2 : x.1 ≤ t
    · rw [List.takeWhile_cons_of_pos (by simpa using hx2), List.takeWhile_cons_of_pos (by simp; omega), List.length_cons, List.length_cons, this]
    · rw [List.takeWhile_cons_of_neg (by simpa using hx2), List.takeWhile_cons_of_neg (by simp; omega)]
theorem eUp_of {L : List (Int × Int)} {k t : Int} {j : Nat} (hj : j < L.length) (h : eAt L k t j = true) : eUp L k t L.length = true := by
  unfold eUp; rw [List.any_eq_true]; exact ⟨j, List.mem_range.2 hj, h⟩
theorem nBeh_after {ss : List (Int × Int)} {t : Int} {j : Nat} (hn : nBeh ss t = j) (h : j < ss.length) : t < ss[j].1 := by
  induction ss generalizing j with
  | nil => simp at h
  | cons x ss ih =>
    unfold nBeh at hn ih
    by_cases hx : x.1 ≤ t
    · rw [List.takeWhile_cons_of_pos (by simpa using hx), List.length_cons] at hn
      subst hn
      exact ih rfl (by simpa using h)
    · rw [List.takeWhile_cons_of_neg (by simpa using hx)] at hn
      simp at hn; subst hn; simpa using hx
theorem at_same {L : List (Int × Int)} {k t : Int} (h : sUp L t L.length = false) (h2 : eUp L k t L.length = false) : atF L t k = atF L (t - 1) k := by
  have hb := beh_same h
  cases hn : nBeh L t with
  | zero => rw [atF_zero hn, atF_zero (by rw [← hb]; exact hn)]
  | succ j =>
    have hj : j < L.length := by have := nBeh_le L t; omega
    rw [atF_succ hn hj, atF_succ (by rw [← hb]; exact hn) hj]
    by_cases he : L[j].1 + k = t
    · exfalso
      have : eAt L k t j = true := by
        by_cases h3 : j + 1 = L.length
        · rw [eAt_last hj h3]; simpa using he
        · rw [eAt_mid hj (by omega)]
          have := nBeh_after hn (by omega)
          simp [he, this]
      rw [eUp_of hj this] at h2; cases h2
    · by_cases h4 : L[j].1 ≤ t - k
      · rw [if_pos h4, if_pos (by omega)]
      · rw [if_neg h4, if_neg (by omega)]
end Go.Proofs.YtlmakdclebbbkaaGreat

namespace Go.Proofs.YtlmakdclebbbkaaGreat
open Go.ChangeShapes Go.WideShapes Go.ChangeAt Go.RowKit Go.Lib Go.Sort
set_option linter.unusedVariables false
set_option maxRecDepth 100000
theorem compactI_ok {zs : List Int} (hs : zs.Pairwise fun x y => x ≤ y) : ∀ m, m ≤ zs.length → (∀ x, x ∈ compactUpTo zs.toArray m ↔ x ∈ zs.take m) ∧ (compactUpTo zs.toArray m).Pairwise (· < ·)
  | 0, _ => ⟨fun x => by simp [compactUpTo], by simp [compactUpTo]⟩
  | m + 1, hm => by
    obtain ⟨h1, h2⟩ := compactI_ok hs m (by omega)
    have hml : m < zs.length := by omega
    have hg : zs.toArray[m]! = zs[m] := by simp [hml]
    rw [compactUpTo_succ, hg, List.take_succ_eq_append_getElem hml]
    by_cases hk : keeps zs.toArray m = true
    · rw [if_pos hk]
      refine ⟨fun x => by rw [List.mem_append, List.mem_append, h1], ?_⟩
      rw [List.pairwise_append]
      refine ⟨h2, by simp, fun x hx y hy => ?_⟩
      rw [List.mem_singleton] at hy; subst hy
      rw [h1] at hx
      obtain ⟨j, hj, rfl⟩ := List.getElem_of_mem hx
      rw [List.length_take] at hj
      rw [List.getElem_take]
      have hle : ∀ p q (hp : p < zs.length) (hq : q < zs.length), p ≤ q → zs[p] ≤ zs[q] := by
        intro p q hp hq hpq
        rcases Nat.lt_or_ge p q with h | h
        · exact List.pairwise_iff_getElem.1 hs p q hp hq h
        · have : p = q := by omega
          subst this; exact Int.le_refl _
      have hne : zs[m] ≠ zs[m - 1] := by
        have h3 := hk
        unfold keeps at h3
        rw [decide_eq_true_eq] at h3
        rcases h3 with h3 | h3
        · omega
        · rw [hg] at h3
          rwa [show zs.toArray[m - 1]! = zs[m - 1] by simp [show m - 1 < zs.length by omega]] at h3
      have h5 := hle j (m - 1) (by omega) (by omega) (by omega)
      have h6 := hle (m - 1) m (by omega) hml (by omega)
      show zs[j] < zs[m]
      rcases Int.lt_or_eq_of_le (Int.le_trans h5 h6) with h7 | h7
      · exact h7
      · exact absurd (Int.le_antisymm (h7 ▸ h5) h6) hne
    · rw [if_neg hk, List.append_nil]
      refine ⟨fun x => ?_, h2⟩
      rw [h1, List.mem_append, List.mem_singleton]
      refine ⟨.inl, fun h => ?_⟩
      rcases h with h | h
      · exact h
      · have h3 : ¬ (m = 0 ∨ zs.toArray[m]! ≠ zs.toArray[m - 1]!) := by unfold keeps at hk; simpa using hk
        have hm0 : m ≠ 0 := fun h => h3 (.inl h)
        have heq : zs.toArray[m]! = zs.toArray[m - 1]! := Classical.byContradiction fun h => h3 (.inr h)
        rw [hg, show zs.toArray[m - 1]! = zs[m - 1] by simp [show m - 1 < zs.length by omega]] at heq
        rw [h, heq]
        exact List.mem_iff_getElem.2 ⟨m - 1, by rw [List.length_take]; omega, by rw [List.getElem_take]⟩
theorem chgS_ok (D : List SK) (look f t : Int) (ms : List Mtc) : (∀ x, x ∈ chgS D look f t ms ↔ x ∈ D.flatMap (chgOne look f t ms)) ∧ (chgS D look f t ms).Pairwise (· < ·) := by
  unfold chgS
  obtain ⟨h1, h2⟩ := compactI_ok (isort_rises (D.flatMap (chgOne look f t ms))) _ (Nat.le_refl _)
  refine ⟨fun x => ?_, h2⟩
  show x ∈ compactUpTo _ _ ↔ _
  rw [h1, List.take_length]
  exact (isort_perm _).mem_iff
theorem chgS_in {D : List SK} {look f t : Int} {ms : List Mtc} : ∀ x ∈ chgS D look f t ms, f ≤ x ∧ x ≤ t := fun x hx => by
  rw [(chgS_ok D look f t ms).1, List.mem_flatMap] at hx
  obtain ⟨y, _, hx⟩ := hx
  unfold chgOne at hx
  split at hx
  · exact ((mem_chg look f t y.2 x).1 hx).1
  · cases hx
theorem pickS_same {D : List SK} {look f t z : Int} {ms : List Mtc} (hz : z ∉ chgS D look f t ms) (h1 : f ≤ z) (h2 : z ≤ t) : pickS D z look ms = pickS D (z - 1) look ms := by
  rw [(chgS_ok D look f t ms).1] at hz
  unfold pickS
  have key : ∀ x ∈ D, pickOne z look ms x = pickOne (z - 1) look ms x := fun x hx => by
    unfold pickOne
    cases ha : allF x.1 ms with
    | false => rfl
    | true =>
      have hn : z ∉ chg look f t x.2 := fun h => hz (List.mem_flatMap.2 ⟨x, hx, by unfold chgOne; rw [if_pos ha]; exact h⟩)
      have hs : sUp x.2 z x.2.length = false := by
        cases hq : sUp x.2 z x.2.length with
        | false => rfl
        | true => exact absurd ((mem_chg look f t x.2 z).2 ⟨⟨h1, h2⟩, .inl hq⟩) hn
      have he : eUp x.2 look z x.2.length = false := by
        cases hq : eUp x.2 look z x.2.length with
        | false => rfl
        | true => exact absurd ((mem_chg look f t x.2 z).2 ⟨⟨h1, h2⟩, .inr hq⟩) hn
      simp only [at_same hs he]
  clear hz
  induction D with
  | nil => rfl
  | cons x D ih =>
    rw [List.flatMap_cons, List.flatMap_cons, key x List.mem_cons_self, ih fun y hy => key y (List.mem_cons_of_mem _ hy)]
end Go.Proofs.YtlmakdclebbbkaaGreat

namespace Go.Proofs.YtlmakdclebbbkaaGreat
open Go.ChangeShapes Go.WideShapes Go.ChangeAt Go.RowKit Go.Lib
set_option linter.unusedVariables false
set_option linter.unusedSimpArgs false
set_option maxRecDepth 100000
theorem VOk.put {D : List SK} {l : List Lbl} {x : Int × Int} (h : VOk D) (hx : I64 x.2) : VOk (putS D l x) := by
  unfold putS
  split
  · unfold putD
    split
    · intro y hy z hz
      rcases List.mem_or_eq_of_mem_set hy with hy | rfl
      · exact h y hy z hz
      · rcases List.mem_append.1 hz with hz | hz
        · rw [List.getD_eq_getElem?_getD] at hz
          cases e : D[placeN D (printL l)]? with
          | none => rw [e] at hz; exact absurd hz (by simp)
          | some q => rw [e] at hz; exact h q (List.mem_of_getElem? e) z hz
        · rw [List.mem_singleton] at hz; subst hz; exact hx
    · intro y hy z hz
      rcases List.mem_append.1 hy with hy | hy
      · exact h y (List.mem_of_mem_take hy) z hz
      · rcases List.mem_cons.1 hy with rfl | hy
        · rw [List.mem_singleton] at hz; subst hz; exact hx
        · exact h y (List.mem_of_mem_drop hy) z hz
  · exact h
theorem VOk.puts {l : List Lbl} : ∀ (xs : List (Int × Int)) (D : List SK), VOk D → (∀ x ∈ xs, I64 x.2) → VOk (putsD D l xs)
  | [], D, h, _ => h
  | x :: xs, D, h, hx => VOk.puts xs (putS D l x) (h.put (hx x List.mem_cons_self)) fun y hy => hx y (List.mem_cons_of_mem _ hy)
theorem samples_in : ∀ (t : Int) (zs : List Int), ∀ x ∈ samplesOf t zs, I64 x.2
  | t, [] => fun x hx => absurd hx (by simp [samplesOf])
  | t, z :: zs => fun x hx => by
    simp only [samplesOf, List.mem_cons] at hx
    rcases hx with rfl | hx
    · have := nWithin_in (z.tdiv 12) (lo := -4) (hi := 9) (by omega)
      show I64 (nWithin (z.tdiv 12) (-4) 9)
      unfold I64; omega
    · exact samples_in _ zs x hx
theorem vok_up (k : KStore) : ∀ i, VOk (fillUp k i).2
  | 0 => fun x hx => by simp [fillUp] at hx
  | i + 1 => by
    unfold fillUp
    split
    · exact vok_up k i
    · refine VOk.puts _ _ (vok_up k i) fun x hx => ?_
      unfold xsOf at hx
      split at hx
      · exact samples_in _ _ x hx
      · cases hx
theorem vok_fill (k : KStore) : VOk (fillF k) := vok_up k _
theorem fill_len (k : KStore) : (fillF k).length ≤ 5 := by
  have := (fillUp_inv k (min k.qs.length 5)).2.1
  unfold fillF; omega
theorem lim_keep (k : KStore) (d : Nat) (hd : d ≤ 5) : lim (fillF k) d ≤ 500 := by
  have h := fill_len k
  cases d with
  | zero => simp [lim]
  | succ d =>
    simp only [lim]
    have h1 : 2 ^ d ≤ 2 ^ 4 := Nat.pow_le_pow_right (by decide) (by omega)
    have h2 : (fillF k).length * 2 ^ d ≤ 5 * 2 ^ 4 := Nat.mul_le_mul h h1
    omega
/-- An expression is the same where each of its picks is. -/
theorem comF_same {D : List SK} {z y : Int} : ∀ (d : Nat) (x : PE), x.ty ≠ 0 → (∀ p ∈ x.picks, pickS D z p.nOf p.msOf = pickS D y p.nOf p.msOf) → comF D z d x = comF D y d x
  | 0, x, _, _ => by unfold comF; rfl
  | d + 1, x, ht, hp => by
    by_cases h1 : x.ty = 1
    · rw [comF_num h1, comF_num h1]
    · cases ty_typed ht with
      | num n => exact absurd rfl h1
      | pick n ms hm h2 h3 =>
        rw [comF_pick, comF_pick]
        have h := hp (.mk 2 n ms [] []) (by unfold PE.picks picksP; rw [if_pos rfl]; simp)
        have h' : pickS D z n ms = pickS D y n ms := h
        rw [h']
      | one k ns a h2 h3 hn ha =>
        have ih := comF_same (D := D) (z := z) (y := y) d a (by rw [ha]; decide) (fun p hq => hp p (by unfold PE.picks picksP picksP; rw [if_neg (by omega)]; simpa using hq))
        rw [comF_one h1 (by omega), comF_one h1 (by omega), ih]
      | two k a b h2 h3 ha hb =>
        by_cases hk : k = 2
        · omega
        have iha := comF_same (D := D) (z := z) (y := y) d a ha (fun p hq => hp p (by unfold PE.picks picksP picksP picksP; rw [if_neg hk]; simp; exact .inl hq))
        have ihb := comF_same (D := D) (z := z) (y := y) d b hb (fun p hq => hp p (by unfold PE.picks picksP picksP picksP; rw [if_neg hk]; simp; exact .inr hq))
        rw [comF_two h1 hk, comF_two h1 hk, iha, ihb]
theorem chgX_ok (D : List SK) (f t : Int) (x : PE) : (∀ z, z ∈ chgX D f t x ↔ ∃ p ∈ x.picks, z ∈ chgS D p.nOf f t p.msOf) ∧ (chgX D f t x).Pairwise (· < ·) := by
  unfold chgX
  obtain ⟨h1, h2⟩ := compactI_ok (isort_rises (x.picks.flatMap fun p => chgS D p.nOf f t p.msOf)) _ (Nat.le_refl _)
  refine ⟨fun z => ?_, h2⟩
  show z ∈ compactUpTo _ _ ↔ _
  rw [h1, List.take_length, (isort_perm _).mem_iff, List.mem_flatMap]
theorem chgX_in {D : List SK} {f t : Int} {x : PE} : ∀ z ∈ chgX D f t x, f ≤ z ∧ z ≤ t := fun z hz => by
  obtain ⟨p, _, h⟩ := ((chgX_ok D f t x).1 z).1 hz
  exact chgS_in z h
theorem evalR_same {D : List SK} {f t z : Int} {d : Nat} {x : PE} (ht : x.ty ≠ 0) (hz : z ∉ chgX D f t x) (h1 : f ≤ z) (h2 : z ≤ t) : evalR D z d x = evalR D (z - 1) d x := by
  have h := comF_same (D := D) (z := z) (y := z - 1) d x ht fun p hp => pickS_same (fun hq => hz (((chgX_ok D f t x).1 z).2 ⟨p, hp, hq⟩)) h1 h2
  unfold evalR; rw [h]
end Go.Proofs.YtlmakdclebbbkaaGreat

namespace Go.Proofs.YtlmakdclebbbkaaGreat
open Go.RowKit Go.Maps
set_option linter.unusedVariables false
set_option maxRecDepth 100000
theorem keyedI : Keyed Tryz.prog 3 := int_keyed Tryz.underlying3
theorem zeroB (w : World) : (zeroValue 4).run Tryz.prog w = .ok (.bool false) w := by kernel_rfl
theorem wf_i64 {t : Int} (h : I64 t) : (Lit.int .i64 t).wf = true := by
  simpa [Lit.wf, IntKind.min, IntKind.max, IntKind.signed, IntKind.bits, I64] using h
theorem keyI {t : Int} (h : I64 t) : keyOf Tryz.prog 3 (.int .i64 t) = some (.int .i64 t) := keyOf_int_mk Tryz.underlying3 (wf_i64 h)
/-- Block b is a map that answers f, of n entries at most. -/
def BMap (w : World) (b n : Nat) (f : Int → Bool) : Prop :=
  ∃ D : DataW Unit, w.ownsMap Tryz.prog 3 (plainElem Tryz.prog 4) b n D ∧ IsMap D ∧ ∀ t : Int, D.atKey (.int .i64 t) (.lit (.bool false)) = .lit (.bool (f t))
theorem BMap.made (w : World) : BMap (w.alloc (.map #[] 0)) w.heap.size 0 (fun _ => false) :=
  ⟨.map [], World.ownsMap_made _ _ _ _, ⟨[], rfl⟩, fun t => rfl⟩
theorem BMap.lt {w : World} {b n : Nat} {f : Int → Bool} (h : BMap w b n f) : b < w.heap.size := by obtain ⟨D, h, _⟩ := h; exact h.lt
theorem BMap.kept {w w' : World} {b n : Nat} {f : Int → Bool} {row : Option Nat} (h : BMap w b n f) (hg : w.grownBy w' row) (hne : some b ≠ row) : BMap w' b n f := by
  obtain ⟨D, h, h2⟩ := h; exact ⟨D, h.kept hg hne, h2⟩
theorem BMap.below {w w' : World} {b n : Nat} {f : Int → Bool} (h : BMap w b n f) (hb : Below w.heap.size w w') : BMap w' b n f :=
  h.kept (row := none) ⟨hb.os, hb.tape, hb.output, hb.size, fun i hi _ => hb.block i hi⟩ (by simp)
theorem BMap.drewN {w : World} {b n : Nat} {f : Int → Bool} (h : BMap w b n f) (m : Nat) : BMap (w.drewN m) b n f := h
theorem BMap.look {w : World} {b n : Nat} {f : Int → Bool} (h : BMap w b n f) {t : Int} (ht : I64 t) : (Instr.lookup 70 (.map (some b)) (.int .i64 t) false).run Tryz.prog w = .ok (.bool (f t)) w := by
  obtain ⟨D, h, _, hf⟩ := h
  obtain ⟨v, ps, hrun, hv⟩ := h.lookup keyedI Tryz.underlying70 (zeroB w) (plainElem_bool Tryz.underlying4 false) (keyI ht)
  rw [hf] at hv
  have : v = .bool (f t) := by
    unfold plainElem at hv
    rw [Tryz.underlying4] at hv
    cases v <;> simp at hv
    rw [hv.1]
  rw [this] at hrun; exact hrun
theorem BMap.put {w : World} {b n : Nat} {f : Int → Bool} (h : BMap w b n f) (hn : n < 1000000) {t : Int} (ht : I64 t) :
    ∃ w', (Instr.mapUpdate 70 (.map (some b)) (.int .i64 t) (.bool true)).run Tryz.prog w = .ok () w' ∧ BMap w' b (n + 1) (fun x => x == t || f x) ∧ w.grownBy w' (some b) := by
  obtain ⟨D, h, hm, hf⟩ := h
  obtain ⟨w', hrun, h2, h3⟩ := h.update keyedI Tryz.underlying70 (by unfold maxLen; omega) (keyI ht) (plainElem_bool Tryz.underlying4 true)
  refine ⟨w', hrun, ⟨_, h2, hm.put _ _, fun x => ?_⟩, h3⟩
  by_cases hx : x = t
  · subst hx
    rw [atKey_put_same (k := .int .i64 x) hm (show WideAt.IsKeyLit (.int .i64 x) from trivial)]
    simp
  · rw [atKey_put_other (by intro e; injection e with _ e; exact hx e), hf]
    have : (x == t) = false := by simpa using hx
    show DataW.lit (Lit.bool (f x)) = DataW.lit (Lit.bool (x == t || f x))
    rw [this, Bool.false_or]
theorem wpList_put_bmap {P : Program} {w : World} {ops : Array Oper} {rest : List Oper} {o : Oper} {a : Act} {Q : Exit → Act → World → Prop} (hg : o.guard = none) (m x v : Operand) (t : TypeId) (hop : o.op = Op.mapUpdate t m x v)
    (vm vx vv : Value) (hm : a.eval m = vm) (hx : a.eval x = vx) (hv : a.eval v = vv) (w' : World) (hrun : (Instr.mapUpdate t vm vx vv).run P w = .ok () w') (hK : wpList P ops Q rest (a.put o.dst undef) w') : wpList P ops Q (o :: rest) a w := by
  refine wpList_plain hg fun K' hK' => ?_
  unfold Oper.wp
  simp [execOp, hop, hm, hx, hv, hrun, Result.andThen]
  exact hK' _ _ hK
end Go.Proofs.YtlmakdclebbbkaaGreat
