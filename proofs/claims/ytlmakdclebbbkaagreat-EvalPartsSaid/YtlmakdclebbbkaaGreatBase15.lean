/- Texts, merged in one. -/
import Derived.Test.YtlmakdclebbbkaaGreatBase7
import Derived.Test.YtlmakdclebbbkaaGreatBase14
namespace Go.Proofs.YtlmakdclebbbkaaGreat
open Go.ChangeShapes Go.WideShapes Go.ChangeAt Go.RowKit
set_option linter.unusedVariables false
set_option linter.unusedSimpArgs false
set_option maxRecDepth 100000
theorem two_set {α : Type} {A B C : List α} {x y : α} {p q : Nat} (hp : A.length = p) (hq : p + 1 + B.length = q) :
    (A ++ x :: (B ++ y :: C))[p]? = some x ∧ (A ++ x :: (B ++ y :: C))[q]? = some y ∧ ((A ++ x :: (B ++ y :: C)).set p y).set q x = A ++ y :: (B ++ x :: C) := by
  subst hp; subst hq
  refine ⟨?_, ?_, ?_⟩
  · rw [List.getElem?_append_right (Nat.le_refl _), Nat.sub_self]; rfl
  · rw [List.getElem?_append_right (by omega), show A.length + 1 + B.length - A.length = B.length + 1 by omega, List.getElem?_cons_succ, List.getElem?_append_right (Nat.le_refl _), Nat.sub_self]; rfl
  · rw [List.set_append_right _ _ (Nat.le_refl _), Nat.sub_self, List.set_cons_zero, List.set_append_right _ _ (by omega), show A.length + 1 + B.length - A.length = B.length + 1 by omega, List.set_cons_succ, List.set_append_right _ _ (Nat.le_refl _), Nat.sub_self, List.set_cons_zero]
def swL (P U M V S : List RowT) (k : Nat) : List RowT := P ++ (V.take k ++ (U.drop k ++ (M ++ (U.take k ++ (V.drop k ++ S)))))
theorem swL_zero (P U M V S : List RowT) : swL P U M V S 0 = P ++ (U ++ (M ++ (V ++ S))) := by unfold swL; simp
theorem swL_all {P U M V S : List RowT} {m : Nat} (hU : U.length = m) (hV : V.length = m) : swL P U M V S m = P ++ (V ++ (M ++ (U ++ S))) := by
  unfold swL
  rw [List.take_of_length_le (by omega), List.take_of_length_le (by omega), List.drop_of_length_le (by omega), List.drop_of_length_le (by omega)]; simp
theorem swL_next {P U M V S : List RowT} {m a b k : Nat} (hP : P.length = a) (hU : U.length = m) (hV : V.length = m) (hb : a + m + M.length = b) (hk : k < m) :
    ∃ x y, (swL P U M V S k)[a + k]? = some x ∧ (swL P U M V S k)[b + k]? = some y ∧ ((swL P U M V S k).set (a + k) y).set (b + k) x = swL P U M V S (k + 1) := by
  have hu : k < U.length := by omega
  have hv : k < V.length := by omega
  have e : swL P U M V S k = (P ++ V.take k) ++ U[k] :: ((U.drop (k + 1) ++ (M ++ U.take k)) ++ V[k] :: (V.drop (k + 1) ++ S)) := by
    unfold swL
    rw [List.drop_eq_getElem_cons hu, List.drop_eq_getElem_cons hv]
    simp only [List.append_assoc, List.cons_append]
  have e2 : swL P U M V S (k + 1) = (P ++ V.take k) ++ V[k] :: ((U.drop (k + 1) ++ (M ++ U.take k)) ++ U[k] :: (V.drop (k + 1) ++ S)) := by
    unfold swL
    rw [List.take_succ_eq_append_getElem hu, List.take_succ_eq_append_getElem hv]
    simp only [List.append_assoc, List.cons_append, List.nil_append]
  obtain ⟨h1, h2, h3⟩ := two_set (A := P ++ V.take k) (B := U.drop (k + 1) ++ (M ++ U.take k)) (C := V.drop (k + 1) ++ S) (x := U[k]) (y := V[k]) (p := a + k) (q := b + k) (by rw [List.length_append, List.length_take]; omega) (by simp only [List.length_append, List.length_take, List.length_drop]; omega)
  exact ⟨U[k], V[k], by rw [e]; exact h1, by rw [e]; exact h2, by rw [e, h3, e2]⟩
theorem SrtAt.swap {w0 W : World} {base g n c : Nat} {L : List RowT} (h : SrtAt w0 base g n c L W) {p q : Nat} {x y : RowT} (hp : L[p]? = some x) (hq : L[q]? = some y) :
    SrtAt w0 base g n c ((L.set p y).set q x) ((((((W.setCell ⟨g, p * 3, none⟩ (.string y.text)).setCell ⟨g, p * 3 + 1, none⟩ (.slice y.ad y.ln y.cp)).setCell ⟨g, p * 3 + 2, none⟩ (.int .i64 y.val)).setCell ⟨g, q * 3, none⟩ (.string x.text)).setCell ⟨g, q * 3 + 1, none⟩ (.slice x.ad x.ln x.cp)).setCell ⟨g, q * 3 + 2, none⟩ (.int .i64 x.val)) :=
  (h.put (List.getElem?_eq_some_iff.1 hp).1 y).put (by rw [List.length_set]; exact (List.getElem?_eq_some_iff.1 hq).1) x
set_option maxHeartbeats 4000000 in
theorem swaprange_any (w0 : World) (base g n c a b m : Nat) (P U M V S : List RowT) (w : World) (h : SrtAt w0 base g n c (P ++ (U ++ (M ++ (V ++ S)))) w) (hP : P.length = a) (hU : U.length = m) (hV : V.length = m) (hb : a + m + M.length = b) (hn : n ≤ 1000000) :
    Calls Tryz.prog 173 #[.slice (some ⟨g, 0, none⟩) n c, .int .i64 a, .int .i64 b, .int .i64 m, .func (.func 105) #[] #[]] w fun e w' => e = .returned (.tuple #[]) ∧ SrtAt w0 base g n c (P ++ (V ++ (M ++ (U ++ S)))) w' := by
  obtain ⟨hgl, hnc, hcm⟩ := h.lt
  have hL := h.len
  simp only [List.length_append] at hL
  have hbn : b + m ≤ n := by omega
  have hab : a + m ≤ b := by omega
  have H0 := Lib.hid (show SrtAt w0 base g n c (swL P U M V S 0) w by rw [swL_zero]; exact h)
  have HEND := Lib.hid (swL_all (P := P) (M := M) (S := S) hU hV)
  have HNX := Lib.hid (fun k (hk : k < m) => swL_next (S := S) hP hU hV hb hk)
  clear h hL hU hV hP hb
  go_enter Tryz.func173, Tryz.ntmps173
  go_wp2_with fail
  go_loopg [10] m (fun gk x10 wr => ∃ k : Nat, k + gk = m ∧ x10 = .int .i64 k ∧ SrtAt w0 base g n c (swL P U M V S k) wr)
  case atStart => exact ⟨0, by omega, rfl, H0.out⟩
  case round =>
    obtain ⟨k, hkg, rfl, hs⟩ := hrel
    have HS := Lib.hid hs
    clear hs H0
    cases gk with
    | zero =>
      obtain rfl : k = m := by omega
      rw [HEND.out] at HS
      go_wp2_with fail
      go_end0
      exact ⟨rfl, HS.out⟩
    | succ gq =>
      obtain ⟨x, y, hx, hy, hst⟩ := HNX.out k (by omega)
      obtain ⟨p, hp⟩ : ∃ p, a + k = p := ⟨_, rfl⟩
      obtain ⟨q, hq⟩ : ∃ q, b + k = q := ⟨_, rfl⟩
      rw [hp] at hx hst; rw [hq] at hy hst
      have hkm : (k : Int) < m := by omega
      have hpn : (p : Int) < n := by omega
      have hqn : (q : Int) < n := by omega
      have hpn2 : ¬ n ≤ p := by omega
      have hqn2 : ¬ n ≤ q := by omega
      have hpe : (a : Int) + (k : Int) = (p : Int) := by omega
      have hqe : (b : Int) + (k : Int) = (q : Int) := by omega
      have hwp : IntKind.i64.wrap ((a : Int) + (k : Int)) = (p : Int) := by rw [IntKind.wrap_i64]; omega
      have hwq : IntKind.i64.wrap ((b : Int) + (k : Int)) = (q : Int) := by rw [IntKind.wrap_i64]; omega
      have HKG := Lib.hid hkg
      clear hkg hp hq
      go_upto_region 3 with fail
      obtain ⟨x0, x1, x2⟩ := HS.out.cells hx
      obtain ⟨y0, y1, y2⟩ := HS.out.cells hy
      have hadd := add_mkV g (p * 3)
      have hadd1 := add_mkV g (q * 3)
      have hf := HS.out.frozen
      have HP1 := HS.out.swap hx hy
      rw [hst] at HP1
      have HP2 := Lib.hid HP1
      clear HP1 HS hx hy hst HEND HNX
      go_region
      generalize hWW : World.setCell _ _ _ = W6 at HP2 ⊢
      have HP3 := Lib.hid (show SrtAt w0 base g n c (swL P U M V S (k + 1)) W6 from HP2.out)
      clear HP2 hWW
      go_wp2_with fail
      go_roundg gq
      case measure => omega
      case rel => exact ⟨k + 1, by have := HKG.out; omega, by first | rfl | go_num, HP3.out.below (Below.refl _ _).drew⟩
set_option maxHeartbeats 2000000 in
theorem rotate_any (w0 : World) (base g n c a m b : Nat) (P U V S : List RowT) (w : World) (h : SrtAt w0 base g n c (P ++ (U ++ (V ++ S))) w) (hP : P.length = a) (hU : a + U.length = m) (hV : m + V.length = b) (h0 : a < m) (h1 : m < b) (hn : n ≤ 1000000) :
    Calls Tryz.prog 171 #[.slice (some ⟨g, 0, none⟩) n c, .int .i64 a, .int .i64 m, .int .i64 b, .func (.func 105) #[] #[]] w fun e w' => e = .returned (.tuple #[]) ∧ SrtAt w0 base g n c (P ++ (V ++ (U ++ S))) w' := by
  have hL := h.len
  simp only [List.length_append] at hL
  have hbn : b ≤ n := by omega
  obtain ⟨T, hT⟩ : ∃ T, P ++ (V ++ (U ++ S)) = T := ⟨_, rfl⟩
  rw [hT]
  have H0 := Lib.hid (show ∃ P' U' V' S', SrtAt w0 base g n c (P' ++ (U' ++ (V' ++ S'))) w ∧ P'.length + U'.length = m ∧ U'.length = m - a ∧ V'.length = b - m ∧ P' ++ (V' ++ (U' ++ S')) = T from ⟨P, U, V, S, h, by omega, by omega, by omega, hT⟩)
  obtain ⟨i0, hi0⟩ : ∃ i, m - a = i := ⟨_, rfl⟩
  obtain ⟨j0, hj0⟩ : ∃ j, b - m = j := ⟨_, rfl⟩
  have hw1 : IntKind.i64.wrap ((m : Int) - (a : Int)) = (i0 : Int) := by rw [IntKind.wrap_i64]; omega
  have hw2 : IntKind.i64.wrap ((b : Int) - (m : Int)) = (j0 : Int) := by rw [IntKind.wrap_i64]; omega
  have hi1 : 0 < i0 := by omega
  have hj1 : 0 < j0 := by omega
  rw [hi0, hj0] at H0
  have hmm : m ≤ 1000000 ∧ i0 ≤ m ∧ m + j0 ≤ n := by omega
  clear h hL hT hP hU hV h0 h1 hi0 hj0 hbn
  go_enter Tryz.func171, Tryz.ntmps171
  go_wp2_with fail
  go_loopg [10, 11] (i0 + j0) (fun gk x10 x11 wr => ∃ i j : Nat, i + j = gk ∧ 0 < i ∧ 0 < j ∧ i ≤ m ∧ m + j ≤ n ∧ x10 = .int .i64 i ∧ x11 = .int .i64 j ∧ ∃ P' U' V' S', SrtAt w0 base g n c (P' ++ (U' ++ (V' ++ S'))) wr ∧ P'.length + U'.length = m ∧ U'.length = i ∧ V'.length = j ∧ P' ++ (V' ++ (U' ++ S')) = T)
  case atStart => exact ⟨i0, j0, rfl, hi1, hj1, hmm.2.1, hmm.2.2, rfl, rfl, H0.out⟩
  case round =>
    clear H0 hw1 hw2 hi1 hj1 hmm
    obtain ⟨i, j, hij, hi, hj, him, hjn, rfl, rfl, P', U', V', S', hs, hl1, hl2, hl3, hT⟩ := hrel
    have HS := Lib.hid hs; have HT := Lib.hid hT; have HG := Lib.hid hij
    clear hs hT hij
    obtain ⟨ai, hai⟩ : ∃ x, m - i = x := ⟨_, rfl⟩
    have hwa : IntKind.i64.wrap ((m : Int) - (i : Int)) = (ai : Int) := by rw [IntKind.wrap_i64]; omega
    rcases Nat.lt_trichotomy i j with hlt | heq | hgt
    · -- j is longer
      obtain ⟨bi, hbi⟩ : ∃ x, m + j - i = x := ⟨_, rfl⟩
      have t1 : ((i : Int) != (j : Int)) = true := by simp; omega
      have t2 : ¬ (j : Int) < (i : Int) := by omega
      have t3 : ¬ j < i := by omega
      have hw3 : IntKind.i64.wrap ((m : Int) + (j : Int)) = (m : Int) + (j : Int) := by rw [IntKind.wrap_i64]; omega
      have hw4 : IntKind.i64.wrap ((m : Int) + (j : Int) - (i : Int)) = (bi : Int) := by rw [IntKind.wrap_i64]; omega
      obtain ⟨jn, hjn2⟩ : ∃ x, j - i = x := ⟨_, rfl⟩
      have hw5 : IntKind.i64.wrap ((j : Int) - (i : Int)) = (jn : Int) := by rw [IntKind.wrap_i64]; omega
      have e1 : V' = V'.take (j - i) ++ V'.drop (j - i) := (List.take_append_drop _ _).symm
      have l4 : (V'.drop (j - i)).length = i := by rw [List.length_drop]; omega
      have l5 : (V'.take (j - i)).length = j - i := by rw [List.length_take]; omega
      generalize V'.take (j - i) = V1 at *
      generalize V'.drop (j - i) = V2 at *
      subst e1
      have HC := Lib.hid (swaprange_any w0 base g n c ai bi i P' U' V1 V2 S' wr (by have h := HS.out; simpa only [List.append_assoc] using h) (by omega) hl2 l4 (by omega) hn)
      have HT2 : Hid ((P' ++ (V1 ++ (V2 ++ (U' ++ S')))) = T) := Lib.hid (by rw [← HT.out]; simp only [List.append_assoc])
      have hl6 : jn + i = j := by omega
      have hl7 : V1.length = jn := by omega
      clear HS HT hai hbi hjn2 l5 hl3
      go_wp2_with fail
      (with_reducible refine HC.out.mono ?_); rintro e w1 ⟨rfl, hs⟩
      have HS1 := Lib.hid hs
      clear hs HC
      go_wp2_with fail
      go_roundg (i + jn)
      case measure => have := HG.out; omega
      case rel => exact ⟨i, jn, rfl, hi, by omega, him, by omega, rfl, rfl, P', V2, V1, U' ++ S', by first | exact HS1.out | simpa only [List.append_assoc] using HS1.out, by omega, l4, hl7, HT2.out⟩
    · subst heq
      have t1 : ((i : Int) != (i : Int)) = false := by simp
      have HC := Lib.hid (swaprange_any w0 base g n c ai m i P' U' [] V' S' wr (by have h := HS.out; simpa only [List.nil_append] using h) (by omega) hl2 hl3 (by simp; omega) hn)
      have HT2 : Hid (P' ++ (V' ++ ([] ++ (U' ++ S'))) = T) := Lib.hid HT.out
      clear HS HT hai
      go_wp2_with fail
      (with_reducible refine HC.out.mono ?_); rintro e w1 ⟨rfl, hs⟩
      have HS1 := Lib.hid hs
      clear hs HC
      go_wp2_with fail
      go_end0
      exact ⟨rfl, by have h := HS1.out; rwa [HT2.out] at h⟩
    · have t1 : ((i : Int) != (j : Int)) = true := by simp; omega
      have t2 : (j : Int) < (i : Int) := by omega
      have t3 : j < i := hgt
      obtain ⟨i2, hi2⟩ : ∃ x, i - j = x := ⟨_, rfl⟩
      have hw5 : IntKind.i64.wrap ((i : Int) - (j : Int)) = (i2 : Int) := by rw [IntKind.wrap_i64]; omega
      have e1 : U' = U'.take j ++ U'.drop j := (List.take_append_drop _ _).symm
      have l4 : (U'.take j).length = j := by rw [List.length_take]; omega
      have l5 : (U'.drop j).length = i2 := by rw [List.length_drop]; omega
      generalize U'.take j = U1 at *
      generalize U'.drop j = U2 at *
      subst e1
      have HC := Lib.hid (swaprange_any w0 base g n c ai m j P' U1 U2 V' S' wr (by have h := HS.out; simpa only [List.append_assoc] using h) (by rw [List.length_append] at hl1; omega) l4 hl3 (by omega) hn)
      have HT2 : Hid (((P' ++ V') ++ (U1 ++ (U2 ++ S'))) = T) := Lib.hid (by rw [← HT.out]; simp only [List.append_assoc])
      have hl8 : (P' ++ V').length + U2.length = m := by rw [List.length_append] at hl1 ⊢; omega
      clear HS HT hai hl1 hl2
      go_wp2_with fail
      (with_reducible refine HC.out.mono ?_); rintro e w1 ⟨rfl, hs⟩
      have HS1 := Lib.hid hs
      clear hs HC
      go_wp2_with fail
      go_roundg (i2 + j)
      case measure => have := HG.out; omega
      case rel => exact ⟨i2, j, rfl, by omega, hj, by omega, hjn, rfl, rfl, P' ++ V', U2, U1, S', by simpa only [List.append_assoc] using HS1.out, hl8, l5, l4, HT2.out⟩
end Go.Proofs.YtlmakdclebbbkaaGreat
