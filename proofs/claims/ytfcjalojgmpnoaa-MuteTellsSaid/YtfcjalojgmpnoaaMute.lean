/- mute.Silenced, Inhibited, Heard. -/
import Derived.Test.YtfcjalojgmpnoaaMuteMath
import Derived.Deep.CutBlock
import Derived.Deep.DeepCutAuto
namespace Go.Proofs.Ytfcjalojgmpnoaa
open Go.ChangeShapes Go.WideShapes Go.ChangeAt Go.RowKit
set_option linter.unusedVariables false
set_option maxRecDepth 100000
theorem all_h {W : World} {v vm : Value} {l : List Lbl} {ms : List Mtc} (h : HasL W v l) (h2 : HasM W vm ms) :
    Calls Try.prog 19 #[v, vm] W fun e w' => e = .returned (.bool (allF l ms)) ∧ Below W.heap.size W w' := by
  obtain ⟨A, c, rfl, h3, h4, h5⟩ := h
  obtain ⟨A2, c2, rfl, k3, k4, k5⟩ := h2
  exact all_any A _ c _ l A2 _ c2 _ ms W h3 (Nat.le_refl _) (by omega) k3 (Nat.le_refl _) (by omega)
theorem HasM.form {w : World} {v : Value} {l : List Mtc} (h : HasM w v l) : ∃ A c, v = .slice A l.length c := by
  obtain ⟨A, c, h1, _⟩ := h; exact ⟨A, c, h1⟩
theorem HasS.form {w : World} {v : Value} {l : List ByteArray} (h : HasS w v l) : ∃ A c, v = .slice A l.length c ∧ l.length ≤ c ∧ c ≤ 9223372036854775807 := by
  obtain ⟨A, c, h1, _, h2⟩ := h; exact ⟨A, c, h1, h2⟩
theorem HasS.sees {w : World} {A : Option Addr} {n c : Nat} {l : List ByteArray} (h : HasS w (.slice A n c) l) : Sees w w.heap.size 1 A n (strs l) := by
  obtain ⟨A', c', h1, h2, h3, h4⟩ := h
  injection h1 with h1 h5 h6
  subst h1; subst h5; subst h6
  exact h2
theorem silOne_no {l : List Lbl} {t : Int} {s : Sil} (h : ¬ s.f ≤ t ∨ ¬ t < s.t ∨ allF l s.ms = false) : silOne l t s = false := by
  unfold silOne
  rcases h with h | h | h
  · rw [decide_eq_false h, Bool.false_and]
  · rw [decide_eq_false h, Bool.false_and, Bool.and_false]
  · rw [h, Bool.and_false, Bool.and_false]
theorem silOne_yes {l : List Lbl} {t : Int} {s : Sil} (h : s.f ≤ t) (h2 : t < s.t) (h3 : allF l s.ms = true) : silOne l t s = true := by
  unfold silOne; rw [decide_eq_true h, decide_eq_true h2, h3]; rfl
set_option maxHeartbeats 2000000 in
theorem silenced_any (v : Value) (l : List Lbl) (t : Int) (A : Option Addr) (n c : Nat) (ss : List Sil) (w : World) (hv : HasL w v l) (hS : SilsAt w A n ss) (hn : n ≤ 9223372036854775807) :
    Calls Try.prog 9 #[v, .int .i64 t, .slice A n c] w fun e w' => e = .returned (.bool (silF l t ss)) ∧ Below w.heap.size w w' := by
  have HT := Lib.hid (((Kept.start w).add hv.stay).add hS.stays)
  have HL := Lib.hid hS.len
  obtain ⟨A0, c0, rfl⟩ := hv.form
  clear hv hS
  go_enter Try.func9, Try.ntmps9
  go_wp2_with fail
  go_loopg [11] n (fun g x11 wr => ∃ k : Nat, k + g = n ∧ x11 = .int .i64 k ∧ Kept w [fun W => SilsAt W A n ss, fun W => HasL W (.slice A0 l.length c0) l] wr ∧ ∀ x ∈ ss.take k, silOne l t x = false)
  case atStart => exact ⟨0, by omega, rfl, HT.out, (fun x hx => by simp at hx)⟩
  case round =>
    obtain ⟨k, hkg, rfl, hkept, hno⟩ := hrel
    have HTR := Lib.hid hkept; have HNO := Lib.hid hno
    clear hkept hno HT
    cases gk with
    | zero =>
      obtain rfl : k = n := by omega
      have HE := Lib.hid (show silF l t ss = false from any_no (by rw [HL.out]; exact Nat.le_refl _) HNO.out)
      go_wp2_with fail
      go_ret
      exact ⟨by rw [HE.out]; rfl, HTR.out.bel⟩
    | succ g =>
      have hlt : k < n := by omega
      obtain ⟨ad, hkl, rfl, e0, e1, e2⟩ := HTR.out.p0.get hlt
      have hal := World.block_lt_of_cell? wr _ e0
      have hm := HTR.out.p0.ms ss[k] (List.getElem_mem _)
      have HN : Hid (silOne l t ss[k] = false → ∀ x ∈ ss.take (k + 1), silOne l t x = false) := Lib.hid (fun h => upto_more hkl HNO.out h)
      have HY : Hid (silOne l t ss[k] = true → silF l t ss = true) := Lib.hid (fun h => any_yes hkl h)
      generalize ss[k] = s at *
      obtain ⟨sv, sm, sf, st⟩ := s
      simp only at e0 e1 e2 hm
      obtain ⟨A2, c2, rfl⟩ := hm.form
      have HTR_n := Lib.hid (HTR.out.add hm.stay); clear HTR; have HTR := HTR_n; clear HTR_n
      have HTR_n := Lib.hid (HTR.out.alloc (.cells #[.slice A2 sm.length c2, .int .i64 sf, .int .i64 st] 31)); clear HTR; have HTR := HTR_n; clear HTR_n
      clear hm
      by_cases h1 : sf ≤ t
      · by_cases h2 : t < st
        · have HAL := Lib.hid (fun V (h : Kept w [fun W => HasM W (.slice A2 sm.length c2) sm, fun W => SilsAt W (some ad) n ss, fun W => HasL W (.slice A0 l.length c0) l] V) => all_h h.p2 h.p0)
          have HR : Hid (∀ r, allF l sm = r → silOne l t ⟨.slice A2 sm.length c2, sm, sf, st⟩ = r) := Lib.hid (fun r h => by subst h; unfold silOne; rw [decide_eq_true h1, decide_eq_true h2]; rfl)
          obtain ⟨r, hr⟩ : ∃ r, allF l sm = r := ⟨_, rfl⟩
          have HR2 := Lib.hid (HR.out r hr)
          rw [hr] at HAL
          clear HR hr
          cases r with
          | true =>
            have HE := Lib.hid (HY.out HR2.out)
            clear HN HY HR2
            go_wp2_with fail
            (with_reducible refine (HAL.out _ HTR.out).mono ?_); rintro e wq ⟨rfl, hbq⟩
            have HTR_n := Lib.hid (HTR.out.below hbq); clear HTR hbq; have HTR := HTR_n; clear HTR_n
            go_wp2_with fail
            go_ret
            exact ⟨by rw [HE.out]; rfl, HTR.out.bel⟩
          | false =>
            have HN1 := Lib.hid (HN.out HR2.out)
            clear HN HY HR2
            go_wp2_with fail
            (with_reducible refine (HAL.out _ HTR.out).mono ?_); rintro e wq ⟨rfl, hbq⟩
            have HTR_n := Lib.hid (HTR.out.below hbq); clear HTR hbq; have HTR := HTR_n; clear HTR_n
            go_wp2_with fail
            go_roundg g
            case measure => omega
            case rel => exact ⟨k + 1, by omega, by go_num, HTR.out.tail, HN1.out⟩
        · have HN1 := Lib.hid (HN.out (silOne_no (.inr (.inl h2))))
          clear HN HY
          go_wp2_with fail
          go_roundg g
          case measure => omega
          case rel => exact ⟨k + 1, by omega, by go_num, HTR.out.tail, HN1.out⟩
      · have HN1 := Lib.hid (HN.out (silOne_no (.inl h1)))
        clear HN HY
        go_wp2_with fail
        go_roundg g
        case measure => omega
        case rel => exact ⟨k + 1, by omega, by go_num, HTR.out.tail, HN1.out⟩
end Go.Proofs.Ytfcjalojgmpnoaa
