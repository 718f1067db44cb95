/- klaxonlaw19.notes. -/
import Derived.Test.YtepgllmenljkcaaMailCopies
namespace Go.Proofs.Ytepgllmenljkcaa
open Go.ChangeShapes Go.WideShapes Go.ChangeAt Go.RowKit
set_option linter.unusedVariables false
set_option linter.unusedSimpArgs false
set_option maxRecDepth 100000
set_option maxHeartbeats 4000000 in
theorem notes_same (A A2 : Option Addr) (n c n2 c2 B B2 : Nat) (xs ys : List NV) (w : World) (h : Sees w B 3 A n (ncells xs)) (h2 : Sees w B2 3 A2 n2 (ncells ys)) (hx : ∀ x ∈ xs, NOk w x) (hy : ∀ y ∈ ys, NOk w y)
    (hk : xs.map NV.key = ys.map NV.key) (hn : n ≤ 1000000) (hal : ∀ x ∈ xs, x.al.length ≤ 1000000) :
    Calls Try.prog 14 #[.slice A n c, .slice A2 n2 c2] w fun e w' => e = .returned (.bool true) ∧ ∃ m, w' = w.drewN m := by
  have hnn : n = n2 := by
    have e := congrArg List.length hk
    rw [List.length_map, List.length_map, h.note_len, h2.note_len] at e
    exact e
  subst hnn
  have H := Lib.hid h; have H2 := Lib.hid h2; have HX := Lib.hid hx; have HY := Lib.hid hy; have HKY := Lib.hid hk; have HAL := Lib.hid hal
  clear h h2 hx hy hk hal
  go_enter Try.func14, Try.ntmps14
  go_wp2_with fail
  go_loopg [13] n (fun g x13 wr => ∃ k m : Nat, k + g = n ∧ x13 = .int .i64 k ∧ wr = w.drewN m)
  case atStart => exact ⟨0, 0, by omega, rfl, rfl⟩
  case round =>
    obtain ⟨k, m, hkg, rfl, hwr⟩ := hrel
    have HWR := Lib.hid hwr
    clear hwr
    cases gk with
    | zero =>
      obtain rfl : k = n := by omega
      go_wp2_with fail
      go_ret
      exact ⟨rfl, m, HWR.out⟩
    | succ g2 =>
      have hkn : k < n := by omega
      obtain ⟨ad, hkl, rfl, e0, e1, e2⟩ := (show Sees wr B 3 A n (ncells xs) by rw [HWR.out]; exact H.out.drewN m).note hkn
      obtain ⟨ad2, hkl2, rfl, d0, d1, d2⟩ := (show Sees wr B2 3 A2 n (ncells ys) by rw [HWR.out]; exact H2.out.drewN m).note hkn
      have hxk := HX.out xs[k] (List.getElem_mem _)
      have hyk := HY.out ys[k] (List.getElem_mem _)
      have halk := HAL.out xs[k] (List.getElem_mem _)
      have hkk : xs[k].key = ys[k].key := by
        have e := congrArg (fun l => l[k]?) HKY.out
        simpa [hkl, hkl2] using e
      generalize xs[k] = x at *
      generalize ys[k] = y at *
      obtain ⟨xd, xg, xA, xc, xal⟩ := x
      obtain ⟨yd, yg, yA, yc, yal⟩ := y
      simp only [NV.key, Prod.mk.injEq] at hkk
      obtain ⟨rfl, rfl, rfl⟩ := hkk
      have HXS := Lib.hid (show Sees wr w.heap.size 1 _ _ _ by rw [HWR.out]; exact hxk.sees.drewN m); have HYS := Lib.hid (show Sees wr w.heap.size 1 _ _ _ by rw [HWR.out]; exact hyk.sees.drewN m)
      simp only at HXS HYS halk e0 e1 e2 d0 d1 d2
      clear hxk hyk
      have HSM := Lib.hid (fun V (h1 : Sees V w.heap.size 1 xA xal.length (strs xal)) (h2 : Sees V w.heap.size 1 yA xal.length (strs xal)) => same_str xA yA xal.length xc xal.length yc _ _ xal xal V h1 h2 (by omega) (by omega))
      rw [decide_eq_true (rfl : xal = xal)] at HSM
      go_wp2_with fail
      go_quiet ((refine ((HSM.out _ (HXS.out.drewN _) (HYS.out.drewN _)).mono fun e w'' hh => ⟨hh.1, ?_⟩); obtain ⟨m, rfl⟩ := hh.2; exact ⟨_, World.drewN_drewN _ _ _⟩))
      go_wp2_with fail
      go_roundg g2
      case measure => omega
      case rel => exact ⟨k + 1, _, by omega, by go_num, by rw [HWR.out]; exact World.drewN_drewN _ _ _⟩
end Go.Proofs.Ytepgllmenljkcaa
