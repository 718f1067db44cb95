/- klaxonlaw8.count: how many picks. -/
import Derived.Test.YtcaapbbbekggiaaGreatDoorPicksAny
namespace Go.Proofs.YtcaapbbbekggiaaGreatDoor
open Go.ChangeShapes Go.WideShapes Go.ChangeAt Go.RowKit
set_option linter.unusedVariables false
set_option linter.unusedSimpArgs false
set_option maxRecDepth 100000
def CountSaid (d : Nat) : Prop := ∀ (x : XE) (w : World), okX d x w → x.pe.count ≤ 1000000 → Calls Tryz.prog 13 #[x.val] w fun e w' => e = .returned (.int .i64 (x.pe.count : Nat)) ∧ Below w.heap.size w w'
set_option maxHeartbeats 2000000 in
theorem count_step (d : Nat) (IH : CountSaid d) : CountSaid (d + 1) := by
  intro x w h hcnt
  obtain ⟨A1, c1, A2, c2, A3, c3, e1, e2, e3⟩ := okX_forms h
  obtain ⟨kk, nn, mv, ms, nv, ns, kv, ks⟩ := x
  simp only [XE.mv, XE.nv, XE.kv, XE.ms, XE.ns, XE.kids] at e1 e2 e3
  subst e1; subst e2; subst e3
  obtain ⟨nb, hnb⟩ : ∃ b : Nat, (if kk = 2 then 1 else 0) = b := ⟨_, rfl⟩
  have hct : (XE.mk kk nn (.slice A1 ms.length c1) ms (.slice A2 ns.length c2) ns (.slice A3 ks.length c3) ks).pe.count = nb + countP (pesX ks) := by
    show PE.count (.mk kk nn ms ns (pesX ks)) = _
    unfold PE.count; rw [hnb]
  rw [hct] at hcnt ⊢
  have HNB := Lib.hid hnb
  have HCT := Lib.hid hcnt
  have HB0 := Lib.hid ((Below.refl w.heap.size w).alloc (Nat.le_refl _) (.cells #[.int .i64 kk, .int .i64 nn, .slice A1 ms.length c1, .slice A2 ns.length c2, .slice A3 ks.length c3] 26))
  have HSL := Lib.hid (show Slc w 5 (.slice A3 ks.length c3) ks.length (kcells ks) from h.2.2.1)
  have HO := Lib.hid (show ∀ k ∈ ks, okX d k w from h.2.2.2)
  have HBX := Lib.hid (Blk.mk (heap_alloc_new w (.cells #[.int .i64 kk, .int .i64 nn, .slice A1 ms.length c1, .slice A2 ns.length c2, .slice A3 ks.length c3] 26)) : Blk _ w.heap.size 26 [.int .i64 kk, .int .i64 nn, .slice A1 ms.length c1, .slice A2 ns.length c2, .slice A3 ks.length c3])
  have HIH := Lib.hid IH
  obtain ⟨tot, htot⟩ : ∃ t, nb + countP (pesX ks) = t := ⟨_, rfl⟩
  have HTOT := Lib.hid htot
  rw [htot] at hcnt ⊢
  show Calls _ _ #[.agg #[.int .i64 kk, .int .i64 nn, .slice A1 ms.length c1, .slice A2 ns.length c2, .slice A3 ks.length c3]] _ _
  clear h IH hct hnb htot HCT
  go_enter Tryz.func13, Tryz.ntmps13
  go_upto_region 2 with fail
  generalize w.alloc (.cells #[.int .i64 kk, .int .i64 nn, .slice A1 ms.length c1, .slice A2 ns.length c2, .slice A3 ks.length c3] 26) = W1 at *
  obtain ⟨x0, x1, x2, x3, x4⟩ := blk_cells5 HBX.out
  obtain ⟨pb, hpb⟩ : ∃ p, (kk == 2) = p := ⟨_, rfl⟩
  have HPB := Lib.hid hpb
  go_upto_if 8 with fail
  clear hpb
  go_cut [3] (fun y3 wx => y3 = .int .i64 (nb : Nat) ∧ wx = W1)
  case first => --done
    cases pb with
    | true =>
      have HE := Lib.hid (show nb = 1 by rw [← HNB.out, if_pos (by simpa using HPB.out)])
      go_wp2_with fail
      go_meet
      exact ⟨by rw [HE.out]; rfl, rfl⟩
    | false =>
      have HE := Lib.hid (show nb = 0 by rw [← HNB.out, if_neg (by simpa using HPB.out)])
      go_wp2_with fail
      go_meet
      exact ⟨by rw [HE.out]; rfl, rfl⟩
  case rest =>
    obtain ⟨rfl, hwc⟩ := hcut
    subst hwc
    clear HPB HNB
    obtain ⟨N, hN⟩ : ∃ N, ks.length = N := ⟨_, rfl⟩
    have HNE := Lib.hid hN
    rw [hN] at HSL x4
    obtain ⟨_, hm1, hm2⟩ := Slc.slice HSL.out
    clear hN
    go_wp2_with fail
    go_loopg [3, 12] N (fun g y3 y12 wr => ∃ k : Nat, k + g = N ∧ y12 = .int .i64 k ∧ y3 = .int .i64 ((nb + countP (pesX (ks.take k)) : Nat) : Int) ∧ Below w.heap.size w wr)
    case atStart => exact ⟨0, by omega, rfl, by simp [pesX, countP], HB0.out⟩
    case round =>
      obtain ⟨k, hkg, rfl, rfl, hbel⟩ := hrel
      have HB := Lib.hid hbel
      clear hbel x0 x1 x2 x3 x4
      cases gk with
      | zero => --done
        obtain rfl : k = N := by omega
        have HTK := Lib.hid (show nb + countP (pesX (ks.take k)) = tot by rw [List.take_of_length_le (by rw [HNE.out]; exact Nat.le_refl _)]; exact HTOT.out)
        rw [HTK.out]
        go_wp2_with fail
        go_ret
        exact ⟨rfl, HB.out⟩
      | succ g => --done
        have hlt : k < N := by omega
        obtain ⟨ad, hkl, hA, e0, e1, e2, e3, e4⟩ := (Slc.slice (HSL.out.below HB.out)).1.kid hlt
        subst hA
        have hki := okX_below HB.out d _ (HO.out ks[k] (List.getElem_mem hkl))
        have hsn := countP_snoc ks k hkl
        have hle := countP_at ks k hkl
        have htt := HTOT.out
        generalize ks[k] = q at *
        obtain ⟨B1, b1, B2, b2, B3, b3, v1, v2, v3⟩ := okX_forms hki
        rw [v1] at e2; rw [v2] at e3; rw [v3] at e4
        have hva : q.val = .agg #[.int .i64 q.kd, .int .i64 q.n, .slice B1 q.ms.length b1, .slice B2 q.ns.length b2, .slice B3 q.kids.length b3] := by unfold XE.val; rw [v1, v2, v3]
        have hal := (Below.refl wr.heap.size wr).alloc (Nat.le_refl _) (.cells #[.int .i64 q.kd, .int .i64 q.n, .slice B1 q.ms.length b1, .slice B2 q.ns.length b2, .slice B3 q.kids.length b3] 26)
        have HC0 := HIH.out q _ (okX_below hal d _ hki) (by omega)
        rw [hva] at HC0
        have HBA := Lib.hid (HB.out.trans (hal.mono HB.out.size))
        obtain ⟨s, hs⟩ : ∃ s, countP (pesX (ks.take k)) = s := ⟨_, rfl⟩
        obtain ⟨t, ht⟩ : ∃ t, q.pe.count = t := ⟨_, rfl⟩
        rw [hs] at hsn hle
        rw [ht] at hsn hle HC0
        rw [hs]
        have HCC := Lib.hid HC0
        have HSN := Lib.hid hsn
        obtain ⟨z, hz⟩ : ∃ z, nb + s = z := ⟨_, rfl⟩
        rw [hz]
        have HZ := Lib.hid hz
        have hzt : z + t ≤ 1000000 := by omega
        clear hki v1 v2 v3 hva hal HC0 hs ht hsn hle htt hz HB
        generalize q.ms.length = l1 at *
        generalize q.ns.length = l2 at *
        generalize q.kids.length = l3 at *
        generalize q.kd = qk at *
        generalize q.n = qn at *
        go_wp2_with fail
        (with_reducible refine HCC.out.mono ?_); rintro e wq ⟨rfl, hbq⟩
        have HB2 := Lib.hid (HBA.out.trans (hbq.mono HBA.out.size))
        clear hbq HCC HBA
        go_wp2_with fail
        go_roundg g
        case measure => omega
        case rel => exact ⟨k + 1, by omega, by go_num, by rw [HSN.out, ← Nat.add_assoc, HZ.out]; go_num, HB2.out⟩
theorem count_any : ∀ d, CountSaid d
  | 0 => fun x w h _ => h.elim
  | d + 1 => count_step d (count_any d)
end Go.Proofs.YtcaapbbbekggiaaGreatDoor
