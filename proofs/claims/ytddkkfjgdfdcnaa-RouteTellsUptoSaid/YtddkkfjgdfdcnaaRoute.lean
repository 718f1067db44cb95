/- route.Count, right, Right. -/
import Derived.Test.YtddkkfjgdfdcnaaRouteMath
import Derived.Deep.CutBlock
import Derived.Deep.DeepCutAuto
namespace Go.Proofs.Ytddkkfjgdfdcnaa
open Go.ChangeShapes Go.WideShapes Go.ChangeAt Go.RowKit
set_option linter.unusedVariables false
set_option linter.unusedSimpArgs false
set_option maxRecDepth 100000
theorem HasK.form {w : World} {v : Value} {l : List RT} (h : HasK w v l) : ∃ A c, v = .slice A l.length c ∧ l.length ≤ c ∧ c ≤ 9223372036854775807 := by
  obtain ⟨A, c, h1, _, h2⟩ := h; exact ⟨A, c, h1, h2⟩
theorem HasM.form2 {w : World} {v : Value} {l : List Mtc} (h : HasM w v l) : ∃ A c, v = .slice A l.length c ∧ l.length ≤ c ∧ c ≤ 9223372036854775807 := by
  obtain ⟨A, c, h1, _, h2⟩ := h; exact ⟨A, c, h1, h2⟩
theorem rightMat_h {W : World} {vm : Value} {ms : List Mtc} (h2 : HasM W vm ms) :
    Calls Try.prog 33 #[vm] W fun e w' => e = .returned (.bool (rightM ms)) ∧ Below W.heap.size W w' := by
  obtain ⟨A2, c2, rfl, k3, k4, k5⟩ := h2
  exact rightM_any A2 _ c2 _ ms W k3 (Nat.le_refl _) (by omega)
set_option maxHeartbeats 2000000 in
theorem count_any : ∀ (d : Nat) (r : RT) (w : World), okAt d r w → countF d r ≤ 1000000 →
    Calls Try.prog 10 #[r.val] w fun e w' => e = .returned (.int .i64 (countF d r)) ∧ Below w.heap.size w w'
  | 0, _, _, h, _ => h.elim
  | d + 1, .mk mv ms nm gs kv ks, w, h, hc => by
    obtain ⟨hm, hk, hks⟩ := h
    simp only [RT.mv, RT.ms, RT.kv, RT.kids] at hm hk hks
    obtain ⟨Am, cm, rfl, hm1, hm2⟩ := hm.form2
    obtain ⟨Ak, ck, rfl, hk1, hk2⟩ := hk.form
    have HC : Hid (countF (d + 1) (.mk (.slice Am ms.length cm) ms nm gs (.slice Ak ks.length ck) ks) = 1 + (ks.map (countF d)).sum) := Lib.hid rfl
    rw [HC.out] at hc
    have HT := Lib.hid ((((Kept.start w).add (P := fun W => ∀ k ∈ ks, okAt d k W) (fun W hb k hk => okAt_below hb d k (hks k hk))).add hk.stay).alloc (.cells #[.slice Am ms.length cm, .string nm, .bool gs, .slice Ak ks.length ck] 28))
    have HBX := Lib.hid (Blk.mk (heap_alloc_new w (.cells #[.slice Am ms.length cm, .string nm, .bool gs, .slice Ak ks.length ck] 28)) : Blk _ w.heap.size 28 [.slice Am ms.length cm, .string nm, .bool gs, .slice Ak ks.length ck])
    have b3 := HBX.out.cell 3
    simp only [List.getElem?_cons_zero, List.getElem?_cons_succ] at b3
    have HIH := Lib.hid (fun (k : RT) (V : World) (h : okAt d k V) (h2 : countF d k ≤ 1000000) => count_any d k V h h2)
    clear hm hk hks
    show Calls _ _ #[.agg #[.slice Am ms.length cm, .string nm, .bool gs, .slice Ak ks.length ck]] _ _
    obtain ⟨W1, hW1⟩ : ∃ W, w.alloc (.cells #[.slice Am ms.length cm, .string nm, .bool gs, .slice Ak ks.length ck] 28) = W := ⟨_, rfl⟩
    rw [hW1] at HT b3
    clear HBX
    go_enter Try.func10, Try.ntmps10
    go_wp2_with fail
    clear hW1 b3
    go_loopg [3, 9] ks.length (fun g x3 x9 wr => ∃ k : Nat, k + g = ks.length ∧ x9 = .int .i64 k ∧ x3 = .int .i64 ((1 + ((ks.map (countF d)).take k).sum : Nat) : Int) ∧ Kept w [fun W => HasK W (.slice Ak ks.length ck) ks, fun W => ∀ k ∈ ks, okAt d k W] wr)
    case atStart => exact ⟨0, by omega, rfl, by simp, HT.out⟩
    case round =>
      obtain ⟨k, hkg, rfl, rfl, hkept⟩ := hrel
      have HTR := Lib.hid hkept
      clear hkept HT
      cases gk with
      | zero =>
        obtain rfl : k = ks.length := by omega
        have HE := Lib.hid (show 1 + ((ks.map (countF d)).take ks.length).sum = 1 + (ks.map (countF d)).sum by rw [List.take_of_length_le (by simp)])
        rw [HE.out]
        go_wp2_with fail
        go_ret
        exact ⟨by rw [HC.out]; rfl, HTR.out.bel⟩
      | succ g =>
        have hlt : k < ks.length := by omega
        obtain ⟨ad, hkl, hA, e0, e1, e2, e3⟩ := HTR.out.p0.get hlt
        subst hA
        have hal := World.block_lt_of_cell? wr _ e0
        have hq := HTR.out.p1 ks[k] (List.getElem_mem _)
        have hsum := sum_take_succ (l := ks.map (countF d)) (k := k) (by simpa using hkl)
        rw [show (ks.map (countF d))[k]'(by simpa using hkl) = countF d ks[k] by simp] at hsum
        have hle := sum_take_le (ks.map (countF d)) (k + 1)
        have HIQ := Lib.hid (fun V (h : okAt d (ks[k]'hkl) V) => HIH.out (ks[k]'hkl) V h (by omega))
        generalize ks[k] = q at *
        obtain ⟨A5, c5, A6, c6, hv5, hv6⟩ : ∃ A5 c5 A6 c6, q.mv = .slice A5 q.ms.length c5 ∧ q.kv = .slice A6 q.kids.length c6 := by
          cases d with
          | zero => exact hq.elim
          | succ d =>
            obtain ⟨h1, h2, _⟩ := hq
            obtain ⟨A5, c5, e5, _⟩ := h1.form2
            obtain ⟨A6, c6, e6, _⟩ := h2.form
            exact ⟨A5, c5, A6, c6, e5, e6⟩
        rw [hv5] at e0
        rw [hv6] at e3
        have hval : q.val = .agg #[.slice A5 q.ms.length c5, .string q.nm, .bool q.goes, .slice A6 q.kids.length c6] := by unfold RT.val; rw [hv5, hv6]
        rw [hval] at HIQ
        have HQ := Lib.hid (okAt_below ((Below.refl wr.heap.size wr).alloc (Nat.le_refl _) (.cells #[.slice A5 q.ms.length c5, .string q.nm, .bool q.goes, .slice A6 q.kids.length c6] 28)) d q hq)
        have HTA := Lib.hid (HTR.out.alloc (.cells #[.slice A5 q.ms.length c5, .string q.nm, .bool q.goes, .slice A6 q.kids.length c6] 28))
        obtain ⟨s, hs⟩ : ∃ s, 1 + ((ks.map (countF d)).take k).sum = s := ⟨_, rfl⟩
        have HN := Lib.hid (show ((s : Int) + (countF d q : Nat)) = ((1 + ((ks.map (countF d)).take (k + 1)).sum : Nat) : Int) by rw [hsum]; omega)
        have hb : s + countF d q ≤ 1000000 := by omega
        rw [hs]
        clear hsum hle hs hq hv5 hv6 hval HTR
        generalize q.ms.length = lm at *
        generalize q.kids.length = lk at *
        generalize q.nm = qn at *
        generalize q.goes = qg at *
        generalize countF d q = cq at *
        go_wp2_with fail
        (with_reducible refine (HIQ.out _ HQ.out).mono ?_); rintro e wq ⟨rfl, hbq⟩
        have HTA_n := Lib.hid (HTA.out.below hbq); clear HTA; have HTA := HTA_n; clear HTA_n
        clear hbq HQ
        go_wp2_with fail
        go_roundg g
        case measure => omega
        case rel => exact ⟨k + 1, by omega, by go_num, by rw [← HN.out], HTA.out⟩
end Go.Proofs.Ytddkkfjgdfdcnaa
