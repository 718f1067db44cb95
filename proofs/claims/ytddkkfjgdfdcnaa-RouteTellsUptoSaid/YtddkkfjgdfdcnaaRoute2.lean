/- route.right, Right. -/
import Derived.Test.YtddkkfjgdfdcnaaRoute
namespace Go.Proofs.Ytddkkfjgdfdcnaa
open Go.ChangeShapes Go.WideShapes Go.ChangeAt Go.RowKit
set_option linter.unusedVariables false
set_option linter.unusedSimpArgs false
set_option maxRecDepth 100000
/-- A tree that lies in memory, opened. -/
theorem okAt_form {d : Nat} {q : RT} {w : World} (hq : okAt d q w) : ∃ A5 c5 A6 c6, q.mv = .slice A5 q.ms.length c5 ∧ q.kv = .slice A6 q.kids.length c6 := by
  cases d with
  | zero => exact hq.elim
  | succ d =>
    obtain ⟨h1, h2, _⟩ := hq
    obtain ⟨A5, c5, e5, _⟩ := h1.form2
    obtain ⟨A6, c6, e6, _⟩ := h2.form
    exact ⟨A5, c5, A6, c6, e5, e6⟩
set_option maxHeartbeats 4000000 in
theorem right_any : ∀ (d : Nat) (n : Nat) (r : RT) (w : World), okAt d r w → n ≤ 1000000 →
    Calls Try.prog 26 #[r.val, .int .i64 n] w fun e w' => e = .returned (.bool (rightF d n r)) ∧ Below w.heap.size w w'
  | 0, _, _, _, h, _ => h.elim
  | d + 1, n, .mk mv ms nm gs kv ks, w, h, hn => by
    obtain ⟨hm, hk, hks⟩ := h
    simp only [RT.mv, RT.ms, RT.kv, RT.kids] at hm hk hks
    obtain ⟨Am, cm, rfl, hm1, hm2⟩ := hm.form2
    obtain ⟨Ak, ck, rfl, hk1, hk2⟩ := hk.form
    have HC : Hid (rightF (d + 1) n (.mk (.slice Am ms.length cm) ms nm gs (.slice Ak ks.length ck) ks) = (decide (n ≤ 8) && (wordF nm && (rightM ms && ks.all (rightF d (n + 1)))))) := Lib.hid rfl
    have HT := Lib.hid ((((((Kept.start w).add (P := fun W => ∀ k ∈ ks, okAt d k W) (fun W hb k hk => okAt_below hb d k (hks k hk))).add hk.stay).add hm.stay).alloc (.cells #[.slice Am ms.length cm, .string nm, .bool gs, .slice Ak ks.length ck] 28)).add (Blk.mk (heap_alloc_new w (.cells #[.slice Am ms.length cm, .string nm, .bool gs, .slice Ak ks.length ck] 28)) : Blk _ w.heap.size 28 [.slice Am ms.length cm, .string nm, .bool gs, .slice Ak ks.length ck]).stays)
    have HIH := Lib.hid (fun (k : RT) (V : World) (h : okAt d k V) => fun (h9 : n + 1 ≤ 1000000) => right_any d (n + 1) k V h h9)
    clear hm hk hks
    show Calls _ _ #[.agg #[.slice Am ms.length cm, .string nm, .bool gs, .slice Ak ks.length ck], .int .i64 n] _ _
    obtain ⟨bx, hbx⟩ : ∃ b, w.heap.size = b := ⟨_, rfl⟩
    obtain ⟨W1, hW1⟩ : ∃ W, w.alloc (.cells #[.slice Am ms.length cm, .string nm, .bool gs, .slice Ak ks.length ck] 28) = W := ⟨_, rfl⟩
    rw [hW1, hbx] at HT
    have b0 := HT.out.p0.cell 0
    have b1 := HT.out.p0.cell 1
    simp only [List.getElem?_cons_zero, List.getElem?_cons_succ] at b0 b1
    have HWD := Lib.hid (fun V => word_any nm V)
    have HRM := Lib.hid (fun V (h : HasM V (.slice Am ms.length cm) ms) => rightMat_h h)
    have HD := Lib.hid hW1; have HDB := Lib.hid hbx
    generalize wordF nm = wf at *
    generalize rightM ms = rm at *
    by_cases h8 : n ≤ 8
    · have y8 : ¬ (8 : Int) < n := by omega
      have y9 : ¬ 8 < n := by omega
      rw [decide_eq_true h8, Bool.true_and] at HC
      cases wf with
      | false =>
        go_enter Try.func26, Try.ntmps26
        go_wp2_with fail
        clear hW1 hbx b0 b1
        (with_reducible refine (HWD.out _).mono ?_); rintro e wz ⟨rfl, rfl⟩
        go_wp2_with fail
        go_ret
        exact ⟨by rw [HC.out]; rfl, HT.out.bel⟩
      | true =>
        rw [Bool.true_and] at HC
        cases rm with
        | false =>
          go_enter Try.func26, Try.ntmps26
          go_wp2_with fail
          clear hW1 hbx b1
          (with_reducible refine (HWD.out _).mono ?_); rintro e wz ⟨rfl, rfl⟩
          go_wp2_with fail
          clear b0
          (with_reducible refine (HRM.out _ HT.out.p1).mono ?_); rintro e wq ⟨rfl, hbq⟩
          have HT_n := Lib.hid (HT.out.below hbq); clear HT; have HT := HT_n; clear HT_n
          clear hbq
          go_wp2_with fail
          go_ret
          exact ⟨by rw [HC.out]; rfl, HT.out.bel⟩
        | true =>
          rw [Bool.true_and] at HC
          go_enter Try.func26, Try.ntmps26
          go_wp2_with fail
          clear hW1 hbx b1
          (with_reducible refine (HWD.out _).mono ?_); rintro e wz ⟨rfl, rfl⟩
          go_wp2_with fail
          clear b0
          (with_reducible refine (HRM.out _ HT.out.p1).mono ?_); rintro e wq ⟨rfl, hbq⟩
          have HT_n := Lib.hid (HT.out.below hbq); clear HT; have HT := HT_n; clear HT_n
          have b3 := HT.out.p0.cell 3
          simp only [List.getElem?_cons_zero, List.getElem?_cons_succ] at b3
          clear hbq
          go_wp2_with fail
          clear b3 HD HDB HWD HRM
          go_loopg [24] ks.length (fun g x24 wr => ∃ k : Nat, k + g = ks.length ∧ x24 = .int .i64 k ∧ Kept w [fun W => Blk W bx 28 [.slice Am ms.length cm, .string nm, .bool gs, .slice Ak ks.length ck], fun W => HasM W (.slice Am ms.length cm) ms, fun W => HasK W (.slice Ak ks.length ck) ks, fun W => ∀ k ∈ ks, okAt d k W] wr ∧ ∀ x ∈ ks.take k, rightF d (n + 1) x = true)
          case atStart => exact ⟨0, by omega, rfl, HT.out, (fun x hx => by simp at hx)⟩
          case round =>
            obtain ⟨k, hkg, rfl, hkept, hno⟩ := hrel
            have HTR := Lib.hid hkept; have HNO := Lib.hid hno
            clear hkept hno HT
            cases gk with
            | zero =>
              have hke : k = ks.length := by omega
              have HE := Lib.hid (show ks.all (rightF d (n + 1)) = true from all_yes (by rw [hke]; exact Nat.le_refl _) HNO.out)
              go_wp2_with fail
              go_ret
              exact ⟨by rw [HC.out, HE.out]; rfl, HTR.out.bel⟩
            | succ g =>
              have hlt : k < ks.length := by omega
              obtain ⟨ad, hkl, hA, e0, e1, e2, e3⟩ := HTR.out.p2.get hlt
              subst hA
              have hal := World.block_lt_of_cell? wr _ e0
              have hq := HTR.out.p3 ks[k] (List.getElem_mem _)
              have HN : Hid (rightF d (n + 1) ks[k] = true → ∀ x ∈ ks.take (k + 1), rightF d (n + 1) x = true) := Lib.hid (fun h => upto_more (p := fun x => rightF d (n + 1) x = true) hkl HNO.out h)
              have HY : Hid (rightF d (n + 1) ks[k] = false → ks.all (rightF d (n + 1)) = false) := Lib.hid (fun h => all_no hkl h)
              have HIQ := Lib.hid (fun V (h : okAt d (ks[k]'hkl) V) => HIH.out (ks[k]'hkl) V h (by omega))
              generalize ks[k] = q at *
              obtain ⟨A5, c5, A6, c6, hv5, hv6⟩ := okAt_form hq
              rw [hv5] at e0
              rw [hv6] at e3
              have hval : q.val = .agg #[.slice A5 q.ms.length c5, .string q.nm, .bool q.goes, .slice A6 q.kids.length c6] := by unfold RT.val; rw [hv5, hv6]
              rw [hval, show ((n + 1 : Nat) : Int) = (n : Int) + 1 by omega] at HIQ
              have HQ := Lib.hid (okAt_below ((Below.refl wr.heap.size wr).alloc (Nat.le_refl _) (.cells #[.slice A5 q.ms.length c5, .string q.nm, .bool q.goes, .slice A6 q.kids.length c6] 28)) d q hq)
              have HTA := Lib.hid (HTR.out.alloc (.cells #[.slice A5 q.ms.length c5, .string q.nm, .bool q.goes, .slice A6 q.kids.length c6] 28))
              clear hq hv5 hv6 hval HTR
              generalize q.ms.length = lm at *
              generalize q.kids.length = lk at *
              generalize q.nm = qn at *
              generalize q.goes = qg at *
              generalize rightF d (n + 1) q = rq at *
              cases rq with
              | true =>
                have HN1 := Lib.hid (HN.out rfl)
                clear HN HY
                go_wp2_with fail
                (with_reducible refine (HIQ.out _ HQ.out).mono ?_); rintro e wq ⟨rfl, hbq⟩
                have HTA_n := Lib.hid (HTA.out.below hbq); clear HTA; have HTA := HTA_n; clear HTA_n
                clear hbq HQ
                go_wp2_with fail
                go_roundg g
                case measure => omega
                case rel => exact ⟨k + 1, by omega, by go_num, HTA.out, HN1.out⟩
              | false =>
                have HE := Lib.hid (HY.out rfl)
                clear HN HY
                go_wp2_with fail
                (with_reducible refine (HIQ.out _ HQ.out).mono ?_); rintro e wq ⟨rfl, hbq⟩
                have HTA_n := Lib.hid (HTA.out.below hbq); clear HTA; have HTA := HTA_n; clear HTA_n
                clear hbq HQ
                go_wp2_with fail
                go_ret
                exact ⟨by rw [HC.out, HE.out]; rfl, HTA.out.bel⟩
    · have y8 : (8 : Int) < n := by omega
      have y9 : 8 < n := by omega
      rw [decide_eq_false h8, Bool.false_and] at HC
      go_enter Try.func26, Try.ntmps26
      go_wp2_with fail
      go_ret
      exact ⟨by rw [HC.out]; rfl, HT.out.bel⟩
set_option maxHeartbeats 2000000 in
theorem rightT_any (d : Nat) (r : RT) (w : World) (h : okAt d r w) (hc : countF d r ≤ 1000000) :
    Calls Try.prog 15 #[r.val] w fun e w' => e = .returned (.bool (rightT d r)) ∧ Below w.heap.size w w' := by
  obtain ⟨A5, c5, A6, c6, hv5, hv6⟩ := okAt_form h
  have hval : r.val = .agg #[.slice A5 r.ms.length c5, .string r.nm, .bool r.goes, .slice A6 r.kids.length c6] := by unfold RT.val; rw [hv5, hv6]
  have HT := Lib.hid ((((Kept.start w).add (okAt_stays h)).alloc (.cells #[.slice A5 r.ms.length c5, .string r.nm, .bool r.goes, .slice A6 r.kids.length c6] 28)).add (Blk.mk (heap_alloc_new w (.cells #[.slice A5 r.ms.length c5, .string r.nm, .bool r.goes, .slice A6 r.kids.length c6] 28)) : Blk _ w.heap.size 28 [.slice A5 r.ms.length c5, .string r.nm, .bool r.goes, .slice A6 r.kids.length c6]).stays)
  have HR := Lib.hid (fun V (h : okAt d r V) => right_any d 1 r V h (by omega))
  have HC := Lib.hid (fun V (h : okAt d r V) => count_any d r V h hc)
  have HE : Hid (rightT d r = (r.ms.isEmpty && (rightF d 1 r && decide (countF d r ≤ 16)))) := Lib.hid rfl
  have HME : Hid (r.ms.isEmpty = decide (r.ms.length = 0)) := Lib.hid (by cases r.ms <;> simp)
  rw [hval] at HR HC
  rw [show ((1 : Nat) : Int) = 1 from rfl] at HR
  rw [hval]
  obtain ⟨bx, hbx⟩ : ∃ b, w.heap.size = b := ⟨_, rfl⟩
  obtain ⟨W1, hW1⟩ : ∃ W, w.alloc (.cells #[.slice A5 r.ms.length c5, .string r.nm, .bool r.goes, .slice A6 r.kids.length c6] 28) = W := ⟨_, rfl⟩
  rw [hW1, hbx] at HT
  rw [HME.out] at HE
  clear hv5 hv6 hval h HME
  generalize r.ms.length = lm at *
  generalize r.kids.length = lk at *
  generalize r.nm = qn at *
  generalize r.goes = qg at *
  have b0 := HT.out.p0.cell 0
  have b1 := HT.out.p0.cell 1
  have b2 := HT.out.p0.cell 2
  have b3 := HT.out.p0.cell 3
  simp only [List.getElem?_cons_zero, List.getElem?_cons_succ] at b0 b1 b2 b3
  generalize rightF d 1 r = rf at *
  generalize countF d r = cf at *
  go_enter Try.func15, Try.ntmps15
  by_cases h0 : lm = 0
  · subst h0
    rw [decide_eq_true rfl, Bool.true_and] at HE
    go_wp2_with fail
    clear hW1 hbx
    (with_reducible refine (HR.out _ HT.out.p1).mono ?_); rintro e wq ⟨rfl, hbq⟩
    have HT_n := Lib.hid (HT.out.below hbq); clear HT; have HT := HT_n; clear HT_n
    clear hbq b0 b1 b2 b3
    cases rf with
    | false =>
      rw [Bool.false_and] at HE
      go_wp2_with fail
      go_ret
      exact ⟨by rw [HE.out]; rfl, HT.out.bel⟩
    | true =>
      rw [Bool.true_and] at HE
      have b0 := HT.out.p0.cell 0
      have b1 := HT.out.p0.cell 1
      have b2 := HT.out.p0.cell 2
      have b3 := HT.out.p0.cell 3
      simp only [List.getElem?_cons_zero, List.getElem?_cons_succ] at b0 b1 b2 b3
      go_wp2_with fail
      (with_reducible refine (HC.out _ HT.out.p1).mono ?_); rintro e wq ⟨rfl, hbq⟩
      have HT_n := Lib.hid (HT.out.below hbq); clear HT; have HT := HT_n; clear HT_n
      clear hbq b0 b1 b2 b3
      by_cases hc16 : cf ≤ 16
      · rw [decide_eq_true hc16] at HE
        have y1 : (cf : Int) ≤ 16 := by omega
        have y2 : decide ((cf : Int) ≤ 16) = true := decide_eq_true y1
        go_wp2_with fail
        go_ret
        exact ⟨by rw [HE.out]; rfl, HT.out.bel⟩
      · rw [decide_eq_false hc16] at HE
        have y1 : ¬ (cf : Int) ≤ 16 := by omega
        have y2 : decide ((cf : Int) ≤ 16) = false := decide_eq_false y1
        go_wp2_with fail
        go_ret
        exact ⟨by rw [HE.out]; rfl, HT.out.bel⟩
  · rw [decide_eq_false h0, Bool.false_and] at HE
    have h1 : ¬ (lm : Int) = 0 := by omega
    have h2 : ((lm : Int) == 0) = false := by rw [beq_eq_false_iff_ne]; exact h1
    go_wp2_with fail
    clear hW1 hbx
    go_ret
    exact ⟨by rw [HE.out]; rfl, HT.out.bel⟩
end Go.Proofs.Ytddkkfjgdfdcnaa
