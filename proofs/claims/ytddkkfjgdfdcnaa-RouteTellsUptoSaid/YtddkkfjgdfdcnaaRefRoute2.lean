/- klaxonref17.Tree. -/
import Derived.Test.YtddkkfjgdfdcnaaRefRoute
import Derived.Test.YtddkkfjgdfdcnaaRefRightM
import Derived.Test.YtddkkfjgdfdcnaaRefRight
namespace Go.Proofs.Ytddkkfjgdfdcnaa
open Go.ChangeShapes Go.WideShapes Go.ChangeAt Go.RowKit
set_option linter.unusedVariables false
set_option linter.unusedSimpArgs false
set_option maxRecDepth 100000
/-- May each route be, by itself. -/
def okR : Nat → RT → Bool
  | 0, _ => false
  | d + 1, r => ((wordF r.nm && decide (r.ms.length ≤ 6)) && r.ms.all mtcOk) && r.kids.all (okR d)
def depR : Nat → RT → Nat
  | 0, _ => 0
  | d + 1, r => (r.kids.map (depR d)).foldl max 0 + 1
theorem foldl_take {l : List Nat} {k : Nat} (h : k < l.length) : (l.take (k + 1)).foldl max 0 = max ((l.take k).foldl max 0) l[k] := by
  rw [List.take_succ_eq_append_getElem h, List.foldl_append]; rfl
theorem depR_le : ∀ (d : Nat) (r : RT), depR d r ≤ d
  | 0, _ => Nat.le_refl _
  | d + 1, r => by
    have h : ∀ (l : List RT) (a : Nat), a ≤ d → (l.map (depR d)).foldl max a ≤ d := by
      intro l
      induction l with
      | nil => intro a h; exact h
      | cons x l ih => intro a h; rw [List.map_cons, List.foldl_cons]; exact ih _ (by have := depR_le d x; omega)
    have := h r.kids 0 (Nat.zero_le _)
    unfold depR; omega
theorem rightS_single (nm : ByteArray) : rightS [(nm, ⟨#[120]⟩)] = wordF nm := by
  have h1 : lblOk (nm, ⟨#[120]⟩) = wordF nm := by
    unfold lblOk
    rw [show decide (1 ≤ (⟨#[120]⟩ : ByteArray).size) = true by decide, show decide ((⟨#[120]⟩ : ByteArray).size ≤ 24) = true by decide]; simp
  cases h : wordF nm with
  | true => exact rightS_of (by simp) (fun x hx => by rw [List.mem_singleton] at hx; subst hx; rw [h1, h]) (by simp)
  | false =>
    cases h2 : rightS [(nm, (⟨#[120]⟩ : ByteArray))] with
    | false => rfl
    | true =>
      have h3 := (rightS_at h2 (k := 0) (by simp)).1
      change lblOk (nm, ⟨#[120]⟩) = true at h3
      rw [h1, h] at h3; cases h3
theorem all_snoc {l : List Mtc} {k : Nat} (h : k < l.length) (b : Bool) : (b && (l.take (k + 1)).all mtcOk) = ((b && (l.take k).all mtcOk) && mtcOk l[k]) := by
  rw [List.take_succ_eq_append_getElem h, List.all_append, List.all_cons, List.all_nil, Bool.and_true, Bool.and_assoc]
theorem allR_snoc {l : List RT} {k : Nat} (h : k < l.length) (b : Bool) (f : RT → Bool) : (b && (l.take (k + 1)).all f) = ((b && (l.take k).all f) && f l[k]) := by
  rw [List.take_succ_eq_append_getElem h, List.all_append, List.all_cons, List.all_nil, Bool.and_true, Bool.and_assoc]
set_option maxHeartbeats 4000000 in
theorem refTree_any : ∀ (d : Nat) (r : RT) (w : World), okAt d r w → countF d r ≤ 1000000 → szAt d r → d ≤ 1000000 →
    Calls Try.prog 12 #[r.val] w fun e w' => e = .returned (.tuple #[.int .i64 (countF d r), .int .i64 (depR d r), .bool (okR d r)]) ∧ Below w.heap.size w w'
  | 0, _, _, h, _, _, _ => h.elim
  | d + 1, .mk mv ms nm gs kv ks, w, h, hc, hsz, hd => by
    obtain ⟨hm, hk, hks⟩ := h
    simp only [RT.mv, RT.ms, RT.kv, RT.kids] at hm hk hks
    obtain ⟨Am, cm, rfl, hm1, hm2⟩ := hm.form2
    obtain ⟨Ak, ck, rfl, hk1, hk2⟩ := hk.form
    have hcc : 1 + (ks.map (countF d)).sum ≤ 1000000 := hc
    have HC : Hid (countF (d + 1) (.mk (.slice Am ms.length cm) ms nm gs (.slice Ak ks.length ck) ks) = 1 + (ks.map (countF d)).sum) := Lib.hid rfl
    have HD : Hid (depR (d + 1) (.mk (.slice Am ms.length cm) ms nm gs (.slice Ak ks.length ck) ks) = (ks.map (depR d)).foldl max 0 + 1) := Lib.hid rfl
    have HO : Hid (okR (d + 1) (.mk (.slice Am ms.length cm) ms nm gs (.slice Ak ks.length ck) ks) = (((wordF nm && decide (ms.length ≤ 6)) && ms.all mtcOk) && ks.all (okR d))) := Lib.hid rfl
    have hmz : ∀ z ∈ ms, z.1.size ≤ 9223372036854775807 ∧ z.2.1.size ≤ 9223372036854775807 := hsz.1
    have hnz : nm.size ≤ 9223372036854775807 := hsz.2.1
    have HMZ := Lib.hid hmz
    have HSZ := Lib.hid (show ∀ k ∈ ks, szAt d k from hsz.2.2)
    have HT := Lib.hid ((((((Kept.start w).add (P := fun W => ∀ k ∈ ks, okAt d k W) (fun W hb k hk => okAt_below hb d k (hks k hk))).add hk.stay).add hm.stay).alloc (.cells #[.slice Am ms.length cm, .string nm, .bool gs, .slice Ak ks.length ck] 28)).add (Blk.mk (heap_alloc_new w (.cells #[.slice Am ms.length cm, .string nm, .bool gs, .slice Ak ks.length ck] 28)) : Blk _ w.heap.size 28 [.slice Am ms.length cm, .string nm, .bool gs, .slice Ak ks.length ck]).stays)
    have HIH := Lib.hid (fun (k : RT) (V : World) (h : okAt d k V) (h9 : countF d k ≤ 1000000) (h8 : szAt d k) => refTree_any d k V h h9 h8 (by omega))
    have HDL := Lib.hid (fun k => depR_le d k)
    clear hm hk hks hc hsz hmz
    show Calls _ _ #[.agg #[.slice Am ms.length cm, .string nm, .bool gs, .slice Ak ks.length ck]] _ _
    obtain ⟨bx, hbx⟩ : ∃ b, w.heap.size = b := ⟨_, rfl⟩
    obtain ⟨W1, hW1⟩ : ∃ W, w.alloc (.cells #[.slice Am ms.length cm, .string nm, .bool gs, .slice Ak ks.length ck] 28) = W := ⟨_, rfl⟩
    rw [hW1, hbx] at HT
    have b1 := HT.out.p0.cell 1
    simp only [List.getElem?_cons_zero, List.getElem?_cons_succ] at b1
    have HRS : Hid (∀ V, Calls Try.prog 23 #[.slice (some ⟨V.heap.size, 0, none⟩) 1 1] (V.alloc (.cells #[.string nm, .string ⟨#[120]⟩] 30)) fun e w' => e = .returned (.bool (wordF nm)) ∧ Below V.heap.size V w') := Lib.hid (fun V => by
      have h := refRight_any (some ⟨V.heap.size, 0, none⟩) 1 1 [(nm, ⟨#[120]⟩)] _ (V.alloc (.cells #[.string nm, .string ⟨#[120]⟩] 30)) ((Blk.mk (heap_alloc_new V _) : Blk _ V.heap.size 30 [.string nm, .string ⟨#[120]⟩]).sees rfl (List.prefix_refl _)) (Nat.le_refl _) (by omega) (fun x hx => by rw [List.mem_singleton] at hx; subst hx; exact hnz)
      rw [rightS_single] at h
      exact h.mono fun e w' hh => ⟨hh.1, ((Below.refl V.heap.size V).alloc (Nat.le_refl _) _).trans (hh.2.mono (by simp))⟩)
    go_enter Try.func12, Try.ntmps12
    obtain ⟨ok1, hok1⟩ : ∃ b, (wordF nm && decide (ms.length ≤ 6)) = b := ⟨_, rfl⟩
    rw [hok1] at HO
    have HK1 := Lib.hid hok1
    have HD2 := Lib.hid hW1; have HX2 := Lib.hid hbx
    clear hok1 hW1 hbx b1
    go_upto_region 1 with fail
    rw [HD2.out, HX2.out]
    go_cut [5] (fun x5 wx => x5 = .bool ok1 ∧ Kept w [fun W => Blk W bx 28 [.slice Am ms.length cm, .string nm, .bool gs, .slice Ak ks.length ck], fun W => HasM W (.slice Am ms.length cm) ms, fun W => HasK W (.slice Ak ks.length ck) ks, fun W => ∀ k ∈ ks, okAt d k W] wx)
    case first =>
      have b1 := HT.out.p0.cell 1
      simp only [List.getElem?_cons_zero, List.getElem?_cons_succ] at b1
      generalize wordF nm = wf at *
      go_wp2_with fail
      clear b1
      (with_reducible refine (HRS.out _).mono ?_); rintro e w2 ⟨rfl, hbq⟩
      have HT_n := Lib.hid (HT.out.below hbq); clear HT; have HT := HT_n; clear HT_n
      clear hbq HRS
      have b0 := HT.out.p0.cell 0
      simp only [List.getElem?_cons_zero, List.getElem?_cons_succ] at b0
      cases wf with
      | false =>
        have HE := Lib.hid (show false = ok1 from HK1.out)
        go_wp2_with fail
        go_meet
        exact ⟨by rw [← HE.out], HT.out⟩
      | true =>
        have HE := Lib.hid (show decide (ms.length ≤ 6) = ok1 from by rw [← HK1.out]; rfl)
        by_cases h6 : ms.length ≤ 6
        · have y1 : (ms.length : Int) ≤ 6 := by omega
          have y2 : decide ((ms.length : Int) ≤ 6) = true := decide_eq_true y1
          rw [decide_eq_true h6] at HE
          go_wp2_with fail
          go_meet
          exact ⟨by rw [← HE.out], HT.out⟩
        · have y1 : ¬ (ms.length : Int) ≤ 6 := by omega
          have y2 : decide ((ms.length : Int) ≤ 6) = false := decide_eq_false y1
          rw [decide_eq_false h6] at HE
          go_wp2_with fail
          go_meet
          exact ⟨by rw [← HE.out], HT.out⟩
    case rest =>
      obtain ⟨rfl, hkept⟩ := hcut
      have HT2 := Lib.hid hkept
      clear hkept HT HRS HK1 HD2 HX2
      have b0 := HT2.out.p0.cell 0
      simp only [List.getElem?_cons_zero, List.getElem?_cons_succ] at b0
      go_wp2_with fail
      clear b0
      go_loopg [5, 29] ms.length (fun g x5 x29 wl => ∃ k : Nat, k + g = ms.length ∧ x29 = .int .i64 k ∧ x5 = .bool (ok1 && (ms.take k).all mtcOk) ∧ Kept w [fun W => Blk W bx 28 [.slice Am ms.length cm, .string nm, .bool gs, .slice Ak ks.length ck], fun W => HasM W (.slice Am ms.length cm) ms, fun W => HasK W (.slice Ak ks.length ck) ks, fun W => ∀ k ∈ ks, okAt d k W] wl)
      case atStart => exact ⟨0, by omega, rfl, by simp, HT2.out⟩
      case round =>
        obtain ⟨k, hkg, rfl, rfl, hkept⟩ := hrel
        have HT := Lib.hid hkept
        clear hkept HT2
        cases gk with
        | succ g =>
          have hkm : k < ms.length := by omega
          obtain ⟨am, hml, hAm, g0, g1, g2⟩ := HT.out.p1.sees.mtc hkm
          subst hAm
          have hal2 := World.block_lt_of_cell? wr _ g0
          have HSN := Lib.hid (all_snoc hml ok1)
          have hz := HMZ.out (ms[k]'hml) (List.getElem_mem _)
          obtain ⟨r0, hr0⟩ : ∃ b, (ok1 && (ms.take k).all mtcOk) = b := ⟨_, rfl⟩
          rw [hr0] at HSN
          rw [hr0]
          clear hr0
          generalize ms[k] = m at *
          obtain ⟨ma, mb, mk⟩ := m
          simp only at g0 g1 g2 hz
          have HT_n := Lib.hid (HT.out.alloc (.cells #[.string ma, .string mb, .int .i64 mk] 24)); clear HT; have HT := HT_n; clear HT_n
          have HRM := Lib.hid (fun V => refRightM_any ma mb mk V hz.1 hz.2)
          generalize mtcOk (ma, mb, mk) = ok at *
          cases r0 with
          | false =>
            have HN := Lib.hid (HSN.out.trans (Bool.false_and _))
            clear HSN HRM
            go_wp2_with fail
            go_roundg g
            case measure => omega
            case rel => exact ⟨k + 1, by omega, by go_num, by rw [HN.out], HT.out⟩
          | true =>
            have HN := Lib.hid (HSN.out.trans (Bool.true_and _))
            clear HSN
            go_wp2_with fail
            (with_reducible refine (HRM.out _).mono ?_); rintro e wz ⟨rfl, hbq⟩
            have HT_n := Lib.hid (HT.out.below hbq); clear HT; have HT := HT_n; clear HT_n
            clear hbq HRM
            go_wp2_with fail
            go_roundg g
            case measure => omega
            case rel => exact ⟨k + 1, by omega, by go_num, by rw [HN.out], HT.out⟩
        | zero =>
          obtain rfl : k = ms.length := by omega
          have hall : (ms.take ms.length).all mtcOk = ms.all mtcOk := by rw [List.take_length]
          rw [hall]
          clear hall
          obtain ⟨ok2, hok2⟩ : ∃ b, (ok1 && ms.all mtcOk) = b := ⟨_, rfl⟩
          rw [hok2] at HO
          rw [hok2]
          clear hok2
          have b3 := HT.out.p0.cell 3
          simp only [List.getElem?_cons_zero, List.getElem?_cons_succ] at b3
          go_wp2_with fail
          clear b3
          go_loopg [5, 8, 9, 42] ks.length (fun g x5 x8 x9 x42 wl => ∃ k : Nat, k + g = ks.length ∧ x42 = .int .i64 k ∧ x8 = .int .i64 ((1 + ((ks.map (countF d)).take k).sum : Nat) : Int) ∧ x9 = .int .i64 ((((ks.map (depR d)).take k).foldl max 0 : Nat) : Int) ∧ x5 = .bool (ok2 && (ks.take k).all (okR d)) ∧ Kept w [fun W => Blk W bx 28 [.slice Am ms.length cm, .string nm, .bool gs, .slice Ak ks.length ck], fun W => HasM W (.slice Am ms.length cm) ms, fun W => HasK W (.slice Ak ks.length ck) ks, fun W => ∀ k ∈ ks, okAt d k W] wl)
          case atStart => exact ⟨0, by omega, rfl, by simp, by simp, by simp, HT.out⟩
          case round =>
            obtain ⟨k, hkg, rfl, rfl, rfl, rfl, hkept⟩ := hrel
            have HT2 := Lib.hid hkept
            clear hkept HT
            cases gk with
            | zero =>
              obtain rfl : k = ks.length := by omega
              have HE1 := Lib.hid (show 1 + ((ks.map (countF d)).take ks.length).sum = 1 + (ks.map (countF d)).sum by rw [List.take_of_length_le (by simp)])
              have HE2 := Lib.hid (show ((ks.map (depR d)).take ks.length).foldl max 0 = (ks.map (depR d)).foldl max 0 by rw [List.take_of_length_le (by simp)])
              have HE3 := Lib.hid (show (ks.take ks.length).all (okR d) = ks.all (okR d) by rw [List.take_length])
              rw [HE1.out, HE2.out, HE3.out]
              have hdm : (ks.map (depR d)).foldl max 0 ≤ 1000000 := by
                have h := depR_le (d + 1) (.mk (.slice Am ms.length cm) ms nm gs (.slice Ak ks.length ck) ks)
                rw [HD.out] at h; omega
              generalize (ks.map (depR d)).foldl max 0 = dm at *
              generalize 1 + (ks.map (countF d)).sum = cc at *
              obtain ⟨ok3, hok3⟩ : ∃ b, (ok2 && ks.all (okR d)) = b := ⟨_, rfl⟩
              rw [hok3] at HO
              rw [hok3]
              clear hok3 HE1 HE2 HE3
              go_wp2_with fail
              first | go_ret3 | go_ret
              exact ⟨by rw [HC.out, HD.out, HO.out]; rfl, HT2.out.bel⟩
            | succ g =>
              have hlt : k < ks.length := by omega
              obtain ⟨ad, hkl, hA, e0, e1, e2, e3⟩ := HT2.out.p2.get hlt
              subst hA
              have hal := World.block_lt_of_cell? wr _ e0
              have hq := HT2.out.p3 ks[k] (List.getElem_mem _)
              have hsum := sum_take_succ (l := ks.map (countF d)) (k := k) (by simpa using hkl)
              rw [show (ks.map (countF d))[k]'(by simpa using hkl) = countF d ks[k] by simp] at hsum
              have hle := sum_take_le (ks.map (countF d)) (k + 1)
              have hmx := foldl_take (l := ks.map (depR d)) (k := k) (by simpa using hkl)
              rw [show (ks.map (depR d))[k]'(by simpa using hkl) = depR d ks[k] by simp] at hmx
              have HSN := Lib.hid (allR_snoc hkl ok2 (okR d))
              have HIQ := Lib.hid (fun V (h : okAt d (ks[k]'hkl) V) => HIH.out (ks[k]'hkl) V h (by omega) (HSZ.out _ (List.getElem_mem _)))
              have hdq := HDL.out (ks[k]'hkl)
              generalize ks[k] = q at *
              obtain ⟨A5, c5, A6, c6, hv5, hv6⟩ := okAt_form hq
              rw [hv5] at e0
              rw [hv6] at e3
              have hval : q.val = .agg #[.slice A5 q.ms.length c5, .string q.nm, .bool q.goes, .slice A6 q.kids.length c6] := by unfold RT.val; rw [hv5, hv6]
              rw [hval] at HIQ
              generalize q.ms.length = lm at *
              generalize q.kids.length = lk at *
              generalize q.nm = qn at *
              generalize q.goes = qg at *
              have HQ := Lib.hid (okAt_below ((Below.refl wr.heap.size wr).alloc (Nat.le_refl _) (.cells #[.slice A5 lm c5, .string qn, .bool qg, .slice A6 lk c6] 28)) d q hq)
              have HTA := Lib.hid (HT2.out.alloc (.cells #[.slice A5 lm c5, .string qn, .bool qg, .slice A6 lk c6] 28))
              obtain ⟨s, hs⟩ : ∃ s, 1 + ((ks.map (countF d)).take k).sum = s := ⟨_, rfl⟩
              have HN := Lib.hid (show ((s : Int) + (countF d q : Nat)) = ((1 + ((ks.map (countF d)).take (k + 1)).sum : Nat) : Int) by rw [hsum]; omega)
              have hb : s + countF d q ≤ 1000000 := by omega
              rw [hs]
              obtain ⟨m0, hm0⟩ : ∃ m, ((ks.map (depR d)).take k).foldl max 0 = m := ⟨_, rfl⟩
              rw [hm0] at hmx
              rw [hm0]
              obtain ⟨r0, hr0⟩ : ∃ b, (ok2 && (ks.take k).all (okR d)) = b := ⟨_, rfl⟩
              rw [hr0] at HSN
              rw [hr0]
              generalize depR d q = dq at *
              obtain ⟨mx, hmx2⟩ : ∃ m, max m0 dq = m := ⟨_, rfl⟩
              rw [hmx2] at hmx
              have x1 : max (m0 : Int) dq = (mx : Int) := by omega
              have x2 : (if (m0 : Int) < dq then (dq : Int) else m0) = (mx : Int) := by split <;> omega
              have x3 : (if m0 < dq then (dq : Int) else m0) = (mx : Int) := by split <;> omega
              have HMX := Lib.hid hmx
              clear hsum hle hs hq hv5 hv6 hval HT2 hm0 hr0 hmx hmx2
              generalize countF d q = cq at *
              generalize okR d q = oq at *
              go_wp2_with fail
              (with_reducible refine (HIQ.out _ HQ.out).mono ?_); rintro e wq ⟨rfl, hbq⟩
              have HTA_n := Lib.hid (HTA.out.below hbq); clear HTA; have HTA := HTA_n; clear HTA_n
              clear hbq HQ HIQ
              cases r0 with
              | true =>
                have HN2 := Lib.hid (HSN.out.trans (Bool.true_and _))
                go_wp2_with fail
                go_roundg g
                case measure => omega
                case rel => exact ⟨k + 1, by omega, by go_num, by rw [← HN.out], by rw [HMX.out], by rw [HN2.out], HTA.out⟩
              | false =>
                have HN2 := Lib.hid (HSN.out.trans (Bool.false_and _))
                go_wp2_with fail
                go_roundg g
                case measure => omega
                case rel => exact ⟨k + 1, by omega, by go_num, by rw [← HN.out], by rw [HMX.out], by rw [HN2.out], HTA.out⟩
end Go.Proofs.Ytddkkfjgdfdcnaa
