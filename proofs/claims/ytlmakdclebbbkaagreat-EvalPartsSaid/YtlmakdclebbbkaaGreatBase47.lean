/- Texts, merged in one. -/
import Derived.Test.YtlmakdclebbbkaaGreatBase46
namespace Go.Proofs.YtlmakdclebbbkaaGreat
open Go.ChangeShapes Go.WideShapes Go.ChangeAt Go.RowKit
set_option linter.unusedVariables false
set_option linter.unusedSimpArgs false
set_option maxRecDepth 100000
mutual
def PE.picks : PE → List PE
  | .mk k n ms ns ks => (if k = 2 then [.mk k n ms ns ks] else []) ++ picksP ks
def picksP : List PE → List PE
  | [] => []
  | x :: l => x.picks ++ picksP l
end
theorem picksP_append : ∀ l m : List PE, picksP (l ++ m) = picksP l ++ picksP m
  | [], m => rfl
  | x :: l, m => by
    show x.picks ++ picksP (l ++ m) = (x.picks ++ picksP l) ++ picksP m
    rw [picksP_append l m, List.append_assoc]
theorem picks_le : ∀ (d : Nat) (x : PE), x.deep ≤ d → x.ty ≠ 0 → x.picks.length ≤ 2 ^ d
  | 0, x, hd, _ => by
    obtain ⟨k, n, ms, ns, ks⟩ := x
    unfold PE.deep at hd; omega
  | d + 1, x, hd, ht => by
    have hp1 : 2 ^ (d + 1) = 2 ^ d + 2 ^ d := by rw [Nat.pow_succ]; omega
    have hp : 1 ≤ 2 ^ d := Nat.one_le_two_pow
    cases ty_typed ht with
    | num n => unfold PE.picks picksP; rw [if_neg (by decide)]; simp
    | pick n ms hm h1 h2 => unfold PE.picks picksP; rw [if_pos rfl]; simp only [List.append_nil, List.length_cons, List.length_nil]; omega
    | one k ns a h1 h2 hn ha =>
      have hda : a.deep ≤ d := by unfold PE.deep deepsP at hd; simp [deepsP] at hd; omega
      have ih := picks_le d a hda (by rw [ha]; decide)
      unfold PE.picks picksP picksP
      rw [if_neg (by omega)]
      simp only [List.nil_append, List.append_nil]; omega
    | two k a b h1 h2 ha hb =>
      have hds : a.deep ≤ d ∧ b.deep ≤ d := by unfold PE.deep deepsP deepsP at hd; omega
      have iha := picks_le d a hds.1 ha
      have ihb := picks_le d b hds.2 hb
      unfold PE.picks picksP picksP picksP
      rw [if_neg (by omega)]
      simp only [List.nil_append, List.append_nil, List.length_append]; omega
structure PkRow (w0 : World) (A : Option Addr) (n c : Nat) (qs : List XE) (W : World) : Prop where
  row : W.ownsRow w0.heap.size 37 5 (.slice A n c) n (kcells qs)
  pk : ∀ q ∈ qs, Pick w0.heap.size q W
  bel : Below w0.heap.size w0 W
  len : qs.length = n
theorem PkRow.below {w0 W W' : World} {A : Option Addr} {n c : Nat} {qs : List XE} (h : PkRow w0 A n c qs W) (hb : Below W.heap.size W W') : PkRow w0 A n c qs W' :=
  ⟨own_below h.row hb (Nat.le_refl _), fun q hq => (h.pk q hq).below hb, h.bel.trans (hb.mono h.bel.size), h.len⟩
theorem PkRow.grown {w0 W W' : World} {A A' : Option Addr} {n c c' : Nat} {qs : List XE} {q : XE} (h : PkRow w0 A n c qs W) (hq : Pick w0.heap.size q W) (hown : W'.ownsRow w0.heap.size 37 5 (.slice A' (n + 1) c') (n + 1) (kcells qs ++ kcells [q])) (hg : W.grownBy W' (Value.slice A n c).ownBlock) :
    PkRow w0 A' (n + 1) c' (qs ++ [q]) W' := by
  have key : ∀ p, Pick w0.heap.size p W → Pick w0.heap.size p W' := fun p hp =>
    ⟨hp.kd, hp.ns, hp.kids, own_grown hp.mv hg (fun g hg1 e => own_ne h.row hp.mv (by decide) g e hg1), hp.nv, hp.kv⟩
  refine ⟨by rw [kcells_append]; exact hown, fun p hp => ?_, h.bel.grown hg h.bel.size (fun g e => (h.row.lt g e).1), by rw [List.length_append, h.len]; rfl⟩
  rcases List.mem_append.1 hp with hp | hp
  · exact key p (h.pk p hp)
  · rw [List.mem_singleton] at hp; subst hp; exact key _ hq
theorem kcells_one1 {q : XE} {B : Nat} {W : World} (h : Pick B q W) : ∀ u ∈ kcells [q], u.oneCell' = true := by
  obtain ⟨A1, c1, e1, _, _⟩ := own_slice h.mv
  obtain ⟨A2, c2, e2, _⟩ := h.nv
  obtain ⟨A3, c3, e3, _⟩ := h.kv
  intro u hu
  have hu : u ∈ [Value.int .i64 q.kd, .int .i64 q.n, q.mv, q.nv, q.kv] := hu
  rw [e1, e2, e3] at hu
  simp only [List.mem_cons, List.not_mem_nil, or_false] at hu
  rcases hu with rfl | rfl | rfl | rfl | rfl <;> rfl
theorem picksP_snoc (ks : List XE) (i : Nat) (h : i < ks.length) : picksP (pesX (ks.take (i + 1))) = picksP (pesX (ks.take i)) ++ (ks[i]).pe.picks := by
  rw [List.take_succ_eq_append_getElem h, pesX_map, pesX_map, List.map_append, picksP_append]
  simp [picksP]
theorem picksP_at (ks : List XE) (i : Nat) (h : i < ks.length) : (picksP (pesX (ks.take i))).length + ((ks[i]).pe.picks).length ≤ (picksP (pesX ks)).length := by
  have h1 := picksP_snoc ks i h
  have h2 : picksP (pesX ks) = picksP (pesX (ks.take (i + 1))) ++ picksP (pesX (ks.drop (i + 1))) := by
    rw [← picksP_append, pesX_map, pesX_map, pesX_map, ← List.map_append, List.take_append_drop]
  rw [h2, h1]
  simp only [List.length_append]; omega
def PkAns (w0 : World) (ps : List PE) (e : Ending) (w' : World) : Prop := ∃ (A' : Option Addr) (n' c' : Nat) (qs' : List XE), e = .returned (.slice A' n' c') ∧ PkRow w0 A' n' c' qs' w' ∧ qs'.map XE.pe = ps
structure AppFit (x : XE) : Prop where
  kids : ∀ k ∈ x.kids, k.pe.ty ≠ 0
  two : x.kids.length ≤ 2
  pick : x.kd = 2 → x.ms.length ≤ 6 ∧ x.ns = [] ∧ x.kids = []
theorem fit_typed {x : XE} (h : x.pe.ty ≠ 0) : AppFit x := by
  have hk := typed_kids h
  obtain ⟨kk, nn, mv, ms, nv, ns, kv, ks⟩ := x
  have htd := xe_typed h
  refine ⟨hk, ?_, fun e => ?_⟩
  · show ks.length ≤ 2
    rcases htd with ⟨_, _, _, rfl⟩ | ⟨_, _, _, _, _, rfl⟩ | ⟨_, _, _, _, _, a, rfl, _⟩ | ⟨_, _, _, _, _, a, b, rfl, _⟩ <;> simp
  · have e : kk = 2 := e
    show ms.length ≤ 6 ∧ ns = [] ∧ ks = []
    rcases htd with ⟨h, _⟩ | ⟨_, h1, _, _, h2, h3⟩ | ⟨h, _⟩ | ⟨h, _⟩
    · omega
    · exact ⟨(rightM_facts h1).1, h2, h3⟩
    · omega
    · omega
def AppSaid (d : Nat) : Prop := ∀ (w0 : World) (x : XE) (A : Option Addr) (n c : Nat) (qs : List XE) (w : World), okX d x w0 → AppFit x → PkRow w0 A n c qs w → n + x.pe.picks.length ≤ 1000000 →
    Calls Tryz.prog 70 #[.slice A n c, x.val] w (PkAns w0 (qs.map XE.pe ++ x.pe.picks))
set_option maxHeartbeats 4000000 in
theorem app_step (d : Nat) (IH : AppSaid d) : AppSaid (d + 1) := by
  intro w0 x A n c qs w hok hty hp hN
  obtain ⟨A1, c1, A2, c2, A3, c3, e1, e2, e3⟩ := okX_forms hok
  have htk := hty.kids
  obtain ⟨kk, nn, mv, ms, nv, ns, kv, ks⟩ := x
  simp only [XE.mv, XE.nv, XE.kv, XE.ms, XE.ns, XE.kids] at e1 e2 e3
  subst e1; subst e2; subst e3
  have htd := hty.pick
  have hks2 : ks.length ≤ 2 := hty.two
  have HB0 : Hid (Blk (w.alloc (.cells #[.int .i64 kk, .int .i64 nn, .slice A1 ms.length c1, .slice A2 ns.length c2, .slice A3 ks.length c3] 37)) w.heap.size 37 [.int .i64 kk, .int .i64 nn, .slice A1 ms.length c1, .slice A2 ns.length c2, .slice A3 ks.length c3]) := Lib.hid (Blk.mk (heap_alloc_new w _))
  have HP := Lib.hid (hp.below ((Below.refl w.heap.size w).alloc (Nat.le_refl _) (.cells #[.int .i64 kk, .int .i64 nn, .slice A1 ms.length c1, .slice A2 ns.length c2, .slice A3 ks.length c3] 37)))
  have HLT := Lib.hid (show ∀ g, (Value.slice A n c).ownBlock = some g → g < w.heap.size from fun g e => (hp.row.lt g e).2)
  have HOK := Lib.hid hok
  have HIH := Lib.hid IH
  have HTK := Lib.hid htk
  have hpk : (XE.mk kk nn (.slice A1 ms.length c1) ms (.slice A2 ns.length c2) ns (.slice A3 ks.length c3) ks).pe.picks = (if kk = 2 then [PE.mk kk nn ms ns (pesX ks)] else []) ++ picksP (pesX ks) := by
    show PE.picks (.mk kk nn ms ns (pesX ks)) = _
    unfold PE.picks; rfl
  rw [hpk] at hN ⊢
  obtain ⟨ps, hps⟩ : ∃ ps, qs.map XE.pe ++ ((if kk = 2 then [PE.mk kk nn ms ns (pesX ks)] else []) ++ picksP (pesX ks)) = ps := ⟨_, rfl⟩
  have HPS := Lib.hid hps
  rw [hps]
  clear hps hpk hp hok IH htk hty
  show Calls Tryz.prog 70 #[.slice A n c, .agg #[.int .i64 kk, .int .i64 nn, .slice A1 ms.length c1, .slice A2 ns.length c2, .slice A3 ks.length c3]] w (PkAns w0 ps)
  go_enter Tryz.func70, Tryz.ntmps70
  go_upto_region 1 with fail
  obtain ⟨b3, hb3⟩ : ∃ g, w.heap.size = g := ⟨_, rfl⟩
  rw [hb3] at HB0 HLT ⊢
  clear hb3
  generalize w.alloc (.cells #[.int .i64 kk, .int .i64 nn, .slice A1 ms.length c1, .slice A2 ns.length c2, .slice A3 ks.length c3] 37) = W1 at *
  obtain ⟨x0, x1, x2, x3, x4⟩ := blk_cells5 HB0.out
  by_cases hk : kk = 2
  · subst hk
    obtain ⟨hm6, rfl, rfl⟩ : ms.length ≤ 6 ∧ ns = [] ∧ ks = [] := htd rfl
    rw [if_pos rfl] at hN
    have hn1 : n + 1 ≤ 1000000 := by simp [picksP, pesX] at hN; omega
    clear htd hN
    simp only [List.length_nil] at *
    have HCL := Lib.hid (clone_pick nn A1 c1 ms A2 c2 A3 c3 W1 ((HOK.out.1 : Slc w0 3 (.slice A1 ms.length c1) ms.length (mtcs ms)).below HP.out.bel) (by omega))
    go_wp2_with fail
    (with_reducible refine HCL.out.mono ?_); rintro e w2 ⟨q, rfl, hq, hpq0, hb⟩
    have hpq : Pick w0.heap.size q w2 := hpq0.mono HP.out.bel.size
    obtain ⟨Q1, r1, v1, _, _⟩ := own_slice hpq.mv
    obtain ⟨Q2, r2, v2, _⟩ := hpq.nv
    obtain ⟨Q3, r3, v3, _⟩ := hpq.kv
    have hqv : q.val = .agg #[.int .i64 q.kd, .int .i64 q.n, .slice Q1 q.ms.length r1, .slice Q2 0 r2, .slice Q3 0 r3] := by unfold XE.val; rw [v1, v2, v3]
    have hkc : kcells [q] = [.int .i64 q.kd, .int .i64 q.n, .slice Q1 q.ms.length r1, .slice Q2 0 r2, .slice Q3 0 r3] := by
      show [Value.int .i64 q.kd, .int .i64 q.n, q.mv, q.nv, q.kv] = _
      rw [v1, v2, v3]
    rw [hqv]
    have ha := (Below.refl w2.heap.size w2).alloc (Nat.le_refl _) (.cells #[.int .i64 q.kd, .int .i64 q.n, .slice Q1 q.ms.length r1, .slice Q2 0 r2, .slice Q3 0 r3] 37)
    have HP2 := Lib.hid ((HP.out.below hb).below ha)
    have HPK := Lib.hid (hpq.below ha)
    have HQP := Lib.hid hq
    have HB2 := Lib.hid ((HB0.out.below hb HB0.out.lt).below ha (HB0.out.below hb HB0.out.lt).lt)
    have HS : Hid (Sees (w2.alloc (.cells #[.int .i64 q.kd, .int .i64 q.n, .slice Q1 q.ms.length r1, .slice Q2 0 r2, .slice Q3 0 r3] 37)) (w2.alloc (.cells #[.int .i64 q.kd, .int .i64 q.n, .slice Q1 q.ms.length r1, .slice Q2 0 r2, .slice Q3 0 r3] 37)).heap.size 5 (some ⟨w2.heap.size, 0, none⟩) 1 (kcells [q])) := Lib.hid (by
      rw [hkc]
      exact (Blk.mk (heap_alloc_new w2 _) : Blk _ w2.heap.size 37 [.int .i64 q.kd, .int .i64 q.n, .slice Q1 q.ms.length r1, .slice Q2 0 r2, .slice Q3 0 r3]).sees rfl (List.prefix_refl _))
    obtain ⟨i0, hi, hz0, hz1, hz2⟩ := info_parts Tryz.infoExprC
    clear hb hpq hpq0 hq v1 v2 v3 hqv hkc ha HP HB0 HCL x0 x1 x2 x3 x4
    go_wp2_with (at_builtin; refine wpList_append_sees rfl (.tmp 10) (.tmp 13) 35 rfl w0.heap.size 37 i0 (.agg #[.int .i64 0, .int .i64 0, .slice none 0 0, .slice none 0 0, .slice none 0 0]) 5 88 Tryz.underlying35 hi hz0 hz1 hz2 rfl (by decide) _ n (kcells qs) rfl HP2.out.row _ (some ⟨w2.heap.size, 0, none⟩) 1 _ (kcells [q]) rfl HS.out (kcells_one1 HPK.out) (by unfold maxLen; omega) (by omega) HP2.out.bel.size ?_)
    intro v' w3 hown hg
    obtain ⟨A', c', rfl, hc1, hc2⟩ := own_slice hown
    have HP3 := Lib.hid (HP2.out.grown HPK.out hown hg)
    have HB3 := Lib.hid (HB2.out.grown hg (fun e => by have := HLT.out b3 e.symm; omega))
    clear hown hg HP2 HPK HB2 HS hi hz0 hz1 hz2
    obtain ⟨x0, x1, x2, x3, x4⟩ := blk_cells5 HB3.out
    go_wp2_with fail
    go_loopg [0, 6, 18] 0 (fun g y0 y6 y18 wr => y0 = .slice A' (n + 1) c' ∧ y18 = .int .i64 0 ∧ wr = w3)
    case atStart => exact ⟨rfl, rfl, rfl⟩
    case round =>
      obtain ⟨rfl, rfl, rfl⟩ := hrel
      go_wp2_with fail
      go_ret
      exact ⟨A', n + 1, c', qs ++ [q], rfl, HP3.out, by rw [← HPS.out, List.map_append, List.map_cons, List.map_nil, HQP.out]; simp [picksP, pesX]⟩
  · have t1 : (kk == 2) = false := by rw [beq_eq_false_iff_ne]; exact hk
    rw [if_neg hk, List.nil_append] at hN
    have HN := Lib.hid hN
    have HPS_n := Lib.hid ((by have h := HPS.out; rw [if_neg hk, List.nil_append] at h; exact h : qs.map XE.pe ++ picksP (pesX ks) = ps)); clear HPS; have HPS := HPS_n; clear HPS_n
    have HQL := Lib.hid HP.out.len
    have hN2 : ks.length ≤ 2 := hks2
    obtain ⟨N, hNe⟩ : ∃ N, ks.length = N := ⟨_, rfl⟩
    have HNE := Lib.hid hNe
    have HKS : Hid (Slc w0 5 (.slice A3 ks.length c3) ks.length (kcells ks)) := Lib.hid HOK.out.2.2.1
    have HKO : Hid (∀ k ∈ ks, okX d k w0) := Lib.hid HOK.out.2.2.2
    have HKT : Hid (∀ k ∈ ks, k.pe.ty ≠ 0) := Lib.hid HTK.out
    rw [hNe] at HKS x4 hN2 ⊢
    clear hN hNe htd hk hks2 HOK HTK HB0
    go_wp2_with fail
    go_loopg [0, 6, 18] N (fun g y0 y6 y18 wr => ∃ (i : Nat) (A' : Option Addr) (n' c' : Nat) (qs' : List XE), i + g = N ∧ y18 = .int .i64 i ∧ y0 = .slice A' n' c' ∧ PkRow w0 A' n' c' qs' wr ∧ qs'.map XE.pe = qs.map XE.pe ++ picksP (pesX (ks.take i)))
    case atStart => exact ⟨0, A, n, c, qs, by omega, rfl, rfl, HP.out, by simp [pesX, picksP]⟩
    case round =>
      obtain ⟨i, A', n', c', qs', hig, rfl, rfl, hpr, hmp⟩ := hrel
      have HPR := Lib.hid hpr; have HMP := Lib.hid hmp
      clear hpr hmp HP x0 x1 x2 x3 x4
      cases gk with
      | zero =>
        obtain rfl : i = N := by omega
        go_wp2_with fail
        go_ret
        exact ⟨A', n', c', qs', rfl, HPR.out, by have h := HMP.out; rw [List.take_of_length_le (by rw [HNE.out]; exact Nat.le_refl _), HPS.out] at h; exact h⟩
      | succ gg =>
        have hlt : i < N := by omega
        obtain ⟨ad, hkl, hA, e0, e1, e2, e3, e4⟩ := (Slc.slice (HKS.out.below HPR.out.bel)).1.kid hlt
        subst hA
        have hki := HKO.out ks[i] (List.getElem_mem hkl)
        have htyi := HKT.out ks[i] (List.getElem_mem hkl)
        have hbd : n' + (ks[i]).pe.picks.length ≤ 1000000 := by
          have h1 := congrArg List.length HMP.out
          rw [List.length_map, List.length_append, List.length_map, HPR.out.len, HQL.out] at h1
          have h2 := picksP_at ks i hkl
          have h3 := HN.out
          omega
        have HSN := Lib.hid (picksP_snoc ks i hkl)
        have HC0 := Lib.hid (fun V hV => HIH.out w0 ks[i] A' n' c' qs' V hki (fit_typed htyi) hV hbd)
        generalize ks[i] = qa at *
        obtain ⟨B1, b1, B2, b2, B3, b3', v1, v2, v3⟩ := okX_forms hki
        rw [v1] at e2; rw [v2] at e3; rw [v3] at e4
        have hva : qa.val = .agg #[.int .i64 qa.kd, .int .i64 qa.n, .slice B1 qa.ms.length b1, .slice B2 qa.ns.length b2, .slice B3 qa.kids.length b3'] := by unfold XE.val; rw [v1, v2, v3]
        rw [hva] at HC0
        have HCC := Lib.hid (HC0.out _ (HPR.out.below ((Below.refl wr.heap.size wr).alloc (Nat.le_refl _) (.cells #[.int .i64 qa.kd, .int .i64 qa.n, .slice B1 qa.ms.length b1, .slice B2 qa.ns.length b2, .slice B3 qa.kids.length b3'] 37))))
        clear hki htyi hbd v1 v2 v3 hva HC0 HPR
        generalize qa.ms.length = l1 at *
        generalize qa.ns.length = l2 at *
        generalize qa.kids.length = l3 at *
        generalize qa.kd = qak at *
        generalize qa.n = qan at *
        go_wp2_with fail
        (with_reducible refine HCC.out.mono ?_); rintro e w3 ⟨A5, n5, c5, qs5, rfl, hp5, hm5⟩
        have HP5 := Lib.hid hp5; have HM5 := Lib.hid hm5
        clear hp5 hm5 HCC
        go_wp2_with fail
        go_roundg gg
        case measure => omega
        case rel => exact ⟨i + 1, A5, n5, c5, qs5, by omega, by go_num, rfl, HP5.out, by rw [HM5.out, HMP.out, HSN.out, List.append_assoc]⟩
theorem app_any : ∀ d, AppSaid d
  | 0 => fun w0 x A n c qs w h => h.elim
  | d + 1 => app_step d (app_any d)
def PkV (B : Nat) (ps : List PE) (v : Value) (W : World) : Prop := ∃ (A : Option Addr) (n c : Nat) (qs : List XE), v = .slice A n c ∧ W.ownsRow B 37 5 (.slice A n c) n (kcells qs) ∧ (∀ q ∈ qs, Pick B q W) ∧ qs.length = n ∧ qs.map XE.pe = ps
theorem PkV.below {B : Nat} {ps : List PE} {v : Value} {W W' : World} (h : PkV B ps v W) (hb : Below W.heap.size W W') : PkV B ps v W' := by
  obtain ⟨A, n, c, qs, h1, h2, h3, h4, h5⟩ := h
  exact ⟨A, n, c, qs, h1, own_below h2 hb (Nat.le_refl _), fun q hq => (h3 q hq).below hb, h4, h5⟩
theorem PkV.mono {B B' : Nat} {ps : List PE} {v : Value} {W : World} (h : PkV B ps v W) (hb : B' ≤ B) : PkV B' ps v W := by
  obtain ⟨A, n, c, qs, h1, h2, h3, h4, h5⟩ := h
  exact ⟨A, n, c, qs, h1, own_mono h2 hb, fun q hq => (h3 q hq).mono hb, h4, h5⟩
set_option maxHeartbeats 2000000 in
theorem picks_any (d : Nat) (x : XE) (w : World) (hok : okX d x w) (hf : AppFit x) (hN : x.pe.picks.length ≤ 1000000) :
    Calls Tryz.prog 36 #[x.val] w fun e w' => ∃ v, e = .returned v ∧ PkV w.heap.size x.pe.picks v w' ∧ Below w.heap.size w w' := by
  obtain ⟨A1, c1, A2, c2, A3, c3, e1, e2, e3⟩ := okX_forms hok
  obtain ⟨kk, nn, mv, ms, nv, ns, kv, ks⟩ := x
  simp only [XE.mv, XE.nv, XE.kv, XE.ms, XE.ns, XE.kids] at e1 e2 e3
  subst e1; subst e2; subst e3
  have HB0 : Hid (Blk (w.alloc (.cells #[.int .i64 kk, .int .i64 nn, .slice A1 ms.length c1, .slice A2 ns.length c2, .slice A3 ks.length c3] 37)) w.heap.size 37 [.int .i64 kk, .int .i64 nn, .slice A1 ms.length c1, .slice A2 ns.length c2, .slice A3 ks.length c3]) := Lib.hid (Blk.mk (heap_alloc_new w _))
  have HC := Lib.hid (show Calls Tryz.prog 70 #[.slice none 0 0, .agg #[.int .i64 kk, .int .i64 nn, .slice A1 ms.length c1, .slice A2 ns.length c2, .slice A3 ks.length c3]] (w.alloc (.cells #[.int .i64 kk, .int .i64 nn, .slice A1 ms.length c1, .slice A2 ns.length c2, .slice A3 ks.length c3] 37)) (PkAns w (PE.picks (.mk kk nn ms ns (pesX ks)))) from by
    have h := app_any d w _ none 0 0 [] (w.alloc (.cells #[.int .i64 kk, .int .i64 nn, .slice A1 ms.length c1, .slice A2 ns.length c2, .slice A3 ks.length c3] 37)) hok hf ⟨World.ownsRow_nil _ _ _ _, fun q hq => absurd hq List.not_mem_nil, (Below.refl _ _).alloc (Nat.le_refl _) _, rfl⟩ (by omega)
    exact h)
  show Calls Tryz.prog 36 #[.agg #[.int .i64 kk, .int .i64 nn, .slice A1 ms.length c1, .slice A2 ns.length c2, .slice A3 ks.length c3]] w fun e w' => ∃ v, e = .returned v ∧ PkV w.heap.size (PE.picks (.mk kk nn ms ns (pesX ks))) v w' ∧ Below w.heap.size w w'
  obtain ⟨ps, hps⟩ : ∃ ps, PE.picks (.mk kk nn ms ns (pesX ks)) = ps := ⟨_, rfl⟩
  rw [hps] at HC ⊢
  have HBW := Lib.hid (show ∃ B, w.heap.size = B from ⟨_, rfl⟩)
  clear hok hf hN hps
  go_enter Tryz.func36, Tryz.ntmps36
  go_upto_region 1 with fail
  obtain ⟨b1, hb1⟩ : ∃ g, w.heap.size = g := ⟨_, rfl⟩
  rw [hb1] at HB0 ⊢
  clear hb1 HBW
  generalize w.alloc (.cells #[.int .i64 kk, .int .i64 nn, .slice A1 ms.length c1, .slice A2 ns.length c2, .slice A3 ks.length c3] 37) = W1 at *
  obtain ⟨x0, x1, x2, x3, x4⟩ := blk_cells5 HB0.out
  go_wp2_with fail
  (with_reducible refine HC.out.mono ?_); rintro e w2 ⟨A', n', c', qs', rfl, hp, hm⟩
  have HP := Lib.hid hp; have HM := Lib.hid hm
  clear hp hm HC x0 x1 x2 x3 x4
  go_wp2_with fail
  go_ret
  exact ⟨_, rfl, ⟨A', n', c', qs', rfl, HP.out.row, HP.out.pk, HP.out.len, HM.out⟩, HP.out.bel⟩
end Go.Proofs.YtlmakdclebbbkaaGreat
