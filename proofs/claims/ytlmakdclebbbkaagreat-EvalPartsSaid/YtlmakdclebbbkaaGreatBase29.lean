/- Texts, merged in one. -/
import Derived.Test.YtlmakdclebbbkaaGreatBase28
import Derived.Test.YtlmakdclebbbkaaGreatBase12
namespace Go.Proofs.YtlmakdclebbbkaaGreat
open Go.ChangeShapes Go.WideShapes Go.ChangeAt Go.RowKit
set_option linter.unusedVariables false
set_option maxRecDepth 100000
set_option linter.unusedSimpArgs false
theorem addErr_first {tm vl : Int} (h0 : ¬ tm < 0) (h1 : ¬ 1099511627776 < tm) : addErr (lastT []) ([] : List (Int × Int)).length [(tm, vl)] = 0 := by
  rw [show lastT [] = -1 from rfl, addErr_next (by omega) (by omega) (by omega) (by simp)]; rfl
theorem StAt.ser {g m c k : Nat} {ad : Addr} {L : List SR} {w : World} (h : StAt g (.slice (some ad) m c) L w) (hk : k < L.length) : SerP L[k].ss w (ad.add (k * 3)).block ((ad.add (k * 3)).off + 2) L[k].xv := by
  obtain ⟨a2, e, _, _, _, h2, _⟩ := h.row hk
  injection e with e; subst e; exact h2
structure NewAt (w0 : World) (g bq : Nat) (v : Value) (L : List SR) (l : List Lbl) (v5 v7 : Value) (x : Int × Int) (W : World) : Prop where
  st : StAt g v L W
  box : Blk W bq 90 [.string (txt l), v5, v7]
  set_ : W.ownsRow 0 25 2 v5 l.length (lbls l)
  smp_ : W.ownsRow 0 30 2 v7 1 (smps [x])
  bel : Below w0.heap.size w0 W
theorem NewAt.below {w0 W W' : World} {g bq : Nat} {v v5 v7 : Value} {L : List SR} {l : List Lbl} {x : Int × Int} (h : NewAt w0 g bq v L l v5 v7 x W) (hb : Below W.heap.size W W') : NewAt w0 g bq v L l v5 v7 x W' :=
  ⟨h.st.below hb, h.box.below hb h.box.lt, own_below h.set_ hb (Nat.le_refl _), own_below h.smp_ hb (Nat.le_refl _), h.bel.trans (hb.mono h.bel.size)⟩
def InsPost (w0 : World) (g m : Nat) (v : Value) (L : List SR) (l : List Lbl) (x : Int × Int) (e : Ending) (wi : World) : Prop :=
  ∃ A2 c2, e = .returned (.slice A2 (m + 1) c2) ∧ wi.cell? ⟨g, 0, none⟩ = some v ∧ wi.frozen? ⟨g, 0, none⟩ = false ∧ g < wi.heap.size ∧ PutAns g v L l x w0 (.returned (.int .i64 0)) (wi.setCell ⟨g, 0, none⟩ (.slice A2 (m + 1) c2))
theorem ins_any {w0 W : World} {g bq m c pn : Nat} {A : Option Addr} {L : List SR} {l : List Lbl} {v5 v7 : Value} {x : Int × Int} (H : NewAt w0 g bq (.slice A m c) L l v5 v7 x W) (hm : L.length = m) (hm1 : m ≤ 1000000) (hg : g < w0.heap.size) (hp : placeN (keys L) (printL l) = pn) (hB : placeB (keys L) (printL l) = false) (hE : putE (keys L) l x = 0) :
    Calls Tryz.prog 33 #[.slice A m c, .int .i64 pn, .slice (some ⟨W.heap.size, 0, none⟩) 1 1] (W.alloc (.cells #[.string (txt l), v5, v7] 90)) (InsPost w0 g m (.slice A m c) L l x) := by
  have hal : Below W.heap.size W (W.alloc (.cells #[.string (txt l), v5, v7] 90)) := (Below.refl _ _).alloc (Nat.le_refl _) _
  have H1 := H.below hal
  have hxok : SR.ok (W.alloc (.cells #[.string (txt l), v5, v7] 90)) ⟨v5, l, v7, [x]⟩ := ⟨H1.set_, H1.smp_⟩
  have hpn : pn ≤ m := by rw [← hp, ← hm, ← keys_length L]; exact placeN_le _ _
  have hrl := fun k hk => (H.st.rows.lt k hk).2
  refine (rinsert_any A m c pn L ⟨v5, l, v7, [x]⟩ W.heap.size _ (hm ▸ H1.st.rows) (Blk.mk (heap_alloc_new W _)) (srs_one (fun y hy => by rw [List.mem_singleton] at hy; subst hy; exact hxok)) (srs_one H1.st.each) (fun e => by have := hrl _ e; omega) hm1 hpn).mono ?_
  rintro e wi ⟨A2, c2, rfl, hown, hgr, hwh⟩
  have hvg := own_blk_ne H1.st.rows H1.st.box (by decide)
  have hbox : Blk wi g 81 [.slice A m c] := H1.st.box.grown hgr (fun e => hvg e.symm)
  have hlen : (L.take pn ++ (⟨v5, l, v7, [x]⟩ : SR) :: L.drop pn).length = L.length + 1 := by simp; omega
  refine ⟨A2, c2, rfl, hbox.cell 0, hbox.frozen 0, hbox.lt, put_new H1.st hxok H1.bel hg hown (by omega) hgr hwh hE ?_ hlen hB⟩
  unfold putD; rw [hB, if_neg (by decide), hp]
  simp [keys, SR.key, List.map_take, List.map_drop]
set_option maxHeartbeats 4000000 in
theorem put_any (g : Nat) (v : Value) (L : List SR) (A0 : Option Addr) (n c0 : Nat) (l : List Lbl) (tm vl : Int) (w : World) (h : StAt g v L w) (hn : L.length ≤ 1000) (hl : Sees w w.heap.size 2 A0 n (lbls l)) (hnl : n ≤ 9223372036854775807) (hss : ∀ x ∈ L, x.ss.length ≤ 1000) :
    Calls Tryz.prog 9 #[.pointer (some ⟨g, 0, none⟩), .slice A0 n c0, .agg #[.int .i64 tm, .int .i64 vl]] w (PutAns g v L l (tm, vl) w) := by
  obtain ⟨A, c, rfl, hc1, hc2⟩ := own_slice h.rows
  have hg := h.box.lt
  have HLL := Lib.hid hl.lbl_len
  have hb0 : Below w.heap.size w (w.alloc (.cells #[.int .i64 tm, .int .i64 vl] 30)) := (Below.refl _ _).alloc (Nat.le_refl _) _
  have HP0 : Hid (PutAt w g w.heap.size (.slice A L.length c) L tm vl (w.alloc (.cells #[.int .i64 tm, .int .i64 vl] 30))) := Lib.hid ⟨h.below hb0, Blk.mk (heap_alloc_new w _), hb0⟩
  have HSL : Hid (∀ V, Below w.heap.size w V → Sees V V.heap.size 2 A0 n (lbls l)) := Lib.hid fun V hV => (hl.below hV).more hV.size
  have HH := Lib.hid h
  clear h hl hb0
  obtain ⟨m, hm⟩ : ∃ m, L.length = m := ⟨_, rfl⟩
  have HM := Lib.hid hm
  rw [hm] at hc1 hn HP0 HH ⊢
  clear hm
  obtain ⟨bx, hbx⟩ : ∃ b, w.heap.size = b := ⟨_, rfl⟩
  have HBX := Lib.hid hbx
  obtain ⟨W1, hW1⟩ : ∃ W, w.alloc (.cells #[.int .i64 tm, .int .i64 vl] 30) = W := ⟨_, rfl⟩
  rw [hW1] at HP0
  have HP1 : Hid (PutAt w g bx (.slice A m c) L tm vl W1) := Lib.hid (by have := HP0.out; rw [hbx] at this; exact this)
  clear HP0
  have HR := Lib.hid (rightSet_any A0 n c0 l _ W1 (HSL.out _ HP1.out.bel) (Nat.le_refl _) hnl)
  have HPR := Lib.hid (fun V hV => print_any A0 n c0 l _ V (HSL.out V hV) (Nat.le_refl _) hnl)
  have HPL := Lib.hid (fun V (hV : StAt g (.slice A m c) L V) => place_any g (.slice A m c) L (txt l) V hV (by rw [HM.out]; omega))
  rw [txt_list] at HPL
  have HW1 := Lib.hid hW1
  clear hW1 hbx
  go_enter Tryz.func9, Tryz.ntmps9
  cases hr : rightS l with
  | false =>
    have HE : Hid (putE (keys L) l (tm, vl) = 1) := Lib.hid (by unfold putE; rw [if_pos (.inl hr)])
    rw [hr] at HR
    clear hr
    go_wp2_with fail
    rw [HW1.out]
    (with_reducible refine HR.out.mono ?_); rintro e w1 ⟨rfl, hb1⟩
    have HB1 := Lib.hid (HP1.out.below hb1).bel
    clear hb1 HR
    go_wp2_with fail
    go_ret
    exact putBad HH.out HE.out (by decide) HB1.out
  | true =>
    rw [hr] at HR
    have HRR := Lib.hid hr
    clear hr
    by_cases ht0 : tm < 0
    · have HE : Hid (putE (keys L) l (tm, vl) = 1) := Lib.hid (by unfold putE; rw [if_pos (.inr (.inl ht0))])
      go_wp2_with fail
      rw [HW1.out]
      (with_reducible refine HR.out.mono ?_); rintro e w1 ⟨rfl, hb1⟩
      have H1 := Lib.hid (HP1.out.below hb1)
      have z0 := H1.out.box.cell 0
      simp only [List.getElem?_cons_zero] at z0
      rw [HBX.out]
      clear hb1 HR
      go_wp2_with fail
      go_ret
      exact putBad HH.out HE.out (by decide) H1.out.bel
    by_cases ht1 : 1099511627776 < tm
    · have HE : Hid (putE (keys L) l (tm, vl) = 1) := Lib.hid (by unfold putE; rw [if_pos (.inr (.inr ht1))])
      go_wp2_with fail
      rw [HW1.out]
      (with_reducible refine HR.out.mono ?_); rintro e w1 ⟨rfl, hb1⟩
      have H1 := Lib.hid (HP1.out.below hb1)
      have z0 := H1.out.box.cell 0
      simp only [List.getElem?_cons_zero] at z0
      rw [HBX.out]
      clear hb1 HR
      go_wp2_with fail
      go_ret
      exact putBad HH.out HE.out (by decide) H1.out.bel
    have hn6 : n ≤ 6 := by have := rightS_len HRR.out; have := HLL.out; omega
    have HE0 : Hid (putE (keys L) l (tm, vl) = if placeB (keys L) (printL l) = true then addErr (lastT ((keys L).getD (placeN (keys L) (printL l)) ([], [])).2) ((keys L).getD (placeN (keys L) (printL l)) ([], [])).2.length [(tm, vl)] else if 32 ≤ (keys L).length then 8 else 0) := Lib.hid (by
      unfold putE; rw [if_neg]; rintro (h | h | h)
      · rw [HRR.out] at h; cases h
      · exact ht0 h
      · exact ht1 h)
    go_wp2_with fail
    rw [HW1.out]
    (with_reducible refine HR.out.mono ?_); rintro e w1 ⟨rfl, hb1⟩
    have H1 := Lib.hid (HP1.out.below hb1)
    have z0 := H1.out.box.cell 0
    simp only [List.getElem?_cons_zero] at z0
    rw [HBX.out]
    clear hb1 HR HP1
    go_wp2_with fail
    (with_reducible refine (HPR.out _ H1.out.bel).mono ?_); rintro e w2 ⟨rfl, hb2⟩
    have H2 := Lib.hid (H1.out.below hb2)
    clear hb2 H1 z0 HPR
    go_wp2_with fail
    (with_reducible refine (HPL.out _ H2.out.st).mono ?_); rintro e w3 ⟨rfl, hb3⟩
    have H3 := Lib.hid (H2.out.below hb3)
    clear hb3 H2 HPL
    have HNL := Lib.hid (placeN_le (keys L) (printL l))
    obtain ⟨pn, hpn⟩ : ∃ p, placeN (keys L) (printL l) = p := ⟨_, rfl⟩
    obtain ⟨pb, hpb⟩ : ∃ p, placeB (keys L) (printL l) = p := ⟨_, rfl⟩
    rw [hpn, hpb] at HE0 ⊢
    have HN := Lib.hid hpn; have HPB := Lib.hid hpb
    rw [hpn] at HNL
    clear hpn hpb
    cases pb with
    | true =>
      have hkl : pn < L.length := by
        rcases Nat.lt_or_ge pn L.length with h | h
        · exact h
        · have := placeB_end HN.out (by rw [keys_length]; exact h); rw [HPB.out] at this; cases this
      have hgd : (keys L).getD pn ([], []) = (L[pn].set, L[pn].ss) := by rw [List.getD_eq_getElem?_getD, List.getElem?_eq_getElem (by rw [keys_length]; exact hkl), keys_get hkl]; rfl
      have HE := Lib.hid (show putE (keys L) l (tm, vl) = addErr (lastT L[pn].ss) L[pn].ss.length [(tm, vl)] by rw [HE0.out, if_pos rfl, hgd])
      have HD := Lib.hid (show putD (keys L) l (tm, vl) = (keys L).set pn (L[pn].set, L[pn].ss ++ [(tm, vl)]) by unfold putD; rw [HPB.out, if_pos rfl, HN.out, hgd])
      obtain ⟨ad, hA, hal, d0, d1, hser, _⟩ := H3.out.st.row hkl
      subst hA
      have hlt : pn < m := by rw [← HM.out]; exact hkl
      have hi0 : (0 : Int) ≤ pn := by omega
      have hi1 : (pn : Int) < m := by omega
      have hs3 := hss _ (List.getElem_mem hkl)
      have HSS := Lib.hid hs3
      have HKL := Lib.hid hkl
      have HSR : Hid (∀ V, Below w3.heap.size w3 V → SerP L[pn].ss V (ad.add (pn * 3)).block ((ad.add (pn * 3)).off + 2) L[pn].xv) := Lib.hid fun V hV => hser.below hV
      have HH3 : Hid (∀ V, Below w3.heap.size w3 V → PutAt w g bx (.slice (some ad) m c) L tm vl V) := Lib.hid fun V hV => H3.out.below hV
      clear hgd d0 d1 hser hs3 hss hal HE0
      go_upto_region 6 with fail
      refine wp_region_facts_tail 9 (R := fun a b => Below a.heap.size a b) (G := (fun W => PutAt w g bx (.slice (some ad) m c) L tm vl W)) (V := fun i' u' W => match i' with | 0 => u' = .pointer (some ⟨g, 0, none⟩) | 1 => u' = .pointer (some ⟨g, 0, none⟩) | 2 => u' = .pointer (some ⟨g, 0, none⟩) | 3 => u' = .slice (some ad) m c | 4 => u' = .int .i64 pn | 5 => u' = .pointer (some (ad.add (pn * 3))) | 6 => u' = .pointer (some ⟨(ad.add (pn * 3)).block, (ad.add (pn * 3)).off + 2, none⟩) | 7 => u' = .agg #[.int .i64 tm, .int .i64 vl] | 8 => ∃ b, u' = .slice (some ⟨b, 0, none⟩) 1 1 ∧ Blk W b 30 [.int .i64 tm, .int .i64 vl] | _ => True) (by kernel_rfl) (fun w => Below.refl _ _) (fun a b c h1 h2 => h1.trans (h2.mono h1.size)) (by kernel_rfl) (by kernel_rfl) (by kernel_rfl) (by kernel_rfl) (by decide) (by kernel_rfl) ?hG ⟨?o0, ?o1, ?o2, ?o3, ?o4, ?o5, ?o6, ?o7, ?o8, trivial⟩ ?hend
      case o0 =>
        intro a w hfr hG hd
        refine ⟨fun hw => ?_, fun hw => absurd hw (by simp [Region.wanted])⟩
        have s0 : a.tmps.getD 0 undef = .pointer (some ⟨g, 0, none⟩) := hfr.at 0 (by kernel_rfl)
        refine op_yields (.pointer (some ⟨g, 0, none⟩)) ?_ ?_ ?_
        · simp only [execOp, resolve, List.map_toArray, List.map_cons, List.map_nil, Act.eval, s0]; simp [go_sem, -Array.getD_eq_getD_getElem?, s0]
        · exact Below.refl _ _
        · exact (fun _ _ => rfl)
      case o1 =>
        intro a w hfr hG hd
        obtain ⟨d0, _⟩ := hd
        refine ⟨fun hw => ?_, fun hw => absurd hw (by simp [Region.wanted])⟩
        have s34 : a.tmps.getD 34 undef = .pointer (some ⟨g, 0, none⟩) := (d0 rfl).now
        refine op_yields (.pointer (some ⟨g, 0, none⟩)) ?_ ?_ ?_
        · simp only [execOp, resolve, List.map_toArray, List.map_cons, List.map_nil, Act.eval, s34]; simp [go_sem, -Array.getD_eq_getD_getElem?, s34]
        · exact Below.refl _ _
        · exact (fun _ _ => rfl)
      case o2 =>
        intro a w hfr hG hd
        obtain ⟨d0, _⟩ := hd
        refine ⟨fun hw => ?_, fun hw => absurd hw (by simp [Region.wanted])⟩
        have s35 : a.tmps.getD 35 undef = .pointer (some ⟨g, 0, none⟩) := (d0 rfl).now
        refine op_yields (.pointer (some ⟨g, 0, none⟩)) ?_ ?_ ?_
        · simp only [execOp, resolve, List.map_toArray, List.map_cons, List.map_nil, Act.eval, s35]; simp [go_sem, -Array.getD_eq_getD_getElem?, s35]
        · exact Below.refl _ _
        · exact (fun _ _ => rfl)
      case o3 =>
        intro a w hfr hG hd
        obtain ⟨d0, _⟩ := hd
        refine ⟨fun hw => ?_, fun hw => absurd hw (by simp [Region.wanted])⟩
        have s36 : a.tmps.getD 36 undef = .pointer (some ⟨g, 0, none⟩) := (d0 rfl).now
        have z0 := hG.now.st.box.cell 0; simp only [List.getElem?_cons_zero] at z0
        refine op_yields (.slice (some ad) m c) ?_ ?_ ?_
        · simp only [execOp, resolve, List.map_toArray, List.map_cons, List.map_nil, Act.eval, s36]; simp [go_sem, -Array.getD_eq_getD_getElem?, s36, z0]
        · exact Below.refl _ _
        · exact (fun _ _ => rfl)
      case o4 =>
        intro a w hfr hG hd
        refine ⟨fun hw => ?_, fun hw => absurd hw (by simp [Region.wanted])⟩
        have s8 : a.tmps.getD 8 undef = .int .i64 pn := hfr.at 8 (by kernel_rfl)
        refine op_yields (.int .i64 pn) ?_ ?_ ?_
        · simp only [execOp, resolve, List.map_toArray, List.map_cons, List.map_nil, Act.eval, s8]; simp [go_sem, -Array.getD_eq_getD_getElem?, s8]
        · exact Below.refl _ _
        · exact (fun _ _ => rfl)
      case o5 =>
        intro a w hfr hG hd
        obtain ⟨d0, d1, _⟩ := hd
        refine ⟨fun hw => ?_, fun hw => absurd hw (by simp [Region.wanted])⟩
        have s37 : a.tmps.getD 37 undef = .slice (some ad) m c := (d0 rfl).now
        have s38 : a.tmps.getD 38 undef = .int .i64 pn := (d1 rfl).now
        refine op_yields (.pointer (some (ad.add (pn * 3)))) ?_ ?_ ?_
        · simp only [execOp, resolve, List.map_toArray, List.map_cons, List.map_nil, Act.eval, s37, s38]; simp [go_sem, -Array.getD_eq_getD_getElem?, s37, s38, hlt, hi0, hi1]
        · exact Below.refl _ _
        · exact (fun _ _ => rfl)
      case o6 =>
        intro a w hfr hG hd
        obtain ⟨d0, _⟩ := hd
        refine ⟨fun hw => ?_, fun hw => absurd hw (by simp [Region.wanted])⟩
        have s39 : a.tmps.getD 39 undef = .pointer (some (ad.add (pn * 3))) := (d0 rfl).now
        refine op_yields (.pointer (some ⟨(ad.add (pn * 3)).block, (ad.add (pn * 3)).off + 2, none⟩)) ?_ ?_ ?_
        · simp only [execOp, resolve, List.map_toArray, List.map_cons, List.map_nil, Act.eval, s39]; simp [go_sem, -Array.getD_eq_getD_getElem?, s39]
        · exact Below.refl _ _
        · exact (fun _ _ => rfl)
      case o7 =>
        intro a w hfr hG hd
        refine ⟨fun hw => ?_, fun hw => absurd hw (by simp [Region.wanted])⟩
        have s5 : a.tmps.getD 5 undef = .pointer (some ⟨bx, 0, none⟩) := hfr.at 5 (by kernel_rfl)
        have z0 := hG.now.box.cell 0; have z1 := hG.now.box.cell 1; simp only [List.getElem?_cons_zero, List.getElem?_cons_succ] at z0 z1
        refine op_yields (.agg #[.int .i64 tm, .int .i64 vl]) ?_ ?_ ?_
        · simp only [execOp, resolve, List.map_toArray, List.map_cons, List.map_nil, Act.eval, s5]; simp [go_sem, -Array.getD_eq_getD_getElem?, s5, z0, z1]
        · exact Below.refl _ _
        · exact (fun _ _ => rfl)
      case o8 =>
        intro a w hfr hG hd
        obtain ⟨d0, _⟩ := hd
        refine ⟨fun hw => ?_, fun hw => absurd hw (by simp [Region.wanted])⟩
        have s41 : a.tmps.getD 41 undef = .agg #[.int .i64 tm, .int .i64 vl] := (d0 rfl).now
        exact op_makes (.slice (some ⟨w.heap.size, 0, none⟩) 1 1) (w' := w.alloc (.cells #[.int .i64 tm, .int .i64 vl] 30)) (by simp only [execOp, resolve, List.map_toArray, List.map_cons, List.map_nil, Act.eval, s41]; simp [go_sem, -Array.getD_eq_getD_getElem?, s41]) ((Below.refl _ _).alloc (Nat.le_refl _) _) (fun W' hW' => ⟨_, rfl, (Blk.mk (heap_alloc_new _ _) : Blk _ _ _ [.int .i64 tm, .int .i64 vl]).below hW' (by simp)⟩)
      case hG => exact fun w' hb => HH3.out _ ((Below.refl _ _).drew.trans (hb.mono (by simp)))
      case hend =>
        intro vs w' hG hv
        have key : vs 6 = .pointer (some ⟨(ad.add (pn * 3)).block, (ad.add (pn * 3)).off + 2, none⟩) ∧ ∃ b, vs 8 = .slice (some ⟨b, 0, none⟩) 1 1 ∧ Blk w' b 30 [.int .i64 tm, .int .i64 vl] := by
          obtain ⟨_, _, _, _, _, _, h6, _, h8, _⟩ := hv
          exact ⟨h6.now, h8.now⟩
        have HG := Lib.hid hG.now
        clear hv hG
        obtain ⟨e6, b, e8, hbk⟩ := key
        have HBK := Lib.hid (hbk.sees (size := 2) (n := 1) (xs := smps [(tm, vl)]) rfl (List.prefix_refl _))
        clear hbk
        change wpList _ _ _ [_, _] (putAll vs 0 [_, _, _, _, _, _, _, _, _] _) _
        simp only [putAll, Act.put, e6, e8]
        clear e6 e8
        go_wp2_with fail
        (with_reducible refine (add_p L[pn].ss [(tm, vl)] _ _ L[pn].xv _ 1 1 w' (HG.out.st.ser HKL.out) HSS.out HBK.out (by omega) (by omega) (by omega)).mono ?_)
        intro e wa haa
        have HF := Lib.hid (put_add HG.out HH.out HKL.out haa HE.out HD.out)
        obtain ⟨rfl, _⟩ := haa
        clear HE HD HBK HG HH3 HSR HSS
        generalize addErr (lastT L[pn].ss) L[pn].ss.length [(tm, vl)] = r at *
        go_wp2_with fail
        go_ret
        exact HF.out
    | false =>
      by_cases h32 : 32 ≤ m
      · have h32i : (32 : Int) ≤ m := by omega
        have HE := Lib.hid (show putE (keys L) l (tm, vl) = 8 by rw [HE0.out, if_neg (by decide), if_pos (by rw [keys_length, HM.out]; exact h32)])
        obtain ⟨z0, hg3⟩ : w3.cell? ⟨g, 0, none⟩ = some (.slice A m c) ∧ g < w3.heap.size := ⟨H3.out.st.box.cell 0, H3.out.st.box.lt⟩
        clear HE0
        go_wp2_with fail
        go_ret
        exact putBad HH.out HE.out (by decide) H3.out.bel
      · have h32i : ¬ (32 : Int) ≤ m := by omega
        have HE := Lib.hid (show putE (keys L) l (tm, vl) = 0 by rw [HE0.out, if_neg (by decide), if_neg (by rw [keys_length, HM.out]; exact h32)])
        obtain ⟨z0, hg3⟩ : w3.cell? ⟨g, 0, none⟩ = some (.slice A m c) ∧ g < w3.heap.size := ⟨H3.out.st.box.cell 0, H3.out.st.box.lt⟩
        have HE1 := Lib.hid (addErr_first (tm := tm) (vl := vl) (by omega) (by omega))
        clear HE0
        go_wp2_with fail
        (with_reducible refine (clone_lbl A0 n c0 _ l w3 (HSL.out _ H3.out.bel) (Nat.le_refl _) (by omega)).mono ?_); rintro e wq ⟨A5, c5, rfl, hown5, hbq, hq3, hq4⟩
        have HQ := Lib.hid (H3.out.below hbq)
        have HO5 := Lib.hid (own_mono hown5 (Nat.zero_le _))
        clear hown5 hbq H3 z0 hg3 HSL
        go_upto_region 10 with fail
        have hb4 : Below wq.heap.size wq (wq.alloc (.cells #[.string (txt l), .slice A5 n c5, .slice none 0 0] 90)) := (Below.refl _ _).alloc (Nat.le_refl _) _
        have hk4 : Blk (wq.alloc (.cells #[.string (txt l), .slice A5 n c5, .slice none 0 0] 90)) wq.heap.size 90 [.string (txt l), .slice A5 n c5, .slice none 0 0] := Blk.mk (heap_alloc_new wq _)
        obtain ⟨W4, hW4⟩ : ∃ W, wq.alloc (.cells #[.string (txt l), .slice A5 n c5, .slice none 0 0] 90) = W := ⟨_, rfl⟩
        rw [hW4] at hb4 hk4
        try rw [hW4]
        obtain ⟨bq, hbq⟩ : ∃ b, wq.heap.size = b := ⟨_, rfl⟩
        have HBQ := Lib.hid hbq
        rw [hbq] at hb4 hk4
        try rw [hbq]
        have H4 := Lib.hid (HQ.out.below (by rw [hbq]; exact hb4))
        have HB4 := Lib.hid hb4
        have HK4 := Lib.hid hk4
        clear hW4 hbq hb4 hk4
        have y0 := H4.out.box.cell 0
        have y1 := H4.out.box.cell 1
        simp only [List.getElem?_cons_zero, List.getElem?_cons_succ] at y0 y1
        have hb5 : Below W4.heap.size W4 (W4.alloc (.cells #[.int .i64 tm, .int .i64 vl] 30)) := (Below.refl _ _).alloc (Nat.le_refl _) _
        have HK5 := Lib.hid (HK4.out.below hb5 HK4.out.lt)
        have HSER : Hid (SerP [] (W4.alloc (.cells #[.int .i64 tm, .int .i64 vl] 30)) bq 2 (.slice none 0 0)) := Lib.hid ⟨HK5.out.cell 2, HK5.out.frozen 2, HK5.out.lt, by simpa [smps] using World.ownsRow_nil _ 0 30 2⟩
        have HX := Lib.hid ((Blk.mk (heap_alloc_new W4 (.cells #[.int .i64 tm, .int .i64 vl] 30)) : Blk _ W4.heap.size 30 [.int .i64 tm, .int .i64 vl]).sees (size := 2) (n := 1) (xs := smps [(tm, vl)]) rfl (List.prefix_refl _))
        have HB5 := Lib.hid hb5
        have hq4s : bq < W4.heap.size := HK4.out.lt
        clear hb5
        go_wp2_with fail
        (with_reducible refine (add_p [] [(tm, vl)] _ 2 (.slice none 0 0) _ 1 1 _ HSER.out (by simp) HX.out (by omega) (by omega) (by omega)).mono ?_)
        rintro e wa ⟨rfl, haa⟩
        rw [HE1.out] at haa ⊢
        rcases haa with ⟨hne, _⟩ | ⟨_, v7, w6, hb6, rfl, hown7⟩
        · exact absurd rfl hne
        have hs5 : W4.heap.size < (W4.alloc (.cells #[.int .i64 tm, .int .i64 vl] 30)).heap.size := by simp
        have HNA : Hid (NewAt w g bq (.slice A m c) L l (.slice A5 n c5) v7 (tm, vl) (w6.setCell ⟨bq, 2, none⟩ v7)) := Lib.hid (by
          have hw6 : Below bq wq w6 := HB4.out.trans ((HB5.out.trans (hb6.mono (by omega))).mono (by omega))
          have hw7 : Below bq wq (w6.setCell ⟨bq, 2, none⟩ v7) := hw6.setCell (Nat.le_refl _) _
          have hw8 : Below wq.heap.size wq (w6.setCell ⟨bq, 2, none⟩ v7) := by rw [HBQ.out]; exact hw7
          exact ⟨HQ.out.st.below hw8, (HK5.out.below hb6 HK5.out.lt).set 2 v7, by have := own_below HO5.out hw8 (Nat.le_refl _); rw [HLL.out]; exact this, own_mono (own_far hown7 (p := ⟨bq, 2, none⟩) (show bq < _ by omega) v7) (Nat.zero_le _), HQ.out.bel.trans (hw8.mono HQ.out.bel.size)⟩)
        obtain ⟨A7, c7, hv7, _, _⟩ := own_slice HNA.out.smp_
        subst hv7
        have HINS := Lib.hid (fun (V : World) (hV : Below (w6.setCell ⟨bq, 2, none⟩ (.slice A7 1 c7)).heap.size (w6.setCell ⟨bq, 2, none⟩ (.slice A7 1 c7)) V) => ins_any (HNA.out.below hV) HM.out (by omega) hg HN.out HPB.out HE.out)
        have HINS2 : Hid (∀ (V : World), Below (w6.setCell ⟨bq, 2, none⟩ (.slice A7 1 c7)).heap.size (w6.setCell ⟨bq, 2, none⟩ (.slice A7 1 c7)) V → Calls Tryz.prog 33 #[.slice A m c, .int .i64 pn, .slice (some ⟨V.heap.size, 0, none⟩) 1 1] (V.alloc (.cells #[.string (txt l), .slice A5 n c5, .slice A7 1 c7] 90)).drew (InsPost w g m (.slice A m c) L l (tm, vl))) := Lib.hid fun V hV => HINS.out V.drew hV.drew
        clear hb6 hown7 HX HSER HK5 HB5 HK4 HB4 H4 y0 y1 HQ HO5
        generalize w6.setCell ⟨bq, 2, none⟩ (.slice A7 1 c7) = wa at *
        obtain ⟨x0, x1, x2⟩ : wa.cell? ⟨bq, 0, none⟩ = some (.string (txt l)) ∧ wa.cell? ⟨bq, 1, none⟩ = some (.slice A5 n c5) ∧ wa.cell? ⟨bq, 2, none⟩ = some (.slice A7 1 c7) := ⟨HNA.out.box.cell 0, HNA.out.box.cell 1, HNA.out.box.cell 2⟩
        obtain ⟨z0, hga, hqa⟩ : wa.cell? ⟨g, 0, none⟩ = some (.slice A m c) ∧ g < wa.heap.size ∧ bq < wa.heap.size := ⟨HNA.out.st.box.cell 0, HNA.out.st.box.lt, HNA.out.box.lt⟩
        go_upto_region 13 with fail
        go_region_law (first
          | ((try go_simp); go_at_call 33; ((with_reducible refine (HINS2.out _ (Below.refl _ _)).mono ?_); rintro e wi ⟨A2, c2, rfl, zi, zf, zl, hfin⟩; have HFIN := Lib.hid hfin; clear hfin))
          | fail)
        all_goals
          go_wp2_with fail
          go_ret
          exact HFIN.out
end Go.Proofs.YtlmakdclebbbkaaGreat

namespace Go.Proofs.YtlmakdclebbbkaaGreat
open Go.ChangeShapes Go.WideShapes Go.ChangeAt Go.RowKit Go.Lib
set_option linter.unusedVariables false
set_option maxRecDepth 100000
def chgOne (look f t : Int) (ms : List Mtc) (x : SK) : List Int := if allF x.1 ms then chg look f t x.2 else []
def chgS (D : List SK) (look f t : Int) (ms : List Mtc) : List Int := compact (isort (D.flatMap (chgOne look f t ms)))
set_option maxHeartbeats 4000000 in
theorem schanges_any (g : Nat) (v : Value) (L : List SR) (look f t : Int) (A2 : Option Addr) (n2 c2 : Nat) (ms : List Mtc) (w : World) (h : StAt g v L w) (hn : L.length ≤ 100) (hsl : ∀ x ∈ L, x.set.length ≤ 1000 ∧ x.ss.length ≤ 1000 ∧ ∀ y ∈ x.ss, 0 ≤ y.1 ∧ y.1 ≤ 1099511627776) (h2 : Sees w w.heap.size 3 A2 n2 (mtcs ms)) (hn2 : n2 ≤ 9223372036854775807) (hlk : -1099511627776 ≤ look ∧ look ≤ 1099511627776) :
    Calls Tryz.prog 37 #[.pointer (some ⟨g, 0, none⟩), .int .i64 look, .int .i64 f, .int .i64 t, .slice A2 n2 c2] w (OwnAns 3 1 (chgS (keys L) look f t ms).length (ints (chgS (keys L) look f t ms)) w) := by
  obtain ⟨i0, hi0, hz0, hz1, hz2⟩ := info_parts Tryz.infoI
  obtain ⟨A, c, rfl, hc1, hc2⟩ := own_slice h.rows
  have hc0 : w.cell? ⟨g, 0, none⟩ = some (.slice A L.length c) := h.box.cell 0
  have hg := h.box.lt
  have HT : Hid (∀ V, Below w.heap.size w V → StAt g (.slice A L.length c) L V) := Lib.hid fun V hV => h.below hV
  have HM2 : Hid (∀ V, Below w.heap.size w V → Sees V V.heap.size 3 A2 n2 (mtcs ms)) := Lib.hid fun V hV => (h2.below hV).more hV.size
  clear h h2
  obtain ⟨m, hm⟩ : ∃ m, L.length = m := ⟨_, rfl⟩
  have HM := Lib.hid hm
  rw [hm] at hc0 hc1 hn HT
  clear hm
  have HC0 : Hid (∀ V, Below w.heap.size w V → V.cell? ⟨g, 0, none⟩ = some (.slice A m c)) := Lib.hid fun V hV => (HT.out V hV).box.cell 0
  have HLK := Lib.hid hlk
  clear hlk
  obtain ⟨RES, hRES⟩ : ∃ R, chgS (keys L) look f t ms = R := ⟨_, rfl⟩
  rw [hRES]
  have HRES := Lib.hid hRES
  clear hRES
  go_enter Tryz.func37, Tryz.ntmps37
  go_wp2_with fail
  go_loopg [11, 18] m (fun gg x11 x18 wr => ∃ (k : Nat) (X : Option Addr) (cx : Nat) (ts : List Int), k + gg = m ∧ x18 = .int .i64 k ∧ x11 = .slice X ts.length cx ∧ wr.ownsRow w.heap.size 3 1 (.slice X ts.length cx) ts.length (ints ts) ∧ Below w.heap.size w wr ∧ ts.length ≤ 2000 * k ∧ ts = ((keys L).take k).flatMap (chgOne look f t ms))
  case atStart => exact ⟨0, none, 0, [], by omega, rfl, rfl, by simpa [ints] using World.ownsRow_nil _ _ 3 1, Below.refl _ _, by simp, by simp⟩
  case round =>
    obtain ⟨k, X, cx, ts, hkg, rfl, rfl, hrow, hbel, hrl, hrs⟩ := hrel
    have HR := Lib.hid hrow; have HB := Lib.hid hbel; have HS := Lib.hid hrs
    have hws := hbel.size
    have hd0 := HC0.out _ hbel
    have hgw : g < wr.heap.size := by omega
    clear hrow hbel hrs
    cases gk with
    | zero =>
      obtain rfl : k = m := by omega
      have HE := Lib.hid (show compact (isort ts) = RES by rw [← HRES.out, HS.out, List.take_of_length_le (by rw [keys_length, HM.out]; exact Nat.le_refl _)]; rfl)
      have HIL := Lib.hid (isort_len ts)
      clear HS HRES
      have htl : ts.length ≤ 1000000 := by omega
      have HBX : Hid (∀ g, (Value.slice X ts.length cx).ownBlock = some g → w.heap.size ≤ g) := Lib.hid fun g hg => (HR.out.lt g hg).1
      have HSO := Lib.hid (sort_own w.heap.size X ts.length cx ts wr HR.out htl)
      have HCO := Lib.hid (fun V h => compact_ownI w.heap.size X ts.length cx (isort ts) V h htl)
      generalize isort ts = zs at *
      generalize ts.length = tl at *
      go_wp2_with fail
      (with_reducible refine HSO.out.mono ?_); rintro e w1 ⟨rfl, hown, hgr⟩
      have HO := Lib.hid hown
      have HB1 := Lib.hid (HB.out.grown hgr hws HBX.out)
      clear hown hgr HSO HR
      go_wp2_with fail
      (with_reducible refine (HCO.out _ HO.out).mono ?_); rintro e w2 ⟨rfl, hown, hgr⟩
      rw [HE.out] at hown ⊢
      obtain ⟨A9, c9, hv9, hq1, hq2⟩ := own_slice hown
      injection hv9 with hv9 _ hv8; subst hv9; subst hv8
      have hs1 := HB1.out.size
      have HO2 := Lib.hid hown
      have HB2 := Lib.hid (HB1.out.grown hgr hs1 HBX.out)
      clear hown hgr
      go_wp2_with fail
      go_ret
      exact ownAns HO2.out HB2.out rfl hq1 hq2
    | succ gg =>
      have hlt : k < m := by omega
      have hkl : k < L.length := by rw [HM.out]; exact hlt
      obtain ⟨ad, hA, hal, c0, c1, hser, hl⟩ := (HT.out _ HB.out).row hkl
      subst hA
      have hlen := hsl L[k] (List.getElem_mem _)
      have HF := Lib.hid (flatMap_more (chgOne look f t ms) (show k < (keys L).length by rw [keys_length]; exact hkl))
      rw [keys_get hkl] at HF
      clear c0
      have HSR : Hid (∀ V, Below wr.heap.size wr V → SerP L[k].ss V (ad.add (k * 3)).block ((ad.add (k * 3)).off + 2) L[k].xv) := Lib.hid fun V hV => hser.below hV
      clear hser
      generalize L[k].set = l at *
      generalize L[k].sv = sv at *
      generalize L[k].ss = ss at *
      generalize L[k].xv = xv at *
      obtain ⟨A0, c0, rfl⟩ := hl.form
      have HL := Lib.hid hl; clear hl
      have HAL := Lib.hid (all_any A0 l.length c0 _ l A2 n2 c2 _ ms wr HL.out.slice.1 (Nat.le_refl _) (by omega) (HM2.out _ HB.out) (Nat.le_refl _) hn2)
      cases hal2 : allF l ms with
      | false =>
        rw [hal2] at HAL
        have HN := Lib.hid (show ts = ((keys L).take (k + 1)).flatMap (chgOne look f t ms) by rw [HF.out, ← HS.out]; simp [chgOne, hal2])
        clear HF HS hal2
        go_wp2_with fail
        (with_reducible refine HAL.out.mono ?_); rintro e w1 ⟨rfl, hb1⟩
        have HBW := Lib.hid (HB.out.trans (hb1.mono hws))
        have HR1 := Lib.hid (own_below HR.out hb1 (Nat.le_refl _))
        clear hb1
        go_wp2_with fail
        go_roundg gg
        case measure => omega
        case rel => exact ⟨k + 1, X, cx, ts, by omega, by go_num, rfl, HR1.out, HBW.out, by omega, HN.out⟩
      | true =>
        rw [hal2] at HAL
        have hcl := chg_len look f t ss
        have HN := Lib.hid (show ts ++ chg look f t ss = ((keys L).take (k + 1)).flatMap (chgOne look f t ms) by rw [HF.out, ← HS.out]; simp [chgOne, hal2])
        clear HF HS hal2
        go_wp2_with fail
        (with_reducible refine HAL.out.mono ?_); rintro e w1 ⟨rfl, hb1⟩
        have HBW := Lib.hid (HB.out.trans (hb1.mono hws))
        have HR1 := Lib.hid (own_below HR.out hb1 (Nat.le_refl _))
        have hs1 := hb1.size
        have hd1 := HC0.out w1 HBW.out
        have hal1 : (ad.add (k * 3)).block < w1.heap.size := by omega
        have hgw1 : g < w1.heap.size := by omega
        have HCH := Lib.hid (changes_p ss (ad.add (k * 3)).block ((ad.add (k * 3)).off + 2) xv look f t w1 (HSR.out w1 hb1) hlen.2.1 HLK.out hlen.2.2)
        have hsl2 := hlen.2.1
        clear hb1 HAL HR HB hd0 hal hgw hlen
        generalize chg look f t ss = us at *
        go_wp2_with fail
        (with_reducible refine HCH.out.mono ?_); rintro e w2 ⟨A5, c5, rfl, hown, hbel, hq3, hq4⟩
        have HX := Lib.hid (Sees.of_own hown)
        have HR2 := Lib.hid (own_below HR1.out hbel (Nat.le_refl _))
        have hs2 := hbel.size
        have HB2 := Lib.hid (HBW.out.trans (hbel.mono (by omega)))
        have HBX : Hid (∀ g, (Value.slice X ts.length cx).ownBlock = some g → w.heap.size ≤ g) := Lib.hid fun g hg => (HR2.out.lt g hg).1
        clear hown hbel HCH HR1 HBW
        go_wp2_with (at_builtin; refine wpList_append_at rfl (.tmp 31) (.tmp 42) 45 rfl w.heap.size 3 i0 (.int .i64 0) 1 8 Tryz.underlying45 hi0 hz0 hz1 hz2 rfl (by decide) (.slice X ts.length cx) ts.length (ints ts) rfl HR2.out _ _ us.length c5 (ints us) rfl HX.out (ints_one _) (by unfold maxLen; omega) (by omega) (by omega) ?_)
        intro v3 w3 hown3 hgr3 hwh3
        obtain ⟨A6, c6, rfl, hc3, hc4⟩ := own_slice hown3
        have HRN := Lib.hid hown3
        have HB3 := Lib.hid (HB2.out.grown hgr3 (by omega) HBX.out)
        clear hown3 hgr3 hwh3 HX HB2 HBX
        have HLN := Lib.hid (show (ts ++ us).length = ts.length + us.length by simp)
        go_wp2_with fail
        go_roundg gg
        case measure => omega
        case rel => exact ⟨k + 1, A6, c6, ts ++ us, by omega, by go_num, by rw [HLN.out], by rw [HLN.out, ints_append]; exact HRN.out, HB3.out, by rw [HLN.out]; omega, HN.out⟩
end Go.Proofs.YtlmakdclebbbkaaGreat
