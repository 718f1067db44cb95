/- Texts, merged in one. -/
import Derived.Test.YtlmakdclebbbkaaGreatBase19
import Derived.Test.YtlmakdclebbbkaaGreatBase6
import Derived.Test.YtlmakdclebbbkaaGreatBase11
import Derived.Test.YtlmakdclebbbkaaGreatBase4
import Derived.Deep.DeepCutAuto
namespace Go.Proofs.YtlmakdclebbbkaaGreat
open Go.ChangeShapes Go.WideShapes Go.ChangeAt Go.RowKit
set_option linter.unusedVariables false
set_option linter.unusedSimpArgs false
set_option maxRecDepth 100000
/-- A point's key, as a text. -/
def keyT (l : List Lbl) : List UInt8 := printL (bareL l)
/-- Where each of the first k keys is first. -/
def placeK (ks : List (List UInt8)) : Nat → List UInt8 → Option Int
  | 0, _ => none
  | k + 1, t => if (placeK ks k (ks.getD k [])).isSome = true then placeK ks k t else if t = ks.getD k [] then some (k : Int) else placeK ks k t
/-- How many keys there are among the first k. -/
def placeC (ks : List (List UInt8)) : Nat → Nat
  | 0 => 0
  | k + 1 => if (placeK ks k (ks.getD k [])).isSome = true then placeC ks k else placeC ks k + 1
def keysOf (rows : List PtR) : List (List UInt8) := rows.map fun x => keyT x.set
theorem keysOf_get (rows : List PtR) (k : Nat) (h : k < rows.length) : (keysOf rows).getD k [] = keyT rows[k].set := by
  rw [List.getD_eq_getElem?_getD, List.getElem?_eq_getElem (by simpa [keysOf] using h)]
  simp [keysOf]
theorem printL_size (l : List Lbl) : (⟨(printL l).toArray⟩ : ByteArray).size ≤ 500 := by
  show (printL l).toArray.size ≤ 500
  rw [List.size_toArray]
  cases h : rightS l with
  | true => exact printL_length_le h
  | false => unfold printL; rw [h]; simp
theorem pt_get {base n c : Nat} {A : Option Addr} {rows : List PtR} {w : World} (h : PtsAt base (.slice A n c) rows w) {k : Nat} (hk : k < rows.length) :
    ∃ ad, A = some ad ∧ w.cell? (ad.add (k * 2)) = some rows[k].sv ∧ w.cell? ⟨(ad.add (k * 2)).block, (ad.add (k * 2)).off + 1, none⟩ = some (.int .i64 rows[k].val) ∧ HasL w rows[k].sv rows[k].set := by
  have hr := h.own
  obtain ⟨_, _, e, _⟩ := own_slice hr
  injection e with _ e _; subst e
  obtain ⟨h0, h1⟩ := pts_get rows k hk
  obtain ⟨ad, e, _, hc⟩ := (Sees.of_own hr).at_ (by omega)
  subst e
  exact ⟨ad, rfl, hc _ _ h0, by rw [add_spelt _ _ _ (by omega)]; exact hc _ _ h1, (h.each _ (List.getElem_mem _)).hasL⟩
theorem run_makeMap_hint (n : Nat) (w : World) : (Instr.makeMap 118 (some (.int .i64 n))).run Tryz.prog w = .ok (.map (some w.heap.size)) (w.alloc (.map #[] 0)) := by
  simp [Instr.makeMap, run_underlying Tryz.underlying118, asInt, asIntOf, Result.andThen]
set_option maxHeartbeats 4000000 in
theorem places_any (base : Nat) (A : Option Addr) (c : Nat) (rows : List PtR) (w : World) (h : PtsAt base (.slice A rows.length c) rows w) (hn : rows.length ≤ 1000) (hsl : ∀ x ∈ rows, x.set.length ≤ 1000) :
    Calls Tryz.prog 52 #[.slice A rows.length c] w fun e w' => e = .returned (.map (some w.heap.size)) ∧ IMap w' w.heap.size rows.length (placeK (keysOf rows) rows.length) (placeC (keysOf rows) rows.length) ∧ Below w.heap.size w w' := by
  have H := Lib.hid (fun (V : World) (hV : Below w.heap.size w V) => h.below hV)
  have HSL := Lib.hid hsl
  have HM0 := Lib.hid (IMap.made w)
  have HB0 := Lib.hid ((Below.refl w.heap.size w).alloc (Nat.le_refl _) (.map #[] 0))
  obtain ⟨b, hb⟩ : ∃ b, w.heap.size = b := ⟨_, rfl⟩
  have HB := Lib.hid hb
  rw [hb] at HM0
  have hmm := run_makeMap_hint rows.length w
  obtain ⟨ks, hks⟩ : ∃ k, keysOf rows = k := ⟨_, rfl⟩
  have HKS := Lib.hid (fun k (hk : k < rows.length) => hks ▸ keysOf_get rows k hk)
  rw [hks]
  clear h hsl hks
  obtain ⟨N, hN⟩ : ∃ N, rows.length = N := ⟨_, rfl⟩
  have HN := Lib.hid hN
  rw [hN] at H hn hmm ⊢
  clear hN hb
  go_enter Tryz.func52, Tryz.ntmps52
  go_upto_region 2 with fail
  rw [HB.out]
  have HBE0 := Lib.hid (show w.heap.size ≤ b by rw [HB.out]; exact Nat.le_refl _)
  generalize w.alloc (.map #[] 0) = W1 at *
  clear hmm
  go_wp2_with fail
  go_loopg [14] N (fun g x14 wr => ∃ k : Nat, k + g = N ∧ x14 = .int .i64 k ∧ IMap wr b k (placeK ks k) (placeC ks k) ∧ Below w.heap.size w wr)
  case atStart => exact ⟨0, by omega, rfl, HM0.out, HB0.out⟩
  case round =>
    obtain ⟨k, hkg, rfl, hmap, hbel⟩ := hrel
    have HM := Lib.hid hmap; have HBE := Lib.hid hbel
    clear hmap hbel HM0 HB0
    cases gk with
    | zero =>
      obtain rfl : k = N := by omega
      go_wp2_with fail
      go_ret
      exact ⟨by rw [HB.out]; rfl, by rw [HB.out]; exact HM.out, HBE.out⟩
    | succ g =>
      have hlt : k < rows.length := by have := HN.out; omega
      obtain ⟨ad, hA, e0, e1, A2, c2, hsv, hss, _, _⟩ := pt_get (H.out wr HBE.out) hlt
      have hl := HSL.out rows[k] (List.getElem_mem hlt)
      have hkk := HKS.out k hlt
      subst hA
      generalize rows[k] = q at *
      obtain ⟨sv, l, val⟩ := q
      simp only at e0 e1 hsv hss hl hkk
      subst hsv
      obtain ⟨sl, hsl⟩ : ∃ n, l.length = n := ⟨_, rfl⟩
      rw [hsl] at e0 hss hl
      have ha := (Below.refl wr.heap.size wr).alloc (Nat.le_refl _) (.cells #[.slice A2 sl c2, .int .i64 val] 43)
      have HC := Lib.hid (keyText_any A2 sl c2 l val (wr.alloc (.cells #[.slice A2 sl c2, .int .i64 val] 43)) ((hss.below ha).more ha.size) (by omega))
      have HM2 := Lib.hid (HM.out.below ha)
      have HBE2 := Lib.hid (HBE.out.trans (ha.mono HBE.out.size))
      have hts := printL_size (bareL l)
      obtain ⟨tx, htx⟩ : ∃ t, (⟨(printL (bareL l)).toArray⟩ : ByteArray) = t := ⟨_, rfl⟩
      have HTX := Lib.hid (show tx.data.toList = ks.getD k [] by rw [hkk, ← htx]; simp [keyT])
      rw [htx] at HC hts
      have htm : tx.size ≤ maxLen := by unfold maxLen; omega
      clear hss hl hsl htx ha hkk HM HBE hts
      go_wp2_with fail
      (with_reducible refine HC.out.mono ?_); rintro e w3 ⟨rfl, hb3⟩
      have HM3 := Lib.hid (HM2.out.below hb3)
      have HBE3 := Lib.hid (HBE2.out.trans (hb3.mono HBE2.out.size))
      have hlk := HM3.out.look htm
      rw [HTX.out] at hlk
      have HNF : Hid (∀ t, placeK ks (k + 1) t = if (placeK ks k (ks.getD k [])).isSome = true then placeK ks k t else if t = ks.getD k [] then some (k : Int) else placeK ks k t) := Lib.hid (fun t => rfl)
      have HNC : Hid (placeC ks (k + 1) = if (placeK ks k (ks.getD k [])).isSome = true then placeC ks k else placeC ks k + 1) := Lib.hid rfl
      obtain ⟨w8, hrun8, hm8, hg8⟩ := HM3.out.put (by omega) htm (show I64 (k : Int) by unfold I64; omega)
      rw [HTX.out] at hm8
      have HRUN8 := Lib.hid hrun8; have HM8 := Lib.hid hm8; have HG8 := Lib.hid hg8
      clear hb3 HC HM2 HBE2 hrun8 hm8 hg8
      cases hq : placeK ks k (ks.getD k []) with
      | some x =>
        rw [hq] at hlk
        have HF := Lib.hid (show placeK ks (k + 1) = placeK ks k from funext fun t => by rw [HNF.out, if_pos (by rw [hq]; rfl)])
        have HFC := Lib.hid (show placeC ks (k + 1) = placeC ks k by rw [HNC.out, if_pos (by rw [hq]; rfl)])
        clear hq HM8 HG8 HRUN8
        go_wp2_with fail
        go_roundg g
        case measure => omega
        case rel => exact ⟨k + 1, by omega, by first | rfl | go_num, by rw [HF.out, HFC.out]; exact HM3.out.widen (Nat.le_succ _), HBE3.out⟩
      | none =>
        rw [hq] at hlk
        have HF := Lib.hid (show placeK ks (k + 1) = fun t => if t = ks.getD k [] then some (k : Int) else placeK ks k t from funext fun t => by rw [HNF.out, if_neg (by rw [hq]; simp)])
        have HFC := Lib.hid (show placeC ks (k + 1) = placeC ks k + 1 by rw [HNC.out, if_neg (by rw [hq]; simp)])
        have HM9 := Lib.hid (show IMap w8 b (k + 1) (placeK ks (k + 1)) (placeC ks (k + 1)) by rw [HF.out, HFC.out]; have h := HM8.out; rw [hq, if_neg (by simp)] at h; exact h)
        have HBE9 := Lib.hid (HBE3.out.grown HG8.out HBE3.out.size (fun g e => by injection e with e; have := HBE0.out; omega))
        clear hq HM8 HG8 HF HFC
        go_wp2_with (at_mapUpdate; refine wpList_put_imap rfl (.tmp 29) (.tmp 30) (.tmp 31) 118 rfl (.map (some b)) (.string tx) (.int .i64 k) rfl rfl rfl w8 HRUN8.out ?_)
        go_roundg g
        case measure => omega
        case rel => exact ⟨k + 1, by omega, by first | rfl | go_num, HM9.out, HBE9.out⟩
end Go.Proofs.YtlmakdclebbbkaaGreat

namespace Go.Proofs.YtlmakdclebbbkaaGreat
open Go.ChangeShapes Go.WideShapes Go.ChangeAt Go.RowKit
set_option linter.unusedVariables false
set_option linter.unusedSimpArgs false
set_option maxRecDepth 100000
/-- A call answers a point whose set lies in new memory. -/
def PtAns (l : List Lbl) (z : Int) (w : World) (e : Ending) (w' : World) : Prop := ∃ A c, e = .returned (.agg #[.slice A l.length c, .int .i64 z]) ∧ OwnL w' (.slice A l.length c) l ∧ Below w.heap.size w w'
structure CpAt (w0 : World) (b1 b2 : Nat) (sv : Value) (z : Int) (W : World) : Prop where
  bel : Below w0.heap.size w0 W
  bx : Blk W b1 43 [sv, .int .i64 z]
  bz : Blk W b2 43 [.slice none 0 0, .int .i64 0]
  l1 : w0.heap.size ≤ b1
  l2 : w0.heap.size ≤ b2
  ne : b1 ≠ b2
theorem CpAt.below {w0 W W' : World} {b1 b2 : Nat} {sv : Value} {z : Int} (h : CpAt w0 b1 b2 sv z W) (hb : Below W.heap.size W W') : CpAt w0 b1 b2 sv z W' :=
  ⟨h.bel.trans (hb.mono h.bel.size), h.bx.below hb h.bx.lt, h.bz.below hb h.bz.lt, h.l1, h.l2, h.ne⟩
theorem CpAt.set0 {w0 W : World} {b1 b2 : Nat} {sv : Value} {z : Int} (h : CpAt w0 b1 b2 sv z W) (u : Value) : CpAt w0 b1 b2 u z (W.setCell ⟨b1, 0, none⟩ u) :=
  ⟨h.bel.setCell (p := ⟨b1, 0, none⟩) h.l1 u, h.bx.set 0 u, h.bz.far (p := ⟨b1, 0, none⟩) h.ne.symm u, h.l1, h.l2, h.ne⟩
theorem ownL_setCell {W : World} {v : Value} {l : List Lbl} {b t o : Nat} {cs : List Value} (h : OwnL W v l) (hb : Blk W b t cs) (ht : t ≠ 25) (u : Value) : OwnL (W.setCell ⟨b, o, none⟩ u) v l := by
  obtain ⟨A, c, rfl, h2⟩ := h
  refine ⟨A, c, rfl, ownsRow_setCell_other h2 (fun e => ?_) u⟩
  rcases h2.2 with ⟨e2, _⟩ | ⟨g, cap, cur, hv, _, hh, _⟩
  · rw [e2] at e; simp [Value.ownBlock] at e
  · rw [hv] at e
    simp [Value.ownBlock] at e
    subst e
    rw [hb.eq] at hh
    injection hh with hh; injection hh with _ hh _
    exact ht hh
set_option maxHeartbeats 4000000 in
theorem cpoint_any (A : Option Addr) (n c : Nat) (l : List Lbl) (z : Int) (w : World) (h : Sees w w.heap.size 2 A n (lbls l)) (hn : n ≤ 1000000) :
    Calls Tryz.prog 139 #[.agg #[.slice A n c, .int .i64 z]] w (PtAns l z w) := by
  have hl := h.lbl_len
  have hsz : (w.alloc (.cells #[.slice A n c, .int .i64 z] 43)).heap.size = w.heap.size + 1 := by simp
  have hb : Below w.heap.size w ((w.alloc (.cells #[.slice A n c, .int .i64 z] 43)).alloc (.cells #[.slice none 0 0, .int .i64 0] 43)) := ((Below.refl _ _).alloc (Nat.le_refl _) _).alloc (by simp) _
  have HC0 : Hid (CpAt w w.heap.size (w.heap.size + 1) (.slice A n c) z ((w.alloc (.cells #[.slice A n c, .int .i64 z] 43)).alloc (.cells #[.slice none 0 0, .int .i64 0] 43))) := Lib.hid ⟨hb, (Blk.mk (heap_alloc_new w _)).alloc _, (by have hh := (Blk.mk (heap_alloc_new (w.alloc (.cells #[.slice A n c, .int .i64 z] 43)) (.cells #[.slice none 0 0, .int .i64 0] 43)) : Blk _ (w.alloc (.cells #[.slice A n c, .int .i64 z] 43)).heap.size 43 [.slice none 0 0, .int .i64 0]); rw [hsz] at hh; exact hh), Nat.le_refl _, Nat.le_succ _, by omega⟩
  have HCL := Lib.hid (clone_lbl A n c _ l ((w.alloc (.cells #[.slice A n c, .int .i64 z] 43)).alloc (.cells #[.slice none 0 0, .int .i64 0] 43)) (h.below hb) (by simp; omega) hn)
  have HLN := Lib.hid hl
  have HG := Lib.hid (show ∃ g, w.heap.size = g from ⟨_, rfl⟩)
  have HG1 := Lib.hid (show ∃ g, w.heap.size + 1 = g from ⟨_, rfl⟩)
  have HWS : Hid (∃ W, ((w.alloc (.cells #[.slice A n c, .int .i64 z] 43)).alloc (.cells #[.slice none 0 0, .int .i64 0] 43)) = W) := Lib.hid ⟨_, rfl⟩
  clear hb h hsz hl
  go_enter Tryz.func139, Tryz.ntmps139
  go_upto_region 1 with fail
  obtain ⟨b2, hb2⟩ := HG1.out
  obtain ⟨b1, hb1⟩ := HG.out
  obtain ⟨W1, hW1⟩ := HWS.out
  have HC := HC0
  rw [hb2, hb1, hW1] at HC
  rw [hW1] at HCL
  rw [hW1, hb2, hb1]
  clear HG HG1 HWS HC0 hb1 hb2 hW1
  have x0 := HC.out.bx.cell 0
  have x1 := HC.out.bx.cell 1
  simp only [List.getElem?_cons_zero, List.getElem?_cons_succ] at x0 x1
  have f0 := HC.out.bx.frozen 0
  go_wp2_with fail
  (with_reducible refine HCL.out.mono ?_); rintro e w2 ⟨E1, e1, rfl, hown, hb, hc1, hc2⟩
  have HO : Hid (OwnL w2 (.slice E1 n e1) l) := Lib.hid ⟨E1, e1, by rw [HLN.out], by rw [HLN.out]; exact own_mono hown (Nat.zero_le _)⟩
  have HC2 := Lib.hid (HC.out.below hb)
  clear hown hb HCL x0 x1 f0 HC
  have x0 := HC2.out.bx.cell 0
  have x1 := HC2.out.bx.cell 1
  simp only [List.getElem?_cons_zero, List.getElem?_cons_succ] at x0 x1
  have f0 := HC2.out.bx.frozen 0
  have HC3 := Lib.hid (HC2.out.set0 (.slice E1 n e1))
  have HO3 := Lib.hid (ownL_setCell (o := 0) HO.out HC2.out.bx (by decide) (.slice E1 n e1))
  go_upto_region 2 with fail
  obtain ⟨W3, hW3⟩ : ∃ W, w2.setCell ⟨b1, 0, none⟩ (.slice E1 n e1) = W := ⟨_, rfl⟩
  rw [hW3] at HC3 HO3 ⊢
  clear hW3 HC2 HO x0 x1 f0
  have x0 := HC3.out.bx.cell 0
  have x1 := HC3.out.bx.cell 1
  have y0 := HC3.out.bz.cell 0
  have y1 := HC3.out.bz.cell 1
  simp only [List.getElem?_cons_zero, List.getElem?_cons_succ] at x0 x1 y0 y1
  have f0 := HC3.out.bz.frozen 0
  have f1 := HC3.out.bz.frozen 1
  have HQ := Lib.hid ((HC3.out.bz.set 0 (.slice E1 n e1)).set 1 (.int .i64 z))
  have HO4 := Lib.hid (ownL_setCell (o := 1) (ownL_setCell (o := 0) HO3.out HC3.out.bz (by decide) (.slice E1 n e1)) (HC3.out.bz.set 0 (.slice E1 n e1)) (by decide) (.int .i64 z))
  have HB4 := Lib.hid ((HC3.out.bel.setCell (p := ⟨b2, 0, none⟩) HC3.out.l2 (.slice E1 n e1)).setCell (p := ⟨b2, 1, none⟩) HC3.out.l2 (.int .i64 z))
  go_wp2_with fail
  have q0 := HQ.out.cell 0
  have q1 := HQ.out.cell 1
  simp only [List.set_cons_zero, List.set_cons_succ, List.getElem?_cons_zero, List.getElem?_cons_succ] at q0 q1
  refine bodyPost_ret (v := .agg #[.slice E1 n e1, .int .i64 z]) (by simp [results, Tryz.results139, go_sem, q0, q1]) rfl ?_
  exact ⟨E1, e1, by rw [HLN.out], by rw [HLN.out]; exact HO4.out, HB4.out⟩
set_option maxHeartbeats 4000000 in
theorem ceach_any (b1 : Nat) (A : Option Addr) (c : Nat) (ra : List PtR) (w : World) (h : PtsAt b1 (.slice A ra.length c) ra w) (hn : ra.length ≤ 1000) (hsl : ∀ x ∈ ra, x.set.length ≤ 1000) :
    Calls Tryz.prog 138 #[.slice A ra.length c, .func (.func 139) #[] #[]] w (PtsAns (ptsOf ra) w) := by
  obtain ⟨i0, hi, hz0, hz1, hz2⟩ := info_parts Tryz.infoPt
  have HI := Lib.hid hi; have HZ0 := Lib.hid hz0; have HZ1 := Lib.hid hz1; have HZ2 := Lib.hid hz2
  have H := Lib.hid (fun (V : World) (hV : Below w.heap.size w V) => h.below hV)
  have HSL := Lib.hid hsl
  have HTK := Lib.hid (fun k (hk : k < ra.length) => show ptsOf (ra.take (k + 1)) = ptsOf (ra.take k) ++ [(ra[k].set, ra[k].val)] by rw [List.take_succ_eq_append_getElem hk]; unfold ptsOf; rw [List.map_append]; rfl)
  have HR := Lib.hid (Below.refl w.heap.size w)
  clear h hsl
  obtain ⟨N, hN⟩ : ∃ N, ra.length = N := ⟨_, rfl⟩
  have HN := Lib.hid hN
  rw [hN] at H hn ⊢
  clear hN
  go_enter Tryz.func138, Tryz.ntmps138
  go_wp2_with (at_make; refine wpList_make_own _ rfl _ _ 38 rfl w.heap.size 43 i0 (.agg #[.slice none 0 0, .int .i64 0]) 2 Tryz.underlying38 hi hz0 hz1 _ _ _ N rfl rfl rfl (by rw [hz2]; omega) (by unfold maxLen; omega) (Nat.le_refl _) ?_)
  intro w1 hown hg
  have HB := Lib.hid (HR.out.grown hg (Nat.le_refl _) (fun k h => by cases h))
  have HW : Hid (PtsAt w.heap.size _ [] w1) := Lib.hid ⟨hown, fun x hx => absurd hx List.not_mem_nil⟩
  clear hown hg hi hz0 hz1 hz2
  go_wp2_with fail
  go_loopg [5, 7, 13] N (fun g x5 x7 x13 wr => ∃ (k : Nat) (X : Option Addr) (cx : Nat) (rows : List PtR), k + g = N ∧ x13 = .int .i64 k ∧ x5 = .slice X k cx ∧ rows.length = k ∧ ptsOf rows = ptsOf (ra.take k) ∧ PtsAt w.heap.size (.slice X k cx) rows wr ∧ Below w.heap.size w wr)
  case atStart => exact ⟨0, _, _, [], by omega, rfl, rfl, rfl, rfl, HW.out, HB.out⟩
  case round =>
    obtain ⟨k, X, cx, rows, hkg, rfl, rfl, hrl, hpt, hps, hbel⟩ := hrel
    have HPT := Lib.hid hpt; have HPS := Lib.hid hps; have HBE := Lib.hid hbel; have HRL := Lib.hid hrl
    clear hpt hps hbel HW HB hrl
    cases gk with
    | zero =>
      obtain rfl : k = N := by omega
      have hcx : k ≤ cx ∧ cx ≤ 9223372036854775807 := by
        have ho := HPS.out.own
        rw [HRL.out] at ho
        obtain ⟨A', c', e, h1, h2⟩ := own_slice ho
        injection e with _ _ e; subst e
        exact ⟨h1, h2⟩
      have HF : Hid (PtsAns (ptsOf ra) w (.returned (.slice X k cx)) wr) := Lib.hid ⟨X, cx, rows, by rw [HPT.out, List.take_of_length_le (by rw [HN.out]; exact Nat.le_refl _)], by rw [HRL.out], by rw [HRL.out]; exact HPS.out, HBE.out, by rw [HRL.out]; exact hcx.1, hcx.2⟩
      go_wp2_with fail
      go_ret
      exact HF.out
    | succ gg =>
      have hlt : k < ra.length := by have := HN.out; omega
      have HR2 := H.out wr HBE.out
      rw [← HN.out] at HR2
      obtain ⟨ad, hA, e0, e1, _⟩ := pt_get HR2 hlt
      have hol := HR2.each ra[k] (List.getElem_mem hlt)
      have hl := HSL.out ra[k] (List.getElem_mem hlt)
      have HNX := Lib.hid (HTK.out k hlt)
      subst hA
      generalize ra[k] = q at *
      obtain ⟨sv, l, val⟩ := q
      simp only at e0 e1 hol hl
      obtain ⟨A2, c2, hsv, hss, _, _⟩ := hol.hasL
      subst hsv
      obtain ⟨sl, hsl⟩ : ∃ n, l.length = n := ⟨_, rfl⟩
      rw [hsl] at e0 hss hl hol
      have ha := (Below.refl wr.heap.size wr).alloc (Nat.le_refl _) (.cells #[.slice A2 sl c2, .int .i64 val] 43)
      have HC := Lib.hid (cpoint_any A2 sl c2 l val (wr.alloc (.cells #[.slice A2 sl c2, .int .i64 val] 43)) ((hss.below ha).more ha.size) (by omega))
      have HPS2 := Lib.hid (HPS.out.below ha)
      have HBE2 := Lib.hid (HBE.out.trans (ha.mono HBE.out.size))
      have HSL2 := Lib.hid hsl
      clear hss hl hol ha HPS HBE HR2 hsl
      go_wp2_with fail
      (with_reducible refine HC.out.mono ?_); rintro e w3 ⟨C2, d2, rfl, hol3, hb3⟩
      rw [HSL2.out] at hol3 ⊢
      have hb4 := (Below.refl w3.heap.size w3).alloc (Nat.le_refl _) (.cells #[.slice C2 sl d2, .int .i64 val] 43)
      have HPS4 := Lib.hid ((HPS2.out.below hb3).below hb4)
      have HOL4 := Lib.hid (hol3.below hb4)
      have HBE4 := Lib.hid ((HBE2.out.trans (hb3.mono HBE2.out.size)).trans (hb4.mono (Nat.le_trans HBE2.out.size hb3.size)))
      have HX4 := Lib.hid ((Blk.mk (heap_alloc_new w3 (.cells #[.slice C2 sl d2, .int .i64 val] 43)) : Blk _ w3.heap.size 43 [.slice C2 sl d2, .int .i64 val]).sees (size := 2) (n := 1) rfl (List.prefix_refl _))
      have HNF := Lib.hid (show ptsOf (rows ++ [⟨.slice C2 sl d2, l, val⟩]) = ptsOf (ra.take (k + 1)) by rw [HNX.out, ptsOf_push, HPT.out])
      have HPO : Hid ((w3.alloc (.cells #[.slice C2 sl d2, .int .i64 val] 43)).ownsRow w.heap.size 43 2 (.slice X k cx) k (pts rows)) := Lib.hid (by have := HPS4.out.own; rwa [HRL.out] at this)
      clear hol3 hb3 hb4 HC HPS2 HBE2 HNX
      go_wp2_with (at_builtin; refine wpList_append_at rfl (.tmp 17) (.tmp 21) 38 rfl w.heap.size 43 i0 (.agg #[.slice none 0 0, .int .i64 0]) 2 32 Tryz.underlying38 HI.out HZ0.out HZ1.out HZ2.out rfl (by decide) (.slice X k cx) k (pts rows) rfl HPO.out _ (some ⟨w3.heap.size, 0, none⟩) 1 _ [.slice C2 sl d2, .int .i64 val] rfl HX4.out (by intro u hu; simp at hu; rcases hu with rfl | rfl <;> rfl) (by unfold maxLen; omega) (by omega) HBE4.out.size ?_)
      intro v' w5 hown hgr hwh
      have HPS5 := Lib.hid (HPS4.out.push (l := l) (z := val) HOL4.out (by rw [HRL.out]; exact hown) hgr)
      have HBE5 := Lib.hid (HBE4.out.grown hgr HBE4.out.size (fun g e => (HPO.out.lt g e).1))
      obtain ⟨A5, c5, rfl, _, _⟩ := own_slice hown
      have HL5 := Lib.hid (show (rows ++ [(⟨.slice C2 sl d2, l, val⟩ : PtR)]).length = k + 1 by simp [HRL.out])
      clear hown hgr hwh HPS4 HOL4 HBE4 HX4 HPO
      go_wp2_with fail
      go_roundg gg
      case measure => omega
      case rel => exact ⟨k + 1, A5, c5, _, by omega, by first | rfl | go_num, rfl, HL5.out, HNF.out, HPS5.out, HBE5.out⟩
theorem cpoints_any (b1 : Nat) (A : Option Addr) (c : Nat) (ra : List PtR) (w : World) (h : PtsAt b1 (.slice A ra.length c) ra w) (hn : ra.length ≤ 1000) (hsl : ∀ x ∈ ra, x.set.length ≤ 1000) :
    Calls Tryz.prog 103 #[.slice A ra.length c] w (PtsAns (ptsOf ra) w) := by
  have HC := Lib.hid (ceach_any b1 A c ra w h hn hsl)
  clear h hn hsl
  generalize ra.length = n at *
  go_enter Tryz.func103, Tryz.ntmps103
  go_wp2_with fail
  (with_reducible refine HC.out.mono ?_); rintro e w2 hans
  obtain ⟨X, cx, rows, h1, rfl, h3, h4, h5, h6⟩ := hans
  have HF : Hid (PtsAns (ptsOf ra) w (.returned (.slice X rows.length cx)) w2) := Lib.hid ⟨X, cx, rows, h1, rfl, h3, h4, h5, h6⟩
  clear h1 h3 h4 h5 h6 HC
  go_wp2_with fail
  go_ret
  exact HF.out
end Go.Proofs.YtlmakdclebbbkaaGreat
