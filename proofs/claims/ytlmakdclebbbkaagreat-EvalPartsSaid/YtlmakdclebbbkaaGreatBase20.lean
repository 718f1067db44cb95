/- Texts, merged in one. -/
import Derived.Test.YtlmakdclebbbkaaGreatBase19
import Derived.Test.YtlmakdclebbbkaaGreatBase11
import Derived.Test.YtlmakdclebbbkaaGreatBase4
import Derived.Deep.DeepCutAuto
import Derived.Test.YtlmakdclebbbkaaGreatBase13
import Derived.StillTail
namespace Go.Proofs.YtlmakdclebbbkaaGreat
open Go.ChangeShapes Go.WideShapes Go.ChangeAt Go.RowKit
set_option linter.unusedVariables false
set_option linter.unusedSimpArgs false
set_option maxRecDepth 100000
def PtAns (l : List Lbl) (z : Int) (w : World) (e : Ending) (w' : World) : Prop := ∃ A c, e = .returned (.agg #[.slice A l.length c, .int .i64 z]) ∧ OwnL w' (.slice A l.length c) l ∧ Below w.heap.size w w'
structure CpAt (w0 : World) (b1 b2 : Nat) (sv : Value) (z : Int) (W : World) : Prop where
  bel : Below w0.heap.size w0 W
  bx : Blk W b1 43 [sv, .int .i64 z]
  bz : Blk W b2 43 [.slice none 0 0, .int .i64 0]
  l1 : w0.heap.size ≤ b1
  l2 : w0.heap.size ≤ b2
  ne : b1 ≠ b2
theorem CpAt.below {w0 W W' : World} {b1 b2 : Nat} {sv : Value} {z : Int} (h : CpAt w0 b1 b2 sv z W) (hb : Below W.heap.size W W') : CpAt w0 b1 b2 sv z W' :=
  ⟨h.bel.trans (hb.mono h.bel.size), h.bx.below hb h.bx.lt, h.bz.below hb h.bz.lt, h.l1, h.l2, h.ne⟩
theorem CpAt.set0 {w0 W : World} {b1 b2 : Nat} {sv : Value} {z : Int} (h : CpAt w0 b1 b2 sv z W) (u : Value) : CpAt w0 b1 b2 u z (W.setCell ⟨b1, 0, none⟩ u) :=
  ⟨h.bel.setCell (p := ⟨b1, 0, none⟩) h.l1 u, h.bx.set 0 u, h.bz.far (p := ⟨b1, 0, none⟩) h.ne.symm u, h.l1, h.l2, h.ne⟩
theorem ownL_setCell {W : World} {v : Value} {l : List Lbl} {b t o : Nat} {cs : List Value} (h : OwnL W v l) (hb : Blk W b t cs) (ht : t ≠ 25) (u : Value) : OwnL (W.setCell ⟨b, o, none⟩ u) v l := by
  obtain ⟨A, c, rfl, h2⟩ := h
  refine ⟨A, c, rfl, ownsRow_setCell_other h2 (fun e => ?_) u⟩
  rcases h2.2 with ⟨e2, _⟩ | ⟨g, cap, cur, hv, _, hh, _⟩
  · rw [e2] at e; simp [Value.ownBlock] at e
  · rw [hv] at e
    simp [Value.ownBlock] at e
    subst e
    rw [hb.eq] at hh
    injection hh with hh; injection hh with _ hh _
    exact ht hh
set_option maxHeartbeats 4000000 in
theorem cpoint_any (A : Option Addr) (n c : Nat) (l : List Lbl) (z : Int) (w : World) (h : Sees w w.heap.size 2 A n (lbls l)) (hn : n ≤ 1000000) :
    Calls Tryz.prog 139 #[.agg #[.slice A n c, .int .i64 z]] w (PtAns l z w) := by
  have hl := h.lbl_len
  have hsz : (w.alloc (.cells #[.slice A n c, .int .i64 z] 43)).heap.size = w.heap.size + 1 := by simp
  have hb : Below w.heap.size w ((w.alloc (.cells #[.slice A n c, .int .i64 z] 43)).alloc (.cells #[.slice none 0 0, .int .i64 0] 43)) := ((Below.refl _ _).alloc (Nat.le_refl _) _).alloc (by simp) _
  have HC0 : Hid (CpAt w w.heap.size (w.heap.size + 1) (.slice A n c) z ((w.alloc (.cells #[.slice A n c, .int .i64 z] 43)).alloc (.cells #[.slice none 0 0, .int .i64 0] 43))) := Lib.hid ⟨hb, (Blk.mk (heap_alloc_new w _)).alloc _, (by have hh := (Blk.mk (heap_alloc_new (w.alloc (.cells #[.slice A n c, .int .i64 z] 43)) (.cells #[.slice none 0 0, .int .i64 0] 43)) : Blk _ (w.alloc (.cells #[.slice A n c, .int .i64 z] 43)).heap.size 43 [.slice none 0 0, .int .i64 0]); rw [hsz] at hh; exact hh), Nat.le_refl _, Nat.le_succ _, by omega⟩
  have HCL := Lib.hid (clone_lbl A n c _ l ((w.alloc (.cells #[.slice A n c, .int .i64 z] 43)).alloc (.cells #[.slice none 0 0, .int .i64 0] 43)) (h.below hb) (by simp; omega) hn)
  have HLN := Lib.hid hl
  have HG := Lib.hid (show ∃ g, w.heap.size = g from ⟨_, rfl⟩)
  have HG1 := Lib.hid (show ∃ g, w.heap.size + 1 = g from ⟨_, rfl⟩)
  have HWS : Hid (∃ W, ((w.alloc (.cells #[.slice A n c, .int .i64 z] 43)).alloc (.cells #[.slice none 0 0, .int .i64 0] 43)) = W) := Lib.hid ⟨_, rfl⟩
  clear hb h hsz hl
  go_enter Tryz.func139, Tryz.ntmps139
  go_upto_region 1 with fail
  obtain ⟨b2, hb2⟩ := HG1.out
  obtain ⟨b1, hb1⟩ := HG.out
  obtain ⟨W1, hW1⟩ := HWS.out
  have HC := HC0
  rw [hb2, hb1, hW1] at HC
  rw [hW1] at HCL
  rw [hW1, hb2, hb1]
  clear HG HG1 HWS HC0 hb1 hb2 hW1
  have x0 := HC.out.bx.cell 0
  have x1 := HC.out.bx.cell 1
  simp only [List.getElem?_cons_zero, List.getElem?_cons_succ] at x0 x1
  have f0 := HC.out.bx.frozen 0
  go_wp2_with fail
  (with_reducible refine HCL.out.mono ?_); rintro e w2 ⟨E1, e1, rfl, hown, hb, hc1, hc2⟩
  have HO : Hid (OwnL w2 (.slice E1 n e1) l) := Lib.hid ⟨E1, e1, by rw [HLN.out], by rw [HLN.out]; exact own_mono hown (Nat.zero_le _)⟩
  have HC2 := Lib.hid (HC.out.below hb)
  clear hown hb HCL x0 x1 f0 HC
  have x0 := HC2.out.bx.cell 0
  have x1 := HC2.out.bx.cell 1
  simp only [List.getElem?_cons_zero, List.getElem?_cons_succ] at x0 x1
  have f0 := HC2.out.bx.frozen 0
  have HC3 := Lib.hid (HC2.out.set0 (.slice E1 n e1))
  have HO3 := Lib.hid (ownL_setCell (o := 0) HO.out HC2.out.bx (by decide) (.slice E1 n e1))
  go_upto_region 2 with fail
  obtain ⟨W3, hW3⟩ : ∃ W, w2.setCell ⟨b1, 0, none⟩ (.slice E1 n e1) = W := ⟨_, rfl⟩
  rw [hW3] at HC3 HO3 ⊢
  clear hW3 HC2 HO x0 x1 f0
  have x0 := HC3.out.bx.cell 0
  have x1 := HC3.out.bx.cell 1
  have y0 := HC3.out.bz.cell 0
  have y1 := HC3.out.bz.cell 1
  simp only [List.getElem?_cons_zero, List.getElem?_cons_succ] at x0 x1 y0 y1
  have f0 := HC3.out.bz.frozen 0
  have f1 := HC3.out.bz.frozen 1
  have HQ := Lib.hid ((HC3.out.bz.set 0 (.slice E1 n e1)).set 1 (.int .i64 z))
  have HO4 := Lib.hid (ownL_setCell (o := 1) (ownL_setCell (o := 0) HO3.out HC3.out.bz (by decide) (.slice E1 n e1)) (HC3.out.bz.set 0 (.slice E1 n e1)) (by decide) (.int .i64 z))
  have HB4 := Lib.hid ((HC3.out.bel.setCell (p := ⟨b2, 0, none⟩) HC3.out.l2 (.slice E1 n e1)).setCell (p := ⟨b2, 1, none⟩) HC3.out.l2 (.int .i64 z))
  go_wp2_with fail
  have q0 := HQ.out.cell 0
  have q1 := HQ.out.cell 1
  simp only [List.set_cons_zero, List.set_cons_succ, List.getElem?_cons_zero, List.getElem?_cons_succ] at q0 q1
  refine bodyPost_ret (v := .agg #[.slice E1 n e1, .int .i64 z]) (by simp [results, Tryz.results139, go_sem, q0, q1]) rfl ?_
  exact ⟨E1, e1, by rw [HLN.out], by rw [HLN.out]; exact HO4.out, HB4.out⟩
set_option maxHeartbeats 4000000 in
theorem ceach_any (b1 : Nat) (A : Option Addr) (c : Nat) (ra : List PtR) (w : World) (h : PtsAt b1 (.slice A ra.length c) ra w) (hn : ra.length ≤ 1000) (hsl : ∀ x ∈ ra, x.set.length ≤ 1000) :
    Calls Tryz.prog 138 #[.slice A ra.length c, .func (.func 139) #[] #[]] w (PtsAns (ptsOf ra) w) := by
  obtain ⟨i0, hi, hz0, hz1, hz2⟩ := info_parts Tryz.infoPt
  have HI := Lib.hid hi; have HZ0 := Lib.hid hz0; have HZ1 := Lib.hid hz1; have HZ2 := Lib.hid hz2
  have H := Lib.hid (fun (V : World) (hV : Below w.heap.size w V) => h.below hV)
  have HSL := Lib.hid hsl
  have HTK := Lib.hid (fun k (hk : k < ra.length) => show ptsOf (ra.take (k + 1)) = ptsOf (ra.take k) ++ [(ra[k].set, ra[k].val)] by rw [List.take_succ_eq_append_getElem hk]; unfold ptsOf; rw [List.map_append]; rfl)
  have HR := Lib.hid (Below.refl w.heap.size w)
  clear h hsl
  obtain ⟨N, hN⟩ : ∃ N, ra.length = N := ⟨_, rfl⟩
  have HN := Lib.hid hN
  rw [hN] at H hn ⊢
  clear hN
  go_enter Tryz.func138, Tryz.ntmps138
  go_wp2_with (at_make; refine wpList_make_own _ rfl _ _ 38 rfl w.heap.size 43 i0 (.agg #[.slice none 0 0, .int .i64 0]) 2 Tryz.underlying38 hi hz0 hz1 _ _ _ N rfl rfl rfl (by rw [hz2]; omega) (by unfold maxLen; omega) (Nat.le_refl _) ?_)
  intro w1 hown hg
  have HB := Lib.hid (HR.out.grown hg (Nat.le_refl _) (fun k h => by cases h))
  have HW : Hid (PtsAt w.heap.size _ [] w1) := Lib.hid ⟨hown, fun x hx => absurd hx List.not_mem_nil⟩
  clear hown hg hi hz0 hz1 hz2
  go_wp2_with fail
  go_loopg [5, 7, 13] N (fun g x5 x7 x13 wr => ∃ (k : Nat) (X : Option Addr) (cx : Nat) (rows : List PtR), k + g = N ∧ x13 = .int .i64 k ∧ x5 = .slice X k cx ∧ rows.length = k ∧ ptsOf rows = ptsOf (ra.take k) ∧ PtsAt w.heap.size (.slice X k cx) rows wr ∧ Below w.heap.size w wr)
  case atStart => exact ⟨0, _, _, [], by omega, rfl, rfl, rfl, rfl, HW.out, HB.out⟩
  case round =>
    obtain ⟨k, X, cx, rows, hkg, rfl, rfl, hrl, hpt, hps, hbel⟩ := hrel
    have HPT := Lib.hid hpt; have HPS := Lib.hid hps; have HBE := Lib.hid hbel; have HRL := Lib.hid hrl
    clear hpt hps hbel HW HB hrl
    cases gk with
    | zero =>
      obtain rfl : k = N := by omega
      have hcx : k ≤ cx ∧ cx ≤ 9223372036854775807 := by
        have ho := HPS.out.own
        rw [HRL.out] at ho
        obtain ⟨A', c', e, h1, h2⟩ := own_slice ho
        injection e with _ _ e; subst e
        exact ⟨h1, h2⟩
      have HF : Hid (PtsAns (ptsOf ra) w (.returned (.slice X k cx)) wr) := Lib.hid ⟨X, cx, rows, by rw [HPT.out, List.take_of_length_le (by rw [HN.out]; exact Nat.le_refl _)], by rw [HRL.out], by rw [HRL.out]; exact HPS.out, HBE.out, by rw [HRL.out]; exact hcx.1, hcx.2⟩
      go_wp2_with fail
      go_ret
      exact HF.out
    | succ gg =>
      have hlt : k < ra.length := by have := HN.out; omega
      have HR2 := H.out wr HBE.out
      rw [← HN.out] at HR2
      obtain ⟨ad, hA, e0, e1, _⟩ := pt_get HR2 hlt
      have hol := HR2.each ra[k] (List.getElem_mem hlt)
      have hl := HSL.out ra[k] (List.getElem_mem hlt)
      have HNX := Lib.hid (HTK.out k hlt)
      subst hA
      generalize ra[k] = q at *
      obtain ⟨sv, l, val⟩ := q
      simp only at e0 e1 hol hl
      obtain ⟨A2, c2, hsv, hss, _, _⟩ := hol.hasL
      subst hsv
      obtain ⟨sl, hsl⟩ : ∃ n, l.length = n := ⟨_, rfl⟩
      rw [hsl] at e0 hss hl hol
      have ha := (Below.refl wr.heap.size wr).alloc (Nat.le_refl _) (.cells #[.slice A2 sl c2, .int .i64 val] 43)
      have HC := Lib.hid (cpoint_any A2 sl c2 l val (wr.alloc (.cells #[.slice A2 sl c2, .int .i64 val] 43)) ((hss.below ha).more ha.size) (by omega))
      have HPS2 := Lib.hid (HPS.out.below ha)
      have HBE2 := Lib.hid (HBE.out.trans (ha.mono HBE.out.size))
      have HSL2 := Lib.hid hsl
      clear hss hl hol ha HPS HBE HR2 hsl
      go_wp2_with fail
      (with_reducible refine HC.out.mono ?_); rintro e w3 ⟨C2, d2, rfl, hol3, hb3⟩
      rw [HSL2.out] at hol3 ⊢
      have hb4 := (Below.refl w3.heap.size w3).alloc (Nat.le_refl _) (.cells #[.slice C2 sl d2, .int .i64 val] 43)
      have HPS4 := Lib.hid ((HPS2.out.below hb3).below hb4)
      have HOL4 := Lib.hid (hol3.below hb4)
      have HBE4 := Lib.hid ((HBE2.out.trans (hb3.mono HBE2.out.size)).trans (hb4.mono (Nat.le_trans HBE2.out.size hb3.size)))
      have HX4 := Lib.hid ((Blk.mk (heap_alloc_new w3 (.cells #[.slice C2 sl d2, .int .i64 val] 43)) : Blk _ w3.heap.size 43 [.slice C2 sl d2, .int .i64 val]).sees (size := 2) (n := 1) rfl (List.prefix_refl _))
      have HNF := Lib.hid (show ptsOf (rows ++ [⟨.slice C2 sl d2, l, val⟩]) = ptsOf (ra.take (k + 1)) by rw [HNX.out, ptsOf_push, HPT.out])
      have HPO : Hid ((w3.alloc (.cells #[.slice C2 sl d2, .int .i64 val] 43)).ownsRow w.heap.size 43 2 (.slice X k cx) k (pts rows)) := Lib.hid (by have := HPS4.out.own; rwa [HRL.out] at this)
      clear hol3 hb3 hb4 HC HPS2 HBE2 HNX
      go_wp2_with (at_builtin; refine wpList_append_at rfl (.tmp 17) (.tmp 21) 38 rfl w.heap.size 43 i0 (.agg #[.slice none 0 0, .int .i64 0]) 2 32 Tryz.underlying38 HI.out HZ0.out HZ1.out HZ2.out rfl (by decide) (.slice X k cx) k (pts rows) rfl HPO.out _ (some ⟨w3.heap.size, 0, none⟩) 1 _ [.slice C2 sl d2, .int .i64 val] rfl HX4.out (by intro u hu; simp at hu; rcases hu with rfl | rfl <;> rfl) (by unfold maxLen; omega) (by omega) HBE4.out.size ?_)
      intro v' w5 hown hgr hwh
      have HPS5 := Lib.hid (HPS4.out.push (l := l) (z := val) HOL4.out (by rw [HRL.out]; exact hown) hgr)
      have HBE5 := Lib.hid (HBE4.out.grown hgr HBE4.out.size (fun g e => (HPO.out.lt g e).1))
      obtain ⟨A5, c5, rfl, _, _⟩ := own_slice hown
      have HL5 := Lib.hid (show (rows ++ [(⟨.slice C2 sl d2, l, val⟩ : PtR)]).length = k + 1 by simp [HRL.out])
      clear hown hgr hwh HPS4 HOL4 HBE4 HX4 HPO
      go_wp2_with fail
      go_roundg gg
      case measure => omega
      case rel => exact ⟨k + 1, A5, c5, _, by omega, by first | rfl | go_num, rfl, HL5.out, HNF.out, HPS5.out, HBE5.out⟩
theorem cpoints_any (b1 : Nat) (A : Option Addr) (c : Nat) (ra : List PtR) (w : World) (h : PtsAt b1 (.slice A ra.length c) ra w) (hn : ra.length ≤ 1000) (hsl : ∀ x ∈ ra, x.set.length ≤ 1000) :
    Calls Tryz.prog 103 #[.slice A ra.length c] w (PtsAns (ptsOf ra) w) := by
  have HC := Lib.hid (ceach_any b1 A c ra w h hn hsl)
  clear h hn hsl
  generalize ra.length = n at *
  go_enter Tryz.func103, Tryz.ntmps103
  go_wp2_with fail
  (with_reducible refine HC.out.mono ?_); rintro e w2 hans
  obtain ⟨X, cx, rows, h1, rfl, h3, h4, h5, h6⟩ := hans
  have HF : Hid (PtsAns (ptsOf ra) w (.returned (.slice X rows.length cx)) w2) := Lib.hid ⟨X, cx, rows, h1, rfl, h3, h4, h5, h6⟩
  clear h1 h3 h4 h5 h6 HC
  go_wp2_with fail
  go_ret
  exact HF.out
end Go.Proofs.YtlmakdclebbbkaaGreat

namespace Go.Proofs.YtlmakdclebbbkaaGreat
open Go Go.RowKit
set_option linter.unusedVariables false
section
variable {P : Program} {ops : Array Oper} {Q : Exit → Act → World → Prop} {R : World → World → Prop} {G : World → Prop} {V : Nat → Value → World → Prop} {a0 : Act}
theorem wpAny_more {md : Region.Mode} : ∀ (fuel : Nat) (listed : Array Bool) (a : Act) (w : World), wpAny P md ops Q fuel listed a w → wpAny P md ops Q (fuel + 1) listed a w
  | 0, listed, a, w, h => ⟨fun _ => h.2, fun i hi => by rw [h.1] at hi; cases hi⟩
  | fuel + 1, listed, a, w, h => ⟨h.1, fun i hi => wpOp_mono (fun a' w' h' => wpAny_more fuel _ a' w' h') (h.2 i hi)⟩
theorem wpAny_le {md : Region.Mode} {m n : Nat} {listed : Array Bool} {a : Act} {w : World} (h : wpAny P md ops Q m listed a w) (hmn : m ≤ n) : wpAny P md ops Q n listed a w := by
  obtain ⟨k, rfl⟩ : ∃ k, n = m + k := ⟨n - m, by omega⟩
  clear hmn
  induction k with
  | zero => exact h
  | succ k ih => exact wpAny_more _ _ _ _ ih
def headN (n m : Nat) : Array Bool := (List.replicate n true ++ List.replicate (m - n) false).toArray
theorem headN_eq {n m : Nat} {listed : Array Bool} (hn : n ≤ m) (hs : listed.size = m) (h1 : ∀ i, i < n → listed.getD i true = true) (h2 : ∀ i, n ≤ i → i < m → listed.getD i true = false) : listed = headN n m := by
  refine Array.ext (by rw [hs]; simp [headN]; omega) fun i hi hi2 => ?_
  by_cases h : i < n
  · have := h1 i h
    simp [hi] at this
    rw [this]
    simp [headN, h]
  · have := h2 i (by omega) (by omega)
    simp [hi] at this
    rw [this]
    simp [headN, List.getElem_append, h]
def leftH (n : Nat) (listed : Array Bool) : Nat := ((List.range n).filter fun i => !listed.getD i true).length
theorem leftH_set {n : Nat} {listed : Array Bool} {i : Nat} (hin : i < n) (hi : listed.getD i true = false) : leftH n (listed.setIfInBounds i true) < leftH n listed := by
  have hlt : i < listed.size := by
    rcases Nat.lt_or_ge i listed.size with h | h
    · exact h
    · simp [Array.getElem?_eq_none h] at hi
  refine filter_less (fun x hx hq => ?_) (List.mem_range.2 hin) (by simp [hi]) (by simp [hlt])
  by_cases h : i = x
  · subst h; simp [hlt] at hq
  · rw [getD_set_ne true h] at hq; exact hq
theorem wpAny_facts_tail (n : Nat) (hback : backB 0 ops.toList = true) (hr0 : ∀ w, R w w) (ht : ∀ a b c, R a b → R b c → R a c) (hb : apartB a0.tmps.size ops.toList = true) (hs : Region.sinkB .any ops n = true) (hc : Region.chainB .any ops n = true) (hn : n < ops.size)
    (hseq : Region.seqB .any ops (ops.size - n) n (headN n ops.size) = true) (hall : AllOps P ops Q R G V a0 0 (ops.toList.take n))
    (hend : ∀ a w, FrameOk ops a0 a → (∀ k, (∀ j, j < n → slotOf ops j ≠ some k) → a.tmps.getD k undef = a0.tmps.getD k undef) → Hold R G w → (∀ i, i < n → Hold R (V i (slotV ops a i)) w) → wpList P ops Q (ops.toList.drop n) a w) :
    ∀ (fuel : Nat) (listed : Array Bool) (a : Act) (w : World), HeadInv .any ops n listed → leftH n listed + (ops.size - n) ≤ fuel → RInv P ops R G V a0 listed a w → wpAny P .any ops Q fuel listed a w := by
  intro fuel
  induction fuel with
  | zero => intro listed a w inv hl hI; omega
  | succ fuel ih =>
    intro listed a w inv hl hI
    by_cases h0 : ∃ i, i < n ∧ listed.getD i true = false
    · obtain ⟨i0, hi0, hu0⟩ := h0
      have hready : ∀ i ∈ Region.ready .any ops listed, i < n := fun i hi => by
        rcases Nat.lt_or_ge i n with h | h
        · exact h
        · exact absurd hi (tail_waits hs hc hn inv (n - i0) i0 rfl hi0 hu0 i h)
      have hne : Region.ready .any ops listed ≠ [] := fun hr => by
        have key : ∀ m, m ≤ n → ∀ i, i < m → listed.getD i true = true := by
          intro m
          induction m with
          | zero => intro _ i hi; omega
          | succ m ihm =>
            intro hm i hi
            by_cases him : i < m
            · exact ihm (by omega) i him
            · have hie : i = m := by omega
              subst hie
              cases hli : listed.getD i true with
              | true => rfl
              | false =>
                exfalso
                have hio : i < ops.size := by omega
                have : i ∈ Region.ready .any ops listed := mem_ready.2 ⟨hli, ops[i], Array.getElem?_eq_getElem hio, fun e he hbb => by
                  have hb3 := backB_at hback i ops[i] (by simp [hio]) e (by simpa using he)
                  have h3 := ihm (by omega) e.on (by omega)
                  have hlt : e.on < listed.size := by rw [inv.size]; omega
                  simp [hlt] at h3 ⊢
                  exact h3⟩
                rw [hr] at this; cases this
        rw [key n (Nat.le_refl _) i0 hi0] at hu0
        cases hu0
      refine ⟨fun h => absurd h hne, fun i hi => ?_⟩
      have hin := hready i hi
      obtain ⟨h1, o, ho, hdone⟩ := mem_ready.1 hi
      have hlt : i < ops.size := (Array.getElem?_eq_some_iff.1 ho).1
      have hok : OpOk P ops Q R G V a0 i o := by
        have := allOps_at hall i o (by rw [List.getElem?_take, if_pos hin]; simpa using ho)
        rwa [Nat.zero_add] at this
      have hdst : o.dst = slotOf ops i := by unfold slotOf; rw [ho]; rfl
      have hlt2 : i < listed.size := by rw [inv.size]; exact hlt
      have hfa : FrameAt ops a0 a i := ⟨hI.fr, fun k hk => hI.early k fun j hj => by
        have hj2 := hj
        unfold slotOf at hj2
        cases hoj : ops[j]? with
        | none => rw [hoj] at hj2; cases hj2
        | some oj =>
          rw [hoj] at hj2
          obtain ⟨e, he, heq, hbb⟩ := hk j oj hoj hj2
          cases hlj : listed.getD j false with
          | false => rfl
          | true =>
            have h5 := hI.closed j oj hoj hlj e he hbb
            rw [heq] at h5
            simp [hlt2] at h1 h5
            rw [h5] at h1; cases h1⟩
      obtain ⟨hw, hno⟩ := hok a w hfa hI.g (deps_of hI.facts _ fun e he hbb => hdone e (by simpa using he) hbb)
      have go : ∀ v w', R w w' → Hold R (V i (match slotOf ops i with | some _ => v | none => undef)) w' → wpAny P .any ops Q fuel (listed.setIfInBounds i true) (a.put (slotOf ops i) v) w' := fun v w' hrw hv => by
        refine ih _ _ _ (inv.set hi hin) (by have := leftH_set hin h1; omega) ⟨hI.fr.put hb i v, fun k hk => ?_, fun j oj hoj hlj e he hbb => ?_, hI.g.trans ht hrw, fun j hj => ?_⟩
        · have hne : slotOf ops i ≠ some k := fun h => by have := hk i h; simp [hlt2] at this
          have h6 := hI.early k fun j hj => by
            have h7 := hk j hj
            by_cases hij : i = j
            · subst hij; simp [hlt2] at h7
            · rwa [getD_set_ne false hij] at h7
          rw [← h6]
          cases hsl : slotOf ops i with
          | none => rfl
          | some d =>
            have hdk : d ≠ k := fun h => hne (by rw [hsl, h])
            simp [Act.put, Array.getElem?_setIfInBounds_ne hdk]
        · by_cases hij : i = j
          · subst hij
            rw [ho] at hoj; injection hoj with hoj; subst hoj
            have h8 := hdone e (by simpa using he) hbb
            by_cases hie : i = e.on
            · rw [← hie]; simp [hlt2]
            · rw [getD_set_ne false hie]; exact h8
          · rw [getD_set_ne false hij] at hlj
            have h8 := hI.closed j oj hoj hlj e he hbb
            by_cases hie : i = e.on
            · rw [← hie]; simp [hlt2]
            · rw [getD_set_ne false hie]; exact h8
        · by_cases hij : i = j
          · subst hij
            have e : slotV ops (a.put (slotOf ops i) v) i = match slotOf ops i with | some _ => v | none => undef := by
              unfold slotV
              cases hsl : slotOf ops i with
              | none => rfl
              | some d =>
                have hd := slotOf_lt hb hsl
                rw [← hI.fr.size] at hd
                simp [Act.put, hd]
            rw [e]
            exact hv
          · rw [slotV_put_other hb hij]
            refine (hI.facts j ?_).trans ht hrw
            rw [getD_set_ne false hij] at hj
            exact hj
      unfold wpOp
      rw [ho]
      simp only
      split
      · rename_i hwant
        refine .inl (Oper.wp_mono (fun a' w' h => ?_) (hw hwant))
        obtain ⟨hrw, v, rfl, hv⟩ := h
        rw [hdst] at hv ⊢
        exact go v w' hrw hv
      · rename_i hwant
        rw [hdst]
        exact go undef w (hr0 w) (by have := hno (by simpa using hwant); cases slotOf ops i <;> exact this)
    · have hall1 : ∀ i, i < n → listed.getD i true = true := fun i hi => by
        cases h : listed.getD i true with
        | true => rfl
        | false => exact absurd ⟨i, hi, h⟩ h0
      have hcan := headN_eq (Nat.le_of_lt hn) inv.size hall1 (fun i h1 h2 => inv.tail i h1 h2)
      have hfalse : ∀ i, i < n → listed.getD i false = true := fun i hi => by
        have h := hall1 i hi
        have hlt : i < listed.size := by rw [inv.size]; omega
        simp [hlt] at h ⊢
        exact h
      have hL := hend a w hI.fr (fun k hk => hI.early k fun j hj => by
        rcases Nat.lt_or_ge j n with h | h
        · exact absurd hj (hk j h)
        · rcases Nat.lt_or_ge j ops.size with h2 | h2
          · exact getD_both (inv.tail j h h2)
          · simp [show listed.size ≤ j by rw [inv.size]; exact h2]) hI.g (fun i hi => hI.facts i (hfalse i hi))
      have hdl : (ops.toList.drop n).length = ops.size - n := by simp
      have := wpAny_of_seq (md := .any) (Q' := Q) (ops.toList.drop n) n listed a w (fun j => by simp [List.getElem?_drop]) (by rw [hdl, hcan]; exact hseq) hL
      rw [hdl] at this
      exact wpAny_le this (by omega)
theorem wp_region_facts_tail {id : Nat} {w : World} (n : Nat) (hm : P.follows .mixedOrders = true) (hr0 : ∀ w, R w w) (ht : ∀ a b c, R a b → R b c → R a c) (hb : apartB a0.tmps.size ops.toList = true) (hback : backB 0 ops.toList = true)
    (hs : Region.sinkB .any ops n = true) (hc : Region.chainB .any ops n = true) (hn : n < ops.size) (hseq : Region.seqB .any ops (ops.size - n) n (headN n ops.size) = true)
    (hG : Hold R G { w with drawn := w.drawn + 1 }) (hall : AllOps P ops Q R G V a0 0 (ops.toList.take n))
    (hend : ∀ vs w', Hold R G w' → AllV R V vs w' 0 (ops.toList.take n) → wpList P ops Q (ops.toList.drop n) (putAll vs 0 (ops.toList.take n) a0) w') : (Code.region id ops true).wp P Q a0 w := by
  have hrep : ∀ j, (Array.replicate ops.size false).getD j false = false := fun j => by by_cases h : j < ops.size <;> simp [h]
  refine wp_region_any hm (wpAny_facts_tail n hback hr0 ht hb hs hc hn hseq hall (fun a w' hfr hea hg hf => ?_) ops.size _ a0 _ ⟨by simp, fun j oj _ hj => ?_, fun t _ h2 => getD_in (by simpa using h2) (hrep t)⟩ (by
    have h1 : leftH n (Array.replicate ops.size false) ≤ n := by unfold leftH; exact Nat.le_trans (List.length_filter_le _ _) (by simp)
    omega) ⟨⟨rfl, rfl, fun _ _ => rfl⟩, fun _ _ => rfl, fun j o _ hj => ?_, hG, fun i hi => ?_⟩)
  · have htl : (ops.toList.take n).length = n := by simp; omega
    have hget : ∀ i o, (ops.toList.take n)[i]? = some o → ops[i]? = some o ∧ i < n := fun i o h => by
      rw [List.getElem?_take] at h
      split at h
      · rename_i h2; exact ⟨by simpa using h, h2⟩
      · cases h
    have h1 := hend (slotV ops a) w' hg (allV_of _ 0 fun i hi => by rw [Nat.zero_add]; exact hf i (by rw [htl] at hi; exact hi))
    have h2 : putAll (slotV ops a) 0 (ops.toList.take n) a0 = a := by
      rw [putAll_congr (ops.toList.take n) 0 a0 a hfr.defers.symm hfr.size.symm fun t hno => (hea t fun j hj hsl => ?_).symm]
      · refine putAll_same _ 0 fun i o ho => ?_
        obtain ⟨ho2, hin⟩ := hget i o ho
        rw [Nat.zero_add]
        have hdst : o.dst = slotOf ops i := by unfold slotOf; rw [ho2]; rfl
        rw [hdst]
        unfold slotV
        cases hsl : slotOf ops i with
        | none => rfl
        | some d =>
          refine act_ext rfl (by simp [Act.put]) fun k => ?_
          by_cases he : d = k
          · subst he
            have hd := slotOf_lt hb hsl
            rw [← hfr.size] at hd
            simp [Act.put, hd]
          · simp [Act.put, Array.getElem?_setIfInBounds_ne he]
      · unfold slotOf at hsl
        cases ho : ops[j]? with
        | none => rw [ho] at hsl; cases hsl
        | some o =>
          rw [ho] at hsl
          have hmem : o ∈ ops.toList.take n := List.mem_of_getElem? (i := j) (by rw [List.getElem?_take, if_pos hj]; simpa using ho)
          exact hno o hmem hsl
    rwa [h2] at h1
  · rw [hrep] at hj; cases hj
  · rw [hrep] at hj; cases hj
  · rw [hrep] at hi; cases hi
end
end Go.Proofs.YtlmakdclebbbkaaGreat
