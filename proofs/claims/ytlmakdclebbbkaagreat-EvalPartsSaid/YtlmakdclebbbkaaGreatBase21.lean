/- Texts, merged in one. -/
import Derived.Test.YtlmakdclebbbkaaGreatBase19
import Derived.Test.YtlmakdclebbbkaaGreatBase20
import Derived.Test.YtlmakdclebbbkaaGreatBase13
import Derived.Test.YtlmakdclebbbkaaGreatBase4
import Derived.Deep.DeepCutAuto
namespace Go.Proofs.YtlmakdclebbbkaaGreat
open Go.ChangeShapes Go.WideShapes Go.ChangeAt Go.RowKit
set_option linter.unusedVariables false
set_option linter.unusedSimpArgs false
set_option maxRecDepth 100000
def svA : Value → Option Addr | .slice a _ _ => a | _ => none
def svL : Value → Nat | .slice _ n _ => n | _ => 0
def svC : Value → Nat | .slice _ _ c => c | _ => 0
def mkRow (p : PtR) : RowT := ⟨⟨(printL p.set).toArray⟩, svA p.sv, svL p.sv, svC p.sv, p.set, p.val⟩
theorem mkRow_key : (fun a => RowT.key (mkRow a)) = fun a : PtR => printL a.set := by
  funext a; simp [RowT.key, mkRow]
def sortP (ps : List (List Lbl × Int)) : List (List Lbl × Int) := sortK (fun q => printL q.1) ps
def sortR (l : List PtR) : List PtR := sortK (fun q => printL q.set) l
theorem ptsOf_sortR (l : List PtR) : ptsOf (sortR l) = sortP (ptsOf l) := by
  unfold ptsOf sortR sortP
  rw [sortK_map]
theorem rts_sort (l : List PtR) : sortK RowT.key (l.map mkRow) = (sortR l).map mkRow := by
  rw [sortK_map, mkRow_key]; rfl
@[go_sem] theorem infoRowT_ : (Tryz.prog.info? 163).map (fun i => (i.zero, i.size, i.bytes)) = some (some (.agg #[.string ⟨#[]⟩, .slice none 0 0, .int .i64 0]), 3, 48) := by kernel_rfl
structure RtsAt (base : Nat) (v : Value) (l : List PtR) (W : World) : Prop where
  own : W.ownsRow base 163 3 v l.length (rts (l.map mkRow))
  each : ∀ x ∈ l, OwnL W x.sv x.set
theorem RtsAt.below {base : Nat} {v : Value} {l : List PtR} {w w' : World} (h : RtsAt base v l w) (hb : Below w.heap.size w w') : RtsAt base v l w' := ⟨own_below h.own hb (Nat.le_refl _), fun x hx => (h.each x hx).below hb⟩
theorem ownL_grown {base : Nat} {e : TypeId} {s n : Nat} {v : Value} {xs : List Value} {w w' : World} (h : w.ownsRow base e s v n xs) (he : 25 ≠ e) (hg : w.grownBy w' v.ownBlock) : ∀ y m, OwnL w y m → OwnL w' y m := by
  rintro y m ⟨A, c, rfl, h2⟩
  exact ⟨A, c, rfl, own_grown h2 hg (own_ne h2 h he)⟩
theorem mkRow_cells {w : World} {x : PtR} (h : OwnL w x.sv x.set) : (mkRow x).cells = [.string ⟨(printL x.set).toArray⟩, x.sv, .int .i64 x.val] := by
  obtain ⟨A, c, e, _⟩ := h
  unfold mkRow RowT.cells; rw [e]; rfl
theorem RtsAt.push {base : Nat} {v v' : Value} {x : PtR} {l : List PtR} {w w' : World} (h : RtsAt base v l w) (hx : OwnL w x.sv x.set) (hown : w'.ownsRow base 163 3 v' (l.length + 1) (rts (l.map mkRow) ++ [.string ⟨(printL x.set).toArray⟩, x.sv, .int .i64 x.val])) (hg : w.grownBy w' v.ownBlock) : RtsAt base v' (l ++ [x]) w' := by
  have key := ownL_grown h.own (by decide) hg
  refine ⟨?_, fun y hy => ?_⟩
  · rw [List.map_append, List.map_singleton, rts_append, show rts [mkRow x] = [.string ⟨(printL x.set).toArray⟩, x.sv, .int .i64 x.val] by rw [← mkRow_cells hx]; simp [rts]]
    simpa using hown
  · rcases List.mem_append.1 hy with hy | hy
    · exact key _ _ (h.each y hy)
    · rw [List.mem_singleton] at hy; subst hy; exact key _ _ hx
theorem RtsAt.sorted {base : Nat} {v : Value} {l : List PtR} {w w' : World} (h : RtsAt base v l w) (hown : w'.ownsRow base 163 3 v l.length (rts (sortK RowT.key (l.map mkRow)))) (hg : w.grownBy w' v.ownBlock) : RtsAt base v (sortR l) w' := by
  have hl : (sortR l).length = l.length := sortK_length _ _
  exact ⟨by rw [hl, ← rts_sort]; exact hown, fun x hx => ownL_grown h.own (by decide) hg _ _ (h.each x ((sortK_mem _ _ _).1 hx))⟩
theorem PtsAt.grownBy {base b : Nat} {e : TypeId} {sz n : Nat} {v u : Value} {xs : List Value} {rows : List PtR} {w w' : World} (h : PtsAt base v rows w) (hx : w.ownsRow b e sz u n xs) (h1 : 43 ≠ e) (h2 : 25 ≠ e) (hg : w.grownBy w' u.ownBlock) : PtsAt base v rows w' :=
  ⟨own_grown h.own hg (own_ne h.own hx h1), fun x hx2 => ownL_grown hx h2 hg _ _ (h.each x hx2)⟩
theorem rt_get {base n c : Nat} {A : Option Addr} {l : List PtR} {w : World} (h : RtsAt base (.slice A n c) l w) {k : Nat} (hk : k < l.length) :
    ∃ ad, A = some ad ∧ w.cell? (ad.add (k * 3)) = some (.string ⟨(printL l[k].set).toArray⟩) ∧ w.cell? ⟨(ad.add (k * 3)).block, (ad.add (k * 3)).off + 1, none⟩ = some l[k].sv ∧ w.cell? ⟨(ad.add (k * 3)).block, (ad.add (k * 3)).off + 2, none⟩ = some (.int .i64 l[k].val) ∧ OwnL w l[k].sv l[k].set := by
  have hr := h.own
  obtain ⟨_, _, e, _⟩ := own_slice hr
  injection e with _ e _; subst e
  have hm : k < (l.map mkRow).length := by rw [List.length_map]; exact hk
  obtain ⟨h0, h1, h2⟩ := rts_get (l.map mkRow) hm
  rw [List.getElem_map] at h0 h1 h2
  have hol := h.each _ (List.getElem_mem hk)
  have hc := mkRow_cells hol
  unfold RowT.cells at hc
  injection hc with c0 hc; injection hc with c1 hc; injection hc with c2 hc
  rw [c0] at h0; rw [c1] at h1; rw [c2] at h2
  obtain ⟨ad, e, _, hcl⟩ := (Sees.of_own hr).at_ (by omega)
  subst e
  exact ⟨ad, rfl, hcl _ _ h0, by rw [add_spelt _ _ _ (by omega)]; exact hcl _ _ h1, by rw [add_spelt _ _ _ (by omega)]; exact hcl _ _ h2, hol⟩
theorem RtsAt.grownBy {base b : Nat} {e : TypeId} {sz n : Nat} {v u : Value} {xs : List Value} {l : List PtR} {w w' : World} (h : RtsAt base v l w) (hx : w.ownsRow b e sz u n xs) (h1 : 163 ≠ e) (h2 : 25 ≠ e) (hg : w.grownBy w' u.ownBlock) : RtsAt base v l w' :=
  ⟨own_grown h.own hg (own_ne h.own hx h1), fun x hx2 => ownL_grown hx h2 hg _ _ (h.each x hx2)⟩
structure SvAt (w0 : World) (b3 : Nat) (X : Option Addr) (k cx : Nat) (l : List PtR) (C : Option Addr) (N cc : Nat) (cl : List PtR) (W : World) : Prop where
  rows : RtsAt b3 (.slice X k cx) l W
  src : PtsAt b3 (.slice C N cc) cl W
  bel : Below w0.heap.size w0 W
theorem SvAt.below {w0 W W' : World} {b3 k cx N cc : Nat} {X C : Option Addr} {l cl : List PtR} (h : SvAt w0 b3 X k cx l C N cc cl W) (hb : Below W.heap.size W W') : SvAt w0 b3 X k cx l C N cc cl W' :=
  ⟨h.rows.below hb, h.src.below hb, h.bel.trans (hb.mono h.bel.size)⟩
set_option maxHeartbeats 8000000 in
theorem sort_any (b1 : Nat) (A : Option Addr) (c : Nat) (ra : List PtR) (w : World) (h : PtsAt b1 (.slice A ra.length c) ra w) (hn : ra.length ≤ 1000) (hsl : ∀ x ∈ ra, x.set.length ≤ 1000) :
    Calls Tryz.prog 56 #[.slice A ra.length c] w (PtsAns (sortP (ptsOf ra)) w) := by
  obtain ⟨i0, hi, hz0, hz1, hz2⟩ := info_parts Tryz.infoPt
  obtain ⟨j0, hj, hy0, hy1, hy2⟩ := info_parts infoRowT_
  have HI := Lib.hid hi; have HZ0 := Lib.hid hz0; have HZ1 := Lib.hid hz1; have HZ2 := Lib.hid hz2
  have HJ := Lib.hid hj; have HY0 := Lib.hid hy0; have HY1 := Lib.hid hy1; have HY2 := Lib.hid hy2
  have HCP := Lib.hid (fun (V : World) (hV : Below w.heap.size w V) => cpoints_any b1 A c ra V (h.below hV) (by omega) hsl)
  have HSL : Hid (∀ p ∈ ptsOf ra, p.1.length ≤ 1000) := Lib.hid (fun p hp => by
    unfold ptsOf at hp; rw [List.mem_map] at hp; obtain ⟨x, hx, rfl⟩ := hp; exact hsl x hx)
  have HR := Lib.hid (Below.refl w.heap.size w)
  have HRL : Hid (∀ cl : List PtR, ptsOf cl = ptsOf ra → cl.length = ra.length) := Lib.hid (fun cl hcl => by have := congrArg List.length hcl; simpa [ptsOf] using this)
  clear h hsl
  obtain ⟨N, hN⟩ : ∃ N, ra.length = N := ⟨_, rfl⟩
  obtain ⟨ps, hps⟩ : ∃ p, ptsOf ra = p := ⟨_, rfl⟩
  rw [hN] at HCP hn HRL ⊢
  rw [hps] at HCP HSL HRL ⊢
  clear hN hps
  go_enter Tryz.func56, Tryz.ntmps56
  go_wp2_with (at_make; refine wpList_make_own _ rfl _ _ 161 rfl w.heap.size 163 j0 (.agg #[.string ⟨#[]⟩, .slice none 0 0, .int .i64 0]) 3 Tryz.underlying161 hj hy0 hy1 _ _ _ N rfl rfl rfl (by rw [hy2]; omega) (by unfold maxLen; omega) (Nat.le_refl _) ?_)
  intro w1 hown hg
  have HB := Lib.hid (HR.out.grown hg (Nat.le_refl _) (fun k h => by cases h))
  have HW : Hid (RtsAt w.heap.size _ [] w1) := Lib.hid ⟨hown, fun x hx => absurd hx List.not_mem_nil⟩
  clear hown hg hj hy0 hy1 hy2 hi hz0 hz1 hz2
  go_wp2_with fail
  (with_reducible refine (HCP.out w1 HB.out).mono ?_); rintro e w2 ⟨C, cc, cl, hcl, rfl, hcs, hb2, hcc1, hcc2⟩
  have HCL := Lib.hid hcl
  have hln := HRL.out cl hcl
  have HB2 := Lib.hid (HB.out.trans (hb2.mono HB.out.size))
  have HW2 := Lib.hid (HW.out.below hb2)
  have HCS := Lib.hid (hcs.mono HB.out.size)
  have HTK := Lib.hid (fun k (hk : k < cl.length) => List.take_succ_eq_append_getElem hk)
  rw [hln] at HCS ⊢
  have HLN := Lib.hid hln
  have HTO : Hid (cl.take N = cl) := Lib.hid (List.take_of_length_le (by omega))
  have HSE := Lib.hid (show ∀ x ∈ cl, x.set.length ≤ 1000 from fun x hx => HSL.out (x.set, x.val) (by rw [← hcl]; unfold ptsOf; exact List.mem_map.2 ⟨x, hx, rfl⟩))
  clear hcl hcs hb2 HCP HRL HB HW HSL hln
  have HS0 : Hid (SvAt w w.heap.size (some ⟨w.heap.size, 0, none⟩) 0 N (cl.take 0) C N cc cl w2) := Lib.hid ⟨HW2.out, HCS.out, HB2.out⟩
  obtain ⟨b3, hb3⟩ : ∃ b, w.heap.size = b := ⟨_, rfl⟩
  have HB3 := Lib.hid hb3
  rw [hb3] at HS0 ⊢
  clear HW2 HCS HB2 hb3
  go_wp2_with fail
  go_loopg [3, 5, 15] N (fun g x3 x5 x15 wr => ∃ (k : Nat) (X : Option Addr) (cx : Nat), k + g = N ∧ x15 = .int .i64 k ∧ x3 = .slice X k cx ∧ SvAt w b3 X k cx (cl.take k) C N cc cl wr)
  case atStart => exact ⟨0, _, _, by omega, rfl, rfl, HS0.out⟩
  case round =>
    obtain ⟨k, X, cx, hkg, rfl, rfl, hsv⟩ := hrel
    have HS := Lib.hid hsv
    clear hsv HS0
    cases gk with
    | succ gq =>
      have hlt : k < cl.length := by have := HLN.out; omega
      have HR2 := HS.out.src
      rw [← HLN.out] at HR2
      obtain ⟨ad, hA, e0, e1, _⟩ := pt_get HR2 hlt
      have hol := HR2.each cl[k] (List.getElem_mem hlt)
      have hl := HSE.out cl[k] (List.getElem_mem hlt)
      have HNX := Lib.hid (HTK.out k hlt)
      subst hA
      generalize cl[k] = q at *
      obtain ⟨sv, l, val⟩ := q
      simp only at e0 e1 hol hl
      obtain ⟨A2, c2, hsv, hss, _, _⟩ := hol.hasL
      subst hsv
      obtain ⟨sl, hsl⟩ : ∃ n, l.length = n := ⟨_, rfl⟩
      rw [hsl] at e0 hss hl hol HNX
      have ha := (Below.refl wr.heap.size wr).alloc (Nat.le_refl _) (.cells #[.slice A2 sl c2, .int .i64 val] 43)
      obtain ⟨tx, htx⟩ : ∃ t, (⟨(printL l).toArray⟩ : ByteArray) = t := ⟨_, rfl⟩
      have HPR := Lib.hid (fun (V : World) (hV : Below wr.heap.size wr V) => htx ▸ print_any A2 sl c2 l V.heap.size V ((hss.below hV).more hV.size) (Nat.le_refl _) (by omega))
      have HTX := Lib.hid htx
      have HOL := Lib.hid (fun (V : World) (hV : Below wr.heap.size wr V) => hol.below hV)
      have HBR := Lib.hid (Below.refl wr.heap.size wr)
      have HX0 := Lib.hid (Blk.mk (heap_alloc_new wr (.cells #[.slice A2 sl c2, .int .i64 val] 43)) : Blk _ wr.heap.size 43 [.slice A2 sl c2, .int .i64 val])
      have HS1 := Lib.hid (HS.out.below ha)
      have HWA := Lib.hid ha
      have HBX := Lib.hid (show ∃ b, wr.heap.size = b from ⟨_, rfl⟩)
      clear hss hl hol ha HR2 hsl htx HS
      go_upto_region 5 with fail
      obtain ⟨bx, hbx⟩ := HBX.out
      have HBW := Lib.hid hbx
      rw [hbx] at HX0 HWA HPR HOL
      rw [hbx]
      clear hbx HBX e0 e1
      obtain ⟨W1, hW1⟩ : ∃ W, wr.alloc (.cells #[.slice A2 sl c2, .int .i64 val] 43) = W := ⟨_, rfl⟩
      rw [hW1] at HX0 HS1 HWA ⊢
      clear hW1
      refine wp_region_facts_tail 7 (R := fun a b => Below a.heap.size a b) (G := (fun W => SvAt w b3 X k cx (cl.take k) (some ad) N cc cl W ∧ Blk W bx 43 [.slice A2 sl c2, .int .i64 val] ∧ Below bx wr W)) (V := fun i' u' W => match i' with | 0 => u' = .slice X k cx | 1 => u' = .pointer (some ⟨bx, 0, none⟩) | 2 => u' = .slice A2 sl c2 | 3 => u' = .string tx | 4 => u' = .agg #[.slice A2 sl c2, .int .i64 val] | 5 => u' = .agg #[.string tx, .slice A2 sl c2, .int .i64 val] | 6 => ∃ b, u' = .slice (some ⟨b, 0, none⟩) 1 1 ∧ Blk W b 163 [.string tx, .slice A2 sl c2, .int .i64 val] | _ => True) (by kernel_rfl) (fun w => Below.refl _ _) (fun a b c h1 h2 => h1.trans (h2.mono h1.size)) (by kernel_rfl) (by kernel_rfl) (by kernel_rfl) (by kernel_rfl) (by decide) (by kernel_rfl) ?hG ⟨?o0, ?o1, ?o2, ?o3, ?o4, ?o5, ?o6, trivial⟩ ?hend
      case o0 =>
        intro a w hfr hG hd
        refine ⟨fun hw => ?_, fun hw => absurd hw (by simp [Region.wanted])⟩
        have s3 : a.tmps.getD 3 undef = .slice X k cx := hfr.at 3 (by kernel_rfl)
        refine op_yields (.slice X k cx) ?_ ?_ ?_
        · simp only [execOp, resolve, List.map_toArray, List.map_cons, List.map_nil, Act.eval, s3]; simp [go_sem, -Array.getD_eq_getD_getElem?, s3]
        · exact Below.refl _ _
        · exact (fun _ _ => rfl)
      case o1 =>
        intro a w hfr hG hd
        refine ⟨fun hw => ?_, fun hw => absurd hw (by simp [Region.wanted])⟩
        have s5 : a.tmps.getD 5 undef = .pointer (some ⟨bx, 0, none⟩) := hfr.at 5 (by kernel_rfl)
        refine op_yields (.pointer (some ⟨bx, 0, none⟩)) ?_ ?_ ?_
        · simp only [execOp, resolve, List.map_toArray, List.map_cons, List.map_nil, Act.eval, s5]; simp [go_sem, -Array.getD_eq_getD_getElem?, s5]
        · exact Below.refl _ _
        · exact (fun _ _ => rfl)
      case o2 =>
        intro a w hfr hG hd
        obtain ⟨d0, _⟩ := hd
        refine ⟨fun hw => ?_, fun hw => absurd hw (by simp [Region.wanted])⟩
        have s20 : a.tmps.getD 20 undef = .pointer (some ⟨bx, 0, none⟩) := (d0 rfl).now
        have z0 := hG.now.2.1.cell 0; simp only [List.getElem?_cons_zero] at z0
        refine op_yields (.slice A2 sl c2) ?_ ?_ ?_
        · simp only [execOp, resolve, List.map_toArray, List.map_cons, List.map_nil, Act.eval, s20]; simp [go_sem, -Array.getD_eq_getD_getElem?, s20, z0]
        · exact Below.refl _ _
        · exact (fun _ _ => rfl)
      case o3 =>
        intro a w hfr hG hd
        obtain ⟨d0, _⟩ := hd
        refine ⟨fun hw => ?_, fun hw => absurd hw (by simp [Region.wanted])⟩
        have s21 : a.tmps.getD 21 undef = .slice A2 sl c2 := (d0 rfl).now
        refine op_calls2 ((HPR.out w hG.now.2.2).mono fun e' w' hh => ⟨_, hh.1, hh.2, (fun _ _ => rfl)⟩) ?_
        simp only [execOp, resolve, List.map_toArray, List.map_cons, List.map_nil, Act.eval, s21]; simp [go_sem, -Array.getD_eq_getD_getElem?, s21]
      case o4 =>
        intro a w hfr hG hd
        refine ⟨fun hw => ?_, fun hw => absurd hw (by simp [Region.wanted])⟩
        have s5 : a.tmps.getD 5 undef = .pointer (some ⟨bx, 0, none⟩) := hfr.at 5 (by kernel_rfl)
        have z0 := hG.now.2.1.cell 0; have z1 := hG.now.2.1.cell 1; simp only [List.getElem?_cons_zero, List.getElem?_cons_succ] at z0 z1
        refine op_yields (.agg #[.slice A2 sl c2, .int .i64 val]) ?_ ?_ ?_
        · simp only [execOp, resolve, List.map_toArray, List.map_cons, List.map_nil, Act.eval, s5]; simp [go_sem, -Array.getD_eq_getD_getElem?, s5, z0, z1]
        · exact Below.refl _ _
        · exact (fun _ _ => rfl)
      case o5 =>
        intro a w hfr hG hd
        obtain ⟨d0, d1, _⟩ := hd
        refine ⟨fun hw => ?_, fun hw => absurd hw (by simp [Region.wanted])⟩
        have s22 : a.tmps.getD 22 undef = .string tx := (d0 rfl).now
        have s23 : a.tmps.getD 23 undef = .agg #[.slice A2 sl c2, .int .i64 val] := (d1 rfl).now
        refine op_yields (.agg #[.string tx, .slice A2 sl c2, .int .i64 val]) ?_ ?_ ?_
        · simp only [execOp, resolve, List.map_toArray, List.map_cons, List.map_nil, Act.eval, s22, s23]; simp [go_sem, -Array.getD_eq_getD_getElem?, s22, s23]
        · exact Below.refl _ _
        · exact (fun _ _ => rfl)
      case o6 =>
        intro a w hfr hG hd
        obtain ⟨d0, _⟩ := hd
        refine ⟨fun hw => ?_, fun hw => absurd hw (by simp [Region.wanted])⟩
        have s24 : a.tmps.getD 24 undef = .agg #[.string tx, .slice A2 sl c2, .int .i64 val] := (d0 rfl).now
        exact op_makes (.slice (some ⟨w.heap.size, 0, none⟩) 1 1) (w' := w.alloc (.cells #[.string tx, .slice A2 sl c2, .int .i64 val] 163)) (by simp only [execOp, resolve, List.map_toArray, List.map_cons, List.map_nil, Act.eval, s24]; simp [go_sem]) ((Below.refl _ _).alloc (Nat.le_refl _) _) (fun W' hW' => ⟨_, rfl, (Blk.mk (heap_alloc_new _ _) : Blk _ _ _ _).below hW' (by simp)⟩)
      case hG => exact fun w' hb => ⟨HS1.out.below ((Below.refl _ _).drew.trans (hb.mono (by simp))), HX0.out.below ((Below.refl _ _).drew.trans (hb.mono (by simp))) HX0.out.lt, HWA.out.drew.trans (hb.mono (by have h1 := HWA.out.size; have h2 := HBW.out; simp; omega))⟩
      case hend =>
        intro vs w' hG hv
        have key : vs 0 = .slice X k cx ∧ ∃ b, vs 6 = .slice (some ⟨b, 0, none⟩) 1 1 ∧ Blk w' b 163 [.string tx, .slice A2 sl c2, .int .i64 val] := by
          obtain ⟨h0, _, _, _, _, _, h6, _⟩ := hv
          exact ⟨h0.now, h6.now⟩
        obtain ⟨k0, b, k6, hbk⟩ := key
        have HS2 := Lib.hid hG.now.1
        have HOL2 := Lib.hid (HOL.out w' hG.now.2.2)
        have HXR := Lib.hid (hbk.sees (size := 3) (n := 1) rfl (List.prefix_refl _))
        clear hv hG hbk HS1 HX0 HWA HPR HOL
        have HPO : Hid (w'.ownsRow b3 163 3 (.slice X k cx) k (rts ((cl.take k).map mkRow))) := Lib.hid (by
          have h := HS2.out.rows.own
          rwa [show (cl.take k).length = k by rw [List.length_take, HLN.out]; omega] at h)
        obtain ⟨rs, hrs⟩ : ∃ r, rts ((cl.take k).map mkRow) = r := ⟨_, rfl⟩
        have HRS := Lib.hid hrs
        rw [hrs] at HPO
        clear hrs
        change wpList _ _ _ [_, _] (putAll vs 0 [_, _, _, _, _, _, _] _) _
        simp only [putAll, Act.put, k0, k6]
        clear k0 k6
        refine wpList_append_at (P := Tryz.prog) (hgd := rfl) (s := .tmp 19) (x := .tmp 25) (t := 161) (ho := rfl) (base := b3) (e := 163) (i := j0) (z := .agg #[.string ⟨#[]⟩, .slice none 0 0, .int .i64 0]) (size := 3) (bytes := 48) (ht := Tryz.underlying161) (hi := HJ.out) (hz := HY0.out) (hsize := HY1.out) (hby := HY2.out) (hzs := rfl) (hsz := by decide) (v := .slice X k cx) (n := k) (xs := rs) (hv := by simp [Act.eval]) (hown := HPO.out) (B := _) (A := some ⟨b, 0, none⟩) (m := 1) (c := 1) (news := [.string tx, .slice A2 sl c2, .int .i64 val]) (hx := by simp [Act.eval]) (hs := HXR.out) (h1 := by intro u hu; simp only [List.mem_cons, List.not_mem_nil, or_false] at hu; rcases hu with rfl | rfl | rfl <;> rfl) (h63 := by unfold maxLen; omega) (hbytes := by omega) (hbase := by have := HS2.out.bel.size; have := HB3.out; omega) (h := ?_)
        intro v' w5 hown hgr hwh
        have HS3 := Lib.hid (show SvAt w b3 (svA v') (k + 1) (svC v') (cl.take (k + 1)) (some ad) N cc cl w5 ∧ v' = .slice (svA v') (k + 1) (svC v') from by
          obtain ⟨A5, c5, rfl, _, _⟩ := own_slice hown
          have hk : (cl.take k).length = k := by rw [List.length_take, HLN.out]; omega
          refine ⟨⟨?_, HS2.out.src.grownBy HPO.out (by decide) (by decide) hgr, HS2.out.bel.grown hgr HS2.out.bel.size (fun g e => by have h1 := (HPO.out.lt g e).1; have := HB3.out; omega)⟩, rfl⟩
          rw [HNX.out]
          exact HS2.out.rows.push (x := ⟨.slice A2 sl c2, l, val⟩) HOL2.out (by rw [hk, HRS.out]; have h := hown; rw [← HTX.out] at h; exact h) hgr)
        have hv5 := HS3.out.2
        rw [hv5]
        generalize svA v' = A5 at *
        generalize svC v' = c5 at *
        clear hown hgr hwh hv5 HS2 HOL2 HXR HPO HRS HTX HNX
        go_wp2_with fail
        go_roundg gq
        case measure => omega
        case rel => exact ⟨k + 1, A5, c5, by omega, by first | rfl | go_num, rfl, HS3.out.1⟩
    | zero =>
      obtain rfl : k = N := by omega
      have HRT := Lib.hid (show RtsAt b3 (.slice X k cx) cl wr by have h := HS.out.rows; rwa [HTO.out] at h)
      have HBE := Lib.hid HS.out.bel
      have HLK := Lib.hid (show k ≤ 1000 ∧ cl.length = k from ⟨hn, HLN.out⟩)
      have HC := Lib.hid (sortStable_big b3 X k cx (cl.map mkRow) wr (by have h := HRT.out.own; rwa [HLN.out] at h) (by omega))
      have HFIN : Hid (ptsOf (sortR cl) = sortP ps) := Lib.hid (by rw [ptsOf_sortR, HCL.out])
      clear HS
      go_wp2_with fail
      (with_reducible refine HC.out.mono ?_); rintro e w5 ⟨rfl, ho, hg⟩
      have HR5 := Lib.hid (show RtsAt b3 (.slice X k cx) (sortR cl) w5 from HRT.out.sorted (by rw [HLK.out.2]; exact ho) hg)
      have HB5 := Lib.hid (show Below w.heap.size w w5 from HBE.out.grown hg HBE.out.size (fun g e => by have h1 := (HRT.out.own.lt g e).1; have := HB3.out; omega))
      have HSL5 := Lib.hid (show (sortR cl).length = k from (sortK_length _ _).trans HLK.out.2)
      have hi := HI.out; have hz0 := HZ0.out; have hz1 := HZ1.out; have hz2 := HZ2.out
      clear ho hg HC HRT HBE HCL
      generalize sortR cl = sr at *
      go_wp2_with (at_make; refine wpList_make_own _ rfl _ _ 38 rfl b3 43 i0 (.agg #[.slice none 0 0, .int .i64 0]) 2 Tryz.underlying38 hi hz0 hz1 _ _ _ k rfl rfl rfl (by rw [hz2]; omega) (by unfold maxLen; omega) (by have h1 := HB5.out.size; have := HB3.out; omega) ?_)
      intro w6 hown hg
      have HR6 := Lib.hid (HR5.out.grownBy (World.ownsRow_nil w5 0 0 1) (by decide) (by decide) hg)
      have HB6 := Lib.hid (HB5.out.grown hg HB5.out.size (fun k h => by cases h))
      have HP6 : Hid (PtsAt b3 _ [] w6) := Lib.hid ⟨hown, fun x hx => absurd hx List.not_mem_nil⟩
      clear hown hg hi hz0 hz1 hz2 HR5 HB5
      have HTK2 := Lib.hid (fun q (hq : q < sr.length) => List.take_succ_eq_append_getElem hq)
      have HTO2 := Lib.hid (show sr.take k = sr from List.take_of_length_le (by rw [HSL5.out]; exact Nat.le_refl _))
      go_wp2_with fail
      go_loopg [6, 8, 35] k (fun g x6 x8 x35 wr => ∃ (q : Nat) (Y : Option Addr) (cy : Nat), q + g = k ∧ x35 = .int .i64 q ∧ x6 = .slice Y q cy ∧ PtsAt b3 (.slice Y q cy) (sr.take q) wr ∧ RtsAt b3 (.slice X k cx) sr wr ∧ Below w.heap.size w wr)
      case atStart => exact ⟨0, _, _, by omega, rfl, rfl, HP6.out, HR6.out, HB6.out⟩
      case round =>
        obtain ⟨q, Y, cy, hqg, rfl, rfl, hpt, hrt, hbel⟩ := hrel
        have HP := Lib.hid hpt; have HR := Lib.hid hrt; have HB := Lib.hid hbel
        clear hpt hrt hbel HP6 HR6 HB6
        cases gk with
        | zero =>
          obtain rfl : q = k := by omega
          have HF : Hid (PtsAns (sortP ps) w (.returned (.slice Y q cy)) wr) := Lib.hid (by
            have h := HP.out
            rw [HTO2.out] at h
            have ho := h.own
            rw [HSL5.out] at ho
            obtain ⟨A', c', e, h1, h2⟩ := own_slice ho
            injection e with _ _ e; subst e
            exact ⟨Y, cy, sr, HFIN.out, by rw [HSL5.out], by rw [HSL5.out, HB3.out]; exact h, HB.out, by rw [HSL5.out]; exact h1, h2⟩)
          go_wp2_with fail
          go_ret
          exact HF.out
        | succ gq =>
          have hlt : q < sr.length := by have := HSL5.out; omega
          obtain ⟨ad, hA, e0, e1, e2, hol⟩ := rt_get HR.out hlt
          have HNX := Lib.hid (HTK2.out q hlt)
          subst hA
          generalize sr[q] = y at *
          obtain ⟨sv, l, val⟩ := y
          simp only at e0 e1 e2 hol
          obtain ⟨A2, c2, hsv, hss⟩ := hol
          subst hsv
          obtain ⟨sl, hsl⟩ : ∃ n, l.length = n := ⟨_, rfl⟩
          rw [hsl] at e1 HNX
          obtain ⟨tx, htx⟩ : ∃ t, (⟨(printL l).toArray⟩ : ByteArray) = t := ⟨_, rfl⟩
          rw [htx] at e0
          have ha := (Below.refl wr.heap.size wr).alloc (Nat.le_refl _) (.cells #[.string tx, .slice A2 sl c2, .int .i64 val] 163)
          have HP1 := Lib.hid (HP.out.below ha)
          have HR1 := Lib.hid (HR.out.below ha)
          have HB1 := Lib.hid (HB.out.trans (ha.mono HB.out.size))
          have HOL1 := Lib.hid (show OwnL (wr.alloc (.cells #[.string tx, .slice A2 sl c2, .int .i64 val] 163)) (.slice A2 sl c2) l from OwnL.below ⟨A2, c2, by rw [hsl], hss⟩ ha)
          have HX0 := Lib.hid (Blk.mk (heap_alloc_new wr (.cells #[.string tx, .slice A2 sl c2, .int .i64 val] 163)) : Blk _ wr.heap.size 163 [.string tx, .slice A2 sl c2, .int .i64 val])
          have hql : (sr.take q).length = q := by rw [List.length_take]; omega
          have HQL := Lib.hid hql
          clear hss ha HP HR HB hsl htx hql
          go_upto_region 12 with fail
          have HBX := Lib.hid (show ∃ b, wr.heap.size = b from ⟨_, rfl⟩)
          obtain ⟨bx, hbx⟩ := HBX.out
          rw [hbx] at HX0
          rw [hbx]
          clear hbx HBX e0 e1 e2
          obtain ⟨W1, hW1⟩ : ∃ W, wr.alloc (.cells #[.string tx, .slice A2 sl c2, .int .i64 val] 163) = W := ⟨_, rfl⟩
          rw [hW1] at HX0 HP1 HR1 HB1 HOL1 ⊢
          clear hW1
          have z1 := HX0.out.cell 1
          have z2 := HX0.out.cell 2
          simp only [List.getElem?_cons_zero, List.getElem?_cons_succ] at z1 z2
          have hb4 := (Below.refl W1.heap.size W1).alloc (Nat.le_refl _) (.cells #[.slice A2 sl c2, .int .i64 val] 43)
          have HP4 := Lib.hid (HP1.out.below hb4)
          have HR4 := Lib.hid (HR1.out.below hb4)
          have HB4 := Lib.hid (HB1.out.trans (hb4.mono HB1.out.size))
          have HOL4 := Lib.hid (HOL1.out.below hb4)
          have HX4 := Lib.hid ((Blk.mk (heap_alloc_new W1 (.cells #[.slice A2 sl c2, .int .i64 val] 43)) : Blk _ W1.heap.size 43 [.slice A2 sl c2, .int .i64 val]).sees (size := 2) (n := 1) rfl (List.prefix_refl _))
          have HPO : Hid ((W1.alloc (.cells #[.slice A2 sl c2, .int .i64 val] 43)).ownsRow b3 43 2 (.slice Y q cy) q (pts (sr.take q))) := Lib.hid (by have h := HP4.out.own; rwa [HQL.out] at h)
          clear hb4 HP1 HR1 HB1 HOL1
          go_wp2_with (at_builtin; refine wpList_append_at rfl (.tmp 39) (.tmp 42) 38 rfl b3 43 i0 (.agg #[.slice none 0 0, .int .i64 0]) 2 32 Tryz.underlying38 HI.out HZ0.out HZ1.out HZ2.out rfl (by decide) (.slice Y q cy) q (pts (sr.take q)) rfl HPO.out _ (some ⟨W1.heap.size, 0, none⟩) 1 _ [.slice A2 sl c2, .int .i64 val] rfl HX4.out (by intro u hu; simp at hu; rcases hu with rfl | rfl <;> rfl) (by unfold maxLen; omega) (by omega) (by have h1 := HB4.out.size; have := HB3.out; omega) ?_)
          intro v' w5 hown hgr hwh
          have HP5 := Lib.hid (HP4.out.push (l := l) (z := val) HOL4.out (by rw [HQL.out]; exact hown) hgr)
          have HR5 := Lib.hid (HR4.out.grownBy HPO.out (by decide) (by decide) hgr)
          have HB5 := Lib.hid (HB4.out.grown hgr HB4.out.size (fun g e => by have h1 := (HPO.out.lt g e).1; have := HB3.out; omega))
          obtain ⟨A5, c5, rfl, _, _⟩ := own_slice hown
          clear hown hgr hwh HP4 HR4 HB4 HOL4 HX4 HPO HX0 z1 z2
          go_wp2_with fail
          go_roundg gq
          case measure => omega
          case rel => exact ⟨q + 1, A5, c5, by omega, by first | rfl | go_num, rfl, by rw [HNX.out]; exact HP5.out, HR5.out, HB5.out⟩
end Go.Proofs.YtlmakdclebbbkaaGreat

namespace Go.Proofs.YtlmakdclebbbkaaGreat
open Go.ChangeShapes Go.WideShapes Go.ChangeAt Go.RowKit
set_option linter.unusedVariables false
set_option linter.unusedSimpArgs false
set_option maxRecDepth 100000
def twiceF (ks : List (List UInt8)) : Bool := decide (placeC ks ks.length < ks.length)
set_option maxHeartbeats 1000000 in
theorem twice_any (base : Nat) (A : Option Addr) (c : Nat) (rows : List PtR) (w : World) (h : PtsAt base (.slice A rows.length c) rows w) (hn : rows.length ≤ 1000) (hsl : ∀ x ∈ rows, x.set.length ≤ 1000) :
    Calls Tryz.prog 24 #[.slice A rows.length c] w fun e w' => e = .returned (.bool (twiceF (keysOf rows))) ∧ Below w.heap.size w w' := by
  have HC := Lib.hid (places_any base A c rows w h hn hsl)
  have HT : Hid (twiceF (keysOf rows) = decide (placeC (keysOf rows) rows.length < rows.length)) := Lib.hid (by
    unfold twiceF
    rw [show (keysOf rows).length = rows.length by simp [keysOf]])
  clear h hsl
  go_enter Tryz.func24, Tryz.ntmps24
  go_wp2_with fail
  (with_reducible refine HC.out.mono ?_); rintro e w2 ⟨rfl, hm, hb⟩
  have HM := Lib.hid hm; have HB := Lib.hid hb
  clear hm hb HC
  go_wp2_with (at_len; refine wpList_len_imap rfl (.tmp 4) rfl w.heap.size _ _ _ rfl HM.out ?_)
  go_ret
  exact ⟨by rw [HT.out]; rfl, HB.out⟩
end Go.Proofs.YtlmakdclebbbkaaGreat
