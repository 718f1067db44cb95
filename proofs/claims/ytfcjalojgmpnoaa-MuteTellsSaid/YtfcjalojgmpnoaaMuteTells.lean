/- MuteTells. -/
import Derived.Test.YtfcjalojgmpnoaaMuteTMath
import Derived.Test.YtfcjalojgmpnoaaFactsTail
import Derived.Test.YtfcjalojgmpnoaaFactsW
import Derived.Test.YtfcjalojgmpnoaaFresh
import Derived.Test.YtfcjalojgmpnoaaMuteRuns
namespace Go.Proofs.Ytfcjalojgmpnoaa
open Go.ChangeShapes Go.WideShapes Go.ChangeAt Go.RowKit
set_option linter.unusedVariables false
set_option linter.unusedSimpArgs false
set_option maxRecDepth 100000
theorem Try.infoInh : (Try.prog.info? 29).map (fun i => (i.zero, i.size, i.bytes)) = some (some (.agg #[.slice none 0 0, .slice none 0 0, .slice none 0 0]), 3, 72) := by kernel_rfl
theorem ShAt.cellS {w0 W : World} {g k1 cs k2 ch : Nat} {H : Option Addr} {sl : List Sil} {hl : List Inh} (h : ShAt w0 (some ⟨g, 0, none⟩) k1 cs sl H k2 ch hl W) {j : Nat} (hj : j < sl.length) : W.cell? ⟨g, j * 3, none⟩ = some sl[j].v ∧ W.cell? ⟨g, j * 3 + 1, none⟩ = some (.int .i64 sl[j].f) ∧ W.cell? ⟨g, j * 3 + 2, none⟩ = some (.int .i64 sl[j].t) := by
  have hjm : j < (sl.map Sil.cells).length := by rw [List.length_map]; exact hj
  obtain ⟨h0, h1, h2⟩ := tri_get (sl.map Sil.cells) j hjm
  rw [List.getElem_map] at h0 h1 h2
  have hl3 : (tri (sl.map Sil.cells)).length = sl.length * 3 := by rw [tri_length, List.length_map]
  have k0 := own_cellR h.s (j := j * 3) (by omega)
  have k1 := own_cellR h.s (j := j * 3 + 1) (by omega)
  have k2 := own_cellR h.s (j := j * 3 + 2) (by omega)
  rw [List.getElem?_eq_getElem (by omega)] at h0 h1 h2
  exact ⟨k0.trans h0, k1.trans h1, k2.trans h2⟩
theorem ShAt.cellH {w0 W : World} {g k1 cs k2 ch : Nat} {S : Option Addr} {sl : List Sil} {hl : List Inh} (h : ShAt w0 S k1 cs sl (some ⟨g, 0, none⟩) k2 ch hl W) {j : Nat} (hj : j < hl.length) : W.cell? ⟨g, j * 3, none⟩ = some hl[j].vs ∧ W.cell? ⟨g, j * 3 + 1, none⟩ = some hl[j].vd ∧ W.cell? ⟨g, j * 3 + 2, none⟩ = some hl[j].ve := by
  have hjm : j < (hl.map Inh.cells).length := by rw [List.length_map]; exact hj
  obtain ⟨h0, h1, h2⟩ := tri_get (hl.map Inh.cells) j hjm
  rw [List.getElem_map] at h0 h1 h2
  have hl3 : (tri (hl.map Inh.cells)).length = hl.length * 3 := by rw [tri_length, List.length_map]
  have k0 := own_cellR h.h (j := j * 3) (by omega)
  have k1 := own_cellR h.h (j := j * 3 + 1) (by omega)
  have k2 := own_cellR h.h (j := j * 3 + 2) (by omega)
  rw [List.getElem?_eq_getElem (by omega)] at h0 h1 h2
  exact ⟨k0.trans h0, k1.trans h1, k2.trans h2⟩
theorem own_frozenR {w : World} {base g : Nat} {e : TypeId} {size n c : Nat} {xs : List Value} (h : w.ownsRow base e size (.slice (some ⟨g, 0, none⟩) n c) n xs) (hn : 0 < n) (hs : 0 < size) (o : Nat) : w.frozen? ⟨g, o, none⟩ = false := by
  obtain ⟨g2, _, hX2, _, _, hf⟩ := own_formR h hn hs
  injection hX2 with hX2 _ _
  injection hX2 with hX2; injection hX2 with hX2
  subst hX2
  exact hf o
theorem cutN_self {α : Type} {f : α → α} {L : List α} {i : Nat} (h : i < L.length) : (cutN f (i + 1) L)[i]'(by rw [cutN_len]; exact h) = f L[i] := by
  simp only [cutN_next h, List.getElem_set_self]
theorem add_mk (g j : Nat) : (⟨g, 0, none⟩ : Addr).add j = ⟨g, j, none⟩ := by unfold Addr.add; split <;> simp_all
/-- May be, as the law reckons it. -/
def okSil (s : Sil) : Bool := decide (s.f ≤ s.t) && rightM (s.ms.take 7)
theorem okSil_cut (s : Sil) : okSil s = rightSil (cutS s) := by unfold okSil rightSil cutS; exact Bool.and_comm _ _
theorem mtsOk_take {l : List Mtc} (h : mtsOk l) : mtsOk (l.take 7) := fun z hz => h z (List.mem_of_mem_take hz)
theorem all_next {α : Type} {p : α → Bool} {l : List α} {i : Nat} (h : i < l.length) : (l.take (i + 1)).all p = ((l.take i).all p && p l[i]) := by
  rw [List.take_succ_eq_append_getElem h, List.all_append]; simp
/-- .. and a row of some of the sets. -/
structure WtAt (w0 : World) (S : Option Addr) (k1 cs : Nat) (sl : List Sil) (H : Option Addr) (k2 ch : Nat) (hl : List Inh) (Wt : Option Addr) (nw cw : Nat) (wl : List (Value × List Lbl)) (V : World) : Prop where
  sh : ShAt w0 S k1 cs sl H k2 ch hl V
  row : V.ownsRow w0.heap.size 24 1 (.slice Wt nw cw) nw (wl.map Prod.fst)
  each : ∀ x ∈ wl, HasL w0 x.1 x.2
section
variable {w0 V V' : World} {S H Wt Wt' : Option Addr} {k1 cs k2 ch nw cw cw' : Nat} {sl : List Sil} {hl : List Inh} {wl : List (Value × List Lbl)}
theorem WtAt.below (h : WtAt w0 S k1 cs sl H k2 ch hl Wt nw cw wl V) (hb : Below V.heap.size V V') : WtAt w0 S k1 cs sl H k2 ch hl Wt nw cw wl V' := ⟨h.sh.below hb, own_below h.row hb (Nat.le_refl _), h.each⟩
theorem WtAt.alloc (h : WtAt w0 S k1 cs sl H k2 ch hl Wt nw cw wl V) (o : Obj) : WtAt w0 S k1 cs sl H k2 ch hl Wt nw cw wl (V.alloc o) := h.below ((Below.refl _ _).alloc (Nat.le_refl _) o)
theorem WtAt.len (h : WtAt w0 S k1 cs sl H k2 ch hl Wt nw cw wl V) : wl.length = nw := by have := h.row.1; simpa using this
theorem WtAt.push (h : WtAt w0 S k1 cs sl H k2 ch hl Wt nw cw wl V) {v : Value} {l : List Lbl} (hv : HasL w0 v l) (hown : V'.ownsRow w0.heap.size 24 1 (.slice Wt' (nw + 1) cw') (nw + 1) (wl.map Prod.fst ++ [v])) (hg : V.grownBy V' (Value.slice Wt nw cw).ownBlock) : WtAt w0 S k1 cs sl H k2 ch hl Wt' (nw + 1) cw' (wl ++ [(v, l)]) V' :=
  ⟨h.sh.grown h.row (by decide) (by decide) hg, by rw [List.map_append]; exact hown, fun x hx => by
    rcases List.mem_append.1 hx with hx | hx
    · exact h.each x hx
    · rw [List.mem_singleton] at hx; subst hx; exact hv⟩
theorem WtAt.sets (h : WtAt w0 S k1 cs sl H k2 ch hl Wt nw cw wl V) : SetsAt V Wt nw wl := ⟨Sees.of_own h.row, fun x hx => (h.each x hx).below h.sh.bel⟩
end
set_option maxHeartbeats 8000000 in
theorem mute_tells (A0 : Option Addr) (n0 c0 : Nat) (z0 : List KSet) (A1 : Option Addr) (n1 c1 : Nat) (z1 : List Sil) (A2 : Option Addr) (n2 c2 : Nat) (z2 : List Inh) (t ix : Int) (w : World)
    (h0 : AKSets w w.heap.size A0 z0) (l0 : z0.length = n0) (p0 : n0 ≤ c0) (q0 : c0 ≤ 9223372036854775807)
    (h1 : ASils w w.heap.size A1 z1) (l1 : z1.length = n1) (p1 : n1 ≤ c1) (q1 : c1 ≤ 9223372036854775807)
    (h2 : AInhs w w.heap.size A2 z2) (l2 : z2.length = n2) (p2 : n2 ≤ c2) (q2 : c2 ≤ 9223372036854775807) (ht : I64 t) (hix : I64 ix) :
    Calls Try.prog 4 #[.slice A0 n0 c0, .slice A1 n1 c1, .slice A2 n2 c2, .int .i64 t, .int .i64 ix] w fun e w' => e = .returned (.bool true) ∧ Below w.heap.size w w' := by
  obtain ⟨i0, hi0, hz0, hz1, hz2⟩ := info_parts Try.infoLbls
  obtain ⟨j0, hj0, jz0, jz1, jz2⟩ := info_parts Try.infoSil
  obtain ⟨q0', hq0, qz0, qz1, qz2⟩ := info_parts Try.infoInh
  obtain ⟨K, hK⟩ : ∃ k, min n0 6 = k := ⟨_, rfl⟩
  obtain ⟨k1, hk1⟩ : ∃ k, min n1 4 = k := ⟨_, rfl⟩
  obtain ⟨k2, hk2⟩ : ∃ k, min n2 4 = k := ⟨_, rfl⟩
  have m1 : min (n1 : Int) 4 = (k1 : Int) := by omega
  have m2 : min (n2 : Int) 4 = (k2 : Int) := by omega
  have y1 : (k1 : Int) ≤ c1 := by omega
  have y2 : (k2 : Int) ≤ c2 := by omega
  have y3 : (0 : Int) ≤ k1 := by omega
  have y4 : (0 : Int) ≤ k2 := by omega
  have HZ := Lib.hid h0
  have HZL := Lib.hid l0
  have HSA0 := Lib.hid (show SilsAt w A1 k1 (z1.take k1) by have h := h1.1; rw [l1] at h; exact h.take (k := k1) (by omega))
  have HIA0 := Lib.hid (show InhsAt w A2 k2 (z2.take k2) by have h := h2.1; rw [l2] at h; exact h.take (k := k2) (by omega))
  have HZS : Hid (∀ x ∈ z1.take k1, mtsOk x.ms) := Lib.hid (fun x hx => (h1.2 x (List.mem_of_mem_take hx)).2.2)
  have HZI : Hid (∀ x ∈ z2.take k2, mtsOk x.src ∧ mtsOk x.dst ∧ ∀ s ∈ x.eq, s.size ≤ maxLen) := Lib.hid (fun x hx => h2.2 x (List.mem_of_mem_take hx))
  have HSL := Lib.hid (show (z1.take k1).length = k1 by rw [List.length_take]; omega)
  have HIL := Lib.hid (show (z2.take k2).length = k2 by rw [List.length_take]; omega)
  have hk14 : k1 ≤ 4 := by omega
  have hk24 : k2 ≤ 4 := by omega
  have hK6 : K ≤ 6 := by omega
  have hKn : K ≤ n0 := by omega
  have HK := Lib.hid hK
  generalize z1.take k1 = sa at *
  generalize z2.take k2 = ha at *
  clear h0 h1 h2 l0 l1 l2 hk1 hk2 hK
  go_enter Try.func4, Try.ntmps4
  go_upto_block 0 with fail
  go_cut [11, 12] from 24 to 41 (fun x11 x12 wx => ∃ (X : Option Addr) (cx : Nat) (rows : List (Value × List Lbl)), x11 = .slice X K cx ∧ rows.length = K ∧ SetsAt wx X K rows ∧ K ≤ cx ∧ cx ≤ 9223372036854775807 ∧ Below w.heap.size w wx ∧ setsOf rows = (z0.take K).map setF)
  case first => --done1
   go_wp2_with fail
   go_loopg [11, 12] K (fun g x11 x12 wr => ∃ (k : Nat) (X : Option Addr) (cx : Nat) (rows : List (Value × List Lbl)), k + g = K ∧ x12 = .int .i64 k ∧ x11 = .slice X k cx ∧ rows.length = k ∧ OwnRows w.heap.size (.slice X k cx) rows wr ∧ Below w.heap.size w wr ∧ setsOf rows = (z0.take k).map setF)
   case atStart => exact ⟨0, none, 0, [], by omega, rfl, rfl, rfl, OwnRows.nil _ _, Below.refl _ _, by simp [setsOf]⟩
   case round =>
     obtain ⟨k, X, cx, rows, hkg, rfl, rfl, hrl, hrow, hbel, hrs⟩ := hrel
     have HR := Lib.hid hrow; have HB := Lib.hid hbel; have HS := Lib.hid hrs; have HRL := Lib.hid hrl
     have hws := hbel.size
     clear hrow hbel hrs hrl
     cases gk with
     | succ g =>
       have hkl : k < z0.length := by rw [HZL.out]; omega
       have hk6 : k < 6 := by omega
       have hkn : k < n0 := by omega
       obtain ⟨ad, hAe, had, e0, e1, hok⟩ := (HZ.out.below HB.out) k hkl
       have hal := World.block_lt_of_cell? wr _ e0
       have HSN := Lib.hid (fun v => setsOf_take hkl HS.out v)
       have hl3 := setF_len z0[k]
       have HKS := Lib.hid (keepset_any z0[k] w.heap.size wr hok hws)
       subst hAe
       unfold KSet.val at HKS
       generalize setF z0[k] = l at *
       generalize z0[k].A = Aa at *
       generalize z0[k].n = na at *
       generalize z0[k].c = ca at *
       generalize z0[k].A2 = Ab at *
       generalize z0[k].n2 = nb at *
       generalize z0[k].c2 = cb at *
       clear hok HS
       go_wp2_with fail
       (with_reducible refine HKS.out.mono ?_); rintro e wq hcl
       obtain ⟨A5, c5, rfl, hol, hbq⟩ := ownL_of hcl
       have HRQ := Lib.hid (HR.out.below hbq)
       have HBQ := Lib.hid (HB.out.trans (hbq.mono hws))
       clear hcl hbq
       have HRW := Lib.hid (HRQ.out.below ((Below.refl _ wq).alloc (Nat.le_refl _) (.cells #[.slice A5 l.length c5] 24)))
       have HOL := Lib.hid (hol.below ((Below.refl _ wq).alloc (Nat.le_refl _) (.cells #[.slice A5 l.length c5] 24)))
       have HX := Lib.hid (show Sees (wq.alloc (.cells #[.slice A5 l.length c5] 24)) (wq.alloc (.cells #[.slice A5 l.length c5] 24)).heap.size 1 (some ⟨wq.heap.size, 0, none⟩) 1 [.slice A5 l.length c5] from (Blk.mk (heap_alloc_new wq _) : Blk _ wq.heap.size 24 [.slice A5 l.length c5]).sees rfl (List.prefix_refl _))
       have HBA := Lib.hid (HBQ.out.alloc HBQ.out.size (.cells #[.slice A5 l.length c5] 24))
       have hsq := HBQ.out.size
       have hbx : ∀ g, (Value.slice X k cx).ownBlock = some g → w.heap.size ≤ g := fun g hg => (HRW.out.own.lt g hg).1
       have HBX := Lib.hid hbx
       have HOW := Lib.hid (show (wq.alloc (.cells #[.slice A5 l.length c5] 24)).ownsRow w.heap.size 24 1 (.slice X k cx) k (rows.map Prod.fst) by have h := HRW.out.own; rwa [HRL.out] at h)
       clear hbx hol HR HRQ HBQ HKS
       go_wp2_with (at_builtin; refine wpList_append_at rfl (.tmp 34) (.tmp 40) 32 rfl w.heap.size 24 i0 (.slice none 0 0) 1 24 Try.underlying32 hi0 hz0 hz1 hz2 rfl (by decide) (.slice X k cx) k (rows.map Prod.fst) rfl HOW.out _ _ 1 1 [.slice A5 l.length c5] rfl HX.out (by intro u hu; rw [List.mem_singleton] at hu; subst hu; rfl) (by unfold maxLen; omega) (by omega) (by simp; omega) ?_)
       intro v3 w3 hown3 hgr3 hwh3
       obtain ⟨A6, c6, rfl, hc3, hc4⟩ := own_slice hown3
       have HRN := Lib.hid (HRW.out.push HOL.out (by rw [HRL.out]; exact hown3) hgr3)
       have HB3 := Lib.hid (HBA.out.grown hgr3 (by simp; omega) HBX.out)
       have HLN := Lib.hid (show (rows ++ [(Value.slice A5 l.length c5, l)]).length = k + 1 by rw [List.length_append, HRL.out]; rfl)
       have HSS := Lib.hid (HSN.out (.slice A5 l.length c5))
       clear hown3 hgr3 hwh3 HX HBA HBX HOW HRW HOL HSN
       generalize rows ++ [(Value.slice A5 l.length c5, l)] = rows2 at *
       go_wp2_with fail
       go_roundg g
       case measure => omega
       case rel => exact ⟨k + 1, A6, c6, rows2, by omega, by go_num, rfl, HLN.out, HRN.out, HB3.out, HSS.out⟩
     | zero =>
       obtain rfl : k = K := by omega
       have hss := HR.out.sets
       rw [HRL.out] at hss
       obtain ⟨X', cx', g1, g2, g3⟩ := own_slice HR.out.own
       rw [HRL.out] at g1 g2
       injection g1 with g1 _ g4; subst g1; subst g4
       have HSS := Lib.hid hss
       have hn0 := HK.out
       clear hss
       by_cases h6 : n0 ≤ 6
       · obtain rfl : n0 = k := by omega
         clear hn0
         go_wp2_with fail
         go_meet
         exact ⟨X, cx, rows, rfl, HRL.out, HSS.out, g2, g3, HB.out, HS.out⟩
       · obtain rfl : k = 6 := by omega
         have h7 : 6 < n0 := by omega
         clear hn0
         go_wp2_with fail
         go_meet
         exact ⟨X, cx, rows, rfl, HRL.out, HSS.out, g2, g3, HB.out, HS.out⟩
  case rest =>
    obtain ⟨X, cx, rows, rfl, hrl, hss, hc1, hc2, hbel, hrs⟩ := hcut
    generalize wc = wz at *
    have HSA := Lib.hid (HSA0.out.below hbel)
    have HIA := Lib.hid (HIA0.out.below hbel)
    have HALL := Lib.hid hss
    have HRL := Lib.hid hrl; have HRS := Lib.hid hrs; have HBZ := Lib.hid hbel
    have HO1 := Lib.hid (show ∀ u ∈ tri (sa.map Sil.cells), u.oneCell' = true from tri_one (fun x hx => by
      obtain ⟨s, hs, rfl⟩ := List.mem_map.1 hx
      obtain ⟨A', c', e'⟩ := (HSA0.out.ms s hs).form
      refine ⟨?_, rfl, rfl⟩
      show s.v.oneCell' = true
      rw [e']; rfl))
    have HO2 := Lib.hid (show ∀ u ∈ tri (ha.map Inh.cells), u.oneCell' = true from tri_one (fun x hx => by
      obtain ⟨s, hs, rfl⟩ := List.mem_map.1 hx
      obtain ⟨_, _, e1⟩ := (HIA0.out.src s hs).form
      obtain ⟨_, _, e2⟩ := (HIA0.out.dst s hs).form
      obtain ⟨_, _, e3, _⟩ := (HIA0.out.eq s hs).form
      refine ⟨?_, ?_, ?_⟩
      · show s.vs.oneCell' = true
        rw [e1]; rfl
      · show s.vd.oneCell' = true
        rw [e2]; rfl
      · show s.ve.oneCell' = true
        rw [e3]; rfl))
    clear hrl hss hbel hrs HZ HK HSA0 HIA0
    go_upto_region 6 with fail
    refine wp_region_facts (R := fun a b => Below a.heap.size a b) (G := (fun W => Below wz.heap.size wz W)) (V := fun i' u' W => match i' with | 0 => ∃ b, u' = .slice (some ⟨b, 0, none⟩) 0 0 ∧ wz.heap.size ≤ b ∧ Blk W b 31 [] | 1 => u' = .slice A1 n1 c1 | 2 => u' = .slice A1 n1 c1 | 3 => u' = .int .i64 n1 | 4 => u' = .int .i64 k1 | 5 => u' = .slice A1 k1 c1 | 6 => W.ownsRow wz.heap.size 31 3 u' k1 (tri (sa.map Sil.cells)) | 7 => ∃ b, u' = .slice (some ⟨b, 0, none⟩) 0 0 ∧ wz.heap.size ≤ b ∧ Blk W b 29 [] | 8 => u' = .slice A2 n2 c2 | 9 => u' = .slice A2 n2 c2 | 10 => u' = .int .i64 n2 | 11 => u' = .int .i64 k2 | 12 => u' = .slice A2 k2 c2 | 13 => W.ownsRow wz.heap.size 29 3 u' k2 (tri (ha.map Inh.cells)) | 14 => W.ownsRow wz.heap.size 31 3 u' k1 (tri (sa.map Sil.cells)) | 15 => W.ownsRow wz.heap.size 29 3 u' k2 (tri (ha.map Inh.cells)) | _ => True) (by kernel_rfl) (fun w => Below.refl _ _) (fun a b c h1 h2 => h1.trans (h2.mono h1.size)) (by kernel_rfl) (by kernel_rfl) ?hG ⟨?o0, ?o1, ?o2, ?o3, ?o4, ?o5, ?o6, ?o7, ?o8, ?o9, ?o10, ?o11, ?o12, ?o13, ?o14, ?o15, trivial⟩ ?hend
    case o0 =>
      intro a w hfr hG hd
      refine ⟨fun hw => ?_, fun hw => absurd hw (by simp [Region.wanted])⟩
      exact op_makes (.slice (some ⟨w.heap.size, 0, none⟩) 0 0) (w' := w.alloc (.cells #[] 31)) (by simp only [execOp, Act.eval]; simp [go_sem]) ((Below.refl _ _).alloc (Nat.le_refl _) _) (fun W' hW' => ⟨_, rfl, hG.now.size, (Blk.mk (heap_alloc_new _ _) : Blk _ _ _ _).below hW' (by simp)⟩)
    case o1 =>
      intro a w hfr hG hd
      refine ⟨fun hw => ?_, fun hw => absurd hw (by simp [Region.wanted])⟩
      have s1 : a.tmps.getD 1 undef = .slice A1 n1 c1 := hfr.at 1 (by kernel_rfl)
      refine op_yields (.slice A1 n1 c1) ?_ ?_ ?_
      · simp only [execOp, resolve, List.map_toArray, List.map_cons, List.map_nil, Act.eval, s1]; simp [go_sem, -Array.getD_eq_getD_getElem?, s1]
      · exact Below.refl _ _
      · exact (fun _ _ => rfl)
    case o2 =>
      intro a w hfr hG hd
      refine ⟨fun hw => ?_, fun hw => absurd hw (by simp [Region.wanted])⟩
      have s1 : a.tmps.getD 1 undef = .slice A1 n1 c1 := hfr.at 1 (by kernel_rfl)
      refine op_yields (.slice A1 n1 c1) ?_ ?_ ?_
      · simp only [execOp, resolve, List.map_toArray, List.map_cons, List.map_nil, Act.eval, s1]; simp [go_sem, -Array.getD_eq_getD_getElem?, s1]
      · exact Below.refl _ _
      · exact (fun _ _ => rfl)
    case o3 =>
      intro a w hfr hG hd
      obtain ⟨d0, _⟩ := hd
      refine ⟨fun hw => ?_, fun hw => absurd hw (by simp [Region.wanted])⟩
      have s44 : a.tmps.getD 44 undef = .slice A1 n1 c1 := (d0 rfl).now
      refine op_yields (.int .i64 n1) ?_ ?_ ?_
      · simp only [execOp, resolve, List.map_toArray, List.map_cons, List.map_nil, Act.eval, s44]; simp [go_sem, -Array.getD_eq_getD_getElem?, s44]
      · exact Below.refl _ _
      · exact (fun _ _ => rfl)
    case o4 =>
      intro a w hfr hG hd
      obtain ⟨d0, _⟩ := hd
      refine ⟨fun hw => ?_, fun hw => absurd hw (by simp [Region.wanted])⟩
      have s45 : a.tmps.getD 45 undef = .int .i64 n1 := (d0 rfl).now
      refine op_yields (.int .i64 k1) ?_ ?_ ?_
      · simp only [execOp, resolve, List.map_toArray, List.map_cons, List.map_nil, Act.eval, s45]; simp [go_sem, -Array.getD_eq_getD_getElem?, s45, m1]
      · exact Below.refl _ _
      · exact (fun _ _ => rfl)
    case o5 =>
      intro a w hfr hG hd
      obtain ⟨d0, d1, _⟩ := hd
      refine ⟨fun hw => ?_, fun hw => absurd hw (by simp [Region.wanted])⟩
      have s43 : a.tmps.getD 43 undef = .slice A1 n1 c1 := (d0 rfl).now
      have s46 : a.tmps.getD 46 undef = .int .i64 k1 := (d1 rfl).now
      refine op_yields (.slice A1 k1 c1) ?_ ?_ ?_
      · simp only [execOp, resolve, List.map_toArray, List.map_cons, List.map_nil, Act.eval, s43, s46]; simp [go_sem, -Array.getD_eq_getD_getElem?, s43, s46, y1, y3]
      · exact Below.refl _ _
      · exact (fun _ _ => rfl)
    case o6 =>
      intro a w hfr hG hd
      obtain ⟨d0, d1, _⟩ := hd
      refine ⟨fun hw => ?_, fun hw => absurd hw (by simp [Region.wanted])⟩
      have p42 : Hold (fun a b => Below a.heap.size a b) (fun W => ∃ b, (a.tmps.getD 42 undef) = .slice (some ⟨b, 0, none⟩) 0 0 ∧ wz.heap.size ≤ b ∧ Blk W b 31 []) w := d0 rfl
      have s47 : a.tmps.getD 47 undef = .slice A1 k1 c1 := (d1 rfl).now
      obtain ⟨b, s42, hb42, f42⟩ := p42.now; obtain ⟨A', c', w', hrun, hown, hb⟩ := append_fresh (P := Try.prog) w b 36 36 31 j0 _ 3 40 Try.underlying36 hj0 jz0 jz1 jz2 rfl (by decide) f42 _ A1 k1 c1 (tri (sa.map Sil.cells)) (HSA.out.below hG.now).row HO1.out (by unfold maxLen; omega) (by omega); exact op_makes (.slice A' k1 c') (op_append rfl s42 s47 hrun) hb (fun W' hW' => own_below (own_mono hown hb42) hW' (Nat.le_refl _))
    case o7 =>
      intro a w hfr hG hd
      refine ⟨fun hw => ?_, fun hw => absurd hw (by simp [Region.wanted])⟩
      exact op_makes (.slice (some ⟨w.heap.size, 0, none⟩) 0 0) (w' := w.alloc (.cells #[] 29)) (by simp only [execOp, Act.eval]; simp [go_sem]) ((Below.refl _ _).alloc (Nat.le_refl _) _) (fun W' hW' => ⟨_, rfl, hG.now.size, (Blk.mk (heap_alloc_new _ _) : Blk _ _ _ _).below hW' (by simp)⟩)
    case o8 =>
      intro a w hfr hG hd
      refine ⟨fun hw => ?_, fun hw => absurd hw (by simp [Region.wanted])⟩
      have s2 : a.tmps.getD 2 undef = .slice A2 n2 c2 := hfr.at 2 (by kernel_rfl)
      refine op_yields (.slice A2 n2 c2) ?_ ?_ ?_
      · simp only [execOp, resolve, List.map_toArray, List.map_cons, List.map_nil, Act.eval, s2]; simp [go_sem, -Array.getD_eq_getD_getElem?, s2]
      · exact Below.refl _ _
      · exact (fun _ _ => rfl)
    case o9 =>
      intro a w hfr hG hd
      refine ⟨fun hw => ?_, fun hw => absurd hw (by simp [Region.wanted])⟩
      have s2 : a.tmps.getD 2 undef = .slice A2 n2 c2 := hfr.at 2 (by kernel_rfl)
      refine op_yields (.slice A2 n2 c2) ?_ ?_ ?_
      · simp only [execOp, resolve, List.map_toArray, List.map_cons, List.map_nil, Act.eval, s2]; simp [go_sem, -Array.getD_eq_getD_getElem?, s2]
      · exact Below.refl _ _
      · exact (fun _ _ => rfl)
    case o10 =>
      intro a w hfr hG hd
      obtain ⟨d0, _⟩ := hd
      refine ⟨fun hw => ?_, fun hw => absurd hw (by simp [Region.wanted])⟩
      have s51 : a.tmps.getD 51 undef = .slice A2 n2 c2 := (d0 rfl).now
      refine op_yields (.int .i64 n2) ?_ ?_ ?_
      · simp only [execOp, resolve, List.map_toArray, List.map_cons, List.map_nil, Act.eval, s51]; simp [go_sem, -Array.getD_eq_getD_getElem?, s51]
      · exact Below.refl _ _
      · exact (fun _ _ => rfl)
    case o11 =>
      intro a w hfr hG hd
      obtain ⟨d0, _⟩ := hd
      refine ⟨fun hw => ?_, fun hw => absurd hw (by simp [Region.wanted])⟩
      have s52 : a.tmps.getD 52 undef = .int .i64 n2 := (d0 rfl).now
      refine op_yields (.int .i64 k2) ?_ ?_ ?_
      · simp only [execOp, resolve, List.map_toArray, List.map_cons, List.map_nil, Act.eval, s52]; simp [go_sem, -Array.getD_eq_getD_getElem?, s52, m2]
      · exact Below.refl _ _
      · exact (fun _ _ => rfl)
    case o12 =>
      intro a w hfr hG hd
      obtain ⟨d0, d1, _⟩ := hd
      refine ⟨fun hw => ?_, fun hw => absurd hw (by simp [Region.wanted])⟩
      have s50 : a.tmps.getD 50 undef = .slice A2 n2 c2 := (d0 rfl).now
      have s53 : a.tmps.getD 53 undef = .int .i64 k2 := (d1 rfl).now
      refine op_yields (.slice A2 k2 c2) ?_ ?_ ?_
      · simp only [execOp, resolve, List.map_toArray, List.map_cons, List.map_nil, Act.eval, s50, s53]; simp [go_sem, -Array.getD_eq_getD_getElem?, s50, s53, y2, y4]
      · exact Below.refl _ _
      · exact (fun _ _ => rfl)
    case o13 =>
      intro a w hfr hG hd
      obtain ⟨d0, d1, d2, _⟩ := hd
      refine ⟨fun hw => ?_, fun hw => absurd hw (by simp [Region.wanted])⟩
      have p49 : Hold (fun a b => Below a.heap.size a b) (fun W => ∃ b, (a.tmps.getD 49 undef) = .slice (some ⟨b, 0, none⟩) 0 0 ∧ wz.heap.size ≤ b ∧ Blk W b 29 []) w := d0 rfl
      have s54 : a.tmps.getD 54 undef = .slice A2 k2 c2 := (d1 rfl).now
      obtain ⟨b, s49, hb49, f49⟩ := p49.now; obtain ⟨A', c', w', hrun, hown, hb⟩ := append_fresh (P := Try.prog) w b 37 37 29 q0' _ 3 72 Try.underlying37 hq0 qz0 qz1 qz2 rfl (by decide) f49 _ A2 k2 c2 (tri (ha.map Inh.cells)) (HIA.out.below hG.now).row HO2.out (by unfold maxLen; omega) (by omega); exact op_makes (.slice A' k2 c') (op_append rfl s49 s54 hrun) hb (fun W' hW' => own_below (own_mono hown hb49) hW' (Nat.le_refl _))
    case o14 =>
      intro a w hfr hG hd
      obtain ⟨d0, d1, d2, d3, d4, d5, d6, d7, d8, d9, d10, d11, d12, d13, d14, d15, _⟩ := hd
      refine ⟨fun hw => ?_, fun hw => absurd hw (by simp [Region.wanted])⟩
      have p48 : Hold (fun a b => Below a.heap.size a b) (fun W => W.ownsRow wz.heap.size 31 3 (a.tmps.getD 48 undef) k1 (tri (sa.map Sil.cells))) w := d0 rfl
      refine op_yields (a.tmps.getD 48 undef) ?_ ?_ ?_
      · simp only [execOp, Act.eval]; rfl
      · exact Below.refl _ _
      · exact p48
    case o15 =>
      intro a w hfr hG hd
      obtain ⟨d0, d1, d2, d3, d4, d5, d6, d7, d8, d9, d10, d11, d12, d13, d14, d15, d16, _⟩ := hd
      refine ⟨fun hw => ?_, fun hw => absurd hw (by simp [Region.wanted])⟩
      have p55 : Hold (fun a b => Below a.heap.size a b) (fun W => W.ownsRow wz.heap.size 29 3 (a.tmps.getD 55 undef) k2 (tri (ha.map Inh.cells))) w := d0 rfl
      refine op_yields (a.tmps.getD 55 undef) ?_ ?_ ?_
      · simp only [execOp, Act.eval]; rfl
      · exact Below.refl _ _
      · exact p55
    case hG => exact fun w' hb => (Below.refl _ _).drew.trans (hb.mono (by simp))
    case hend =>
      intro vs w' hG hv
      have key : w'.ownsRow wz.heap.size 31 3 (vs 14) k1 (tri (sa.map Sil.cells)) ∧ w'.ownsRow wz.heap.size 29 3 (vs 15) k2 (tri (ha.map Inh.cells)) := by
        obtain ⟨_, _, _, _, _, _, _, _, _, _, _, _, _, _, h14, h15, _⟩ := hv
        exact ⟨h14.now, h15.now⟩
      have hbw := hG.now
      clear hv hG
      obtain ⟨ko1, ko2⟩ := key
      obtain ⟨S, cs, e14, hcs1, hcs2⟩ := own_slice ko1
      obtain ⟨H, ch, e15, hch1, hch2⟩ := own_slice ko2
      rw [e14] at ko1
      rw [e15] at ko2
      have HSH := Lib.hid (show ShAt wz S k1 cs (cutN cutS 0 sa) H k2 ch ha w' from ⟨hbw, by rw [cutN_zero]; exact ko1, ko2, by rw [cutN_zero]; exact HSA.out.ms, fun x hx => ⟨HIA.out.src x hx, HIA.out.dst x hx, HIA.out.eq x hx⟩⟩)
      clear ko1 ko2 hbw HO1 HO2 m1 m2 y1 y2
      simp only [putAll, Act.put, e14, e15]
      clear e14 e15
      go_simp
      have hsl0 := HSL.out
      go_upto_block 2 with fail
      go_cut [15, 16] from 58 to 100 (fun x15 x16 wx => x15 = .bool ((sa.map cutS).all rightSil) ∧ ShAt wz S k1 cs (sa.map cutS) H k2 ch ha wx)
      case first => --done2
        go_wp2_with fail
        go_loopg [15, 16, 58] k1 (fun g x15 x16 x58 wr => ∃ i : Nat, i + g = k1 ∧ x58 = .int .i64 i ∧ x15 = .bool ((sa.take i).all okSil) ∧ ShAt wz S k1 cs (cutN cutS i sa) H k2 ch ha wr)
        case atStart => exact ⟨0, by omega, rfl, rfl, HSH.out⟩
        case round =>
          obtain ⟨i, hig, rfl, rfl, hsh⟩ := hrel
          have HS1 := Lib.hid hsh
          clear hsh HSH
          cases gk with
          | zero =>
            obtain rfl : i = k1 := by omega
            have HE := Lib.hid (show (sa.take i).all okSil = (sa.map cutS).all rightSil by
              rw [List.take_of_length_le (by rw [HSL.out]; exact Nat.le_refl _), List.all_map]
              congr 1; funext x; exact okSil_cut x)
            have HC := Lib.hid (show cutN cutS i sa = sa.map cutS from cutN_all (by rw [HSL.out]; exact Nat.le_refl _))
            go_wp2_with fail
            go_meet
            exact ⟨by rw [HE.out], by rw [← HC.out]; exact HS1.out⟩
          | succ gr =>
            have hil : i < sa.length := by omega
            have hi1 : i < k1 := by omega
            obtain ⟨g, cg, hX, _, _, _⟩ := own_formR HS1.out.s (by omega) (by omega)
            injection hX with hX _ hcg
            subst hX hcg
            have HM := Lib.hid (HSA.out.ms sa[i] (List.getElem_mem hil))
            have HMZ := Lib.hid (HZS.out sa[i] (List.getElem_mem hil))
            have HAN := Lib.hid (show (sa.take (i + 1)).all okSil = ((sa.take i).all okSil && okSil sa[i]) from all_next hil)
            have HEL := Lib.hid (show ∀ W : World, ShAt wz (some ⟨g, 0, none⟩) k1 cs (cutN cutS i sa) H k2 ch ha W → W.cell? ⟨g, i * 3, none⟩ = some sa[i].v ∧ W.cell? ⟨g, i * 3 + 1, none⟩ = some (.int .i64 sa[i].f) ∧ W.cell? ⟨g, i * 3 + 2, none⟩ = some (.int .i64 sa[i].t) from fun W h => by
              have h1 := h.cellS (j := i) (by rw [cutN_len]; exact hil)
              rw [cutN_get hil] at h1
              exact h1)
            have HEN := Lib.hid (show ∀ W : World, ShAt wz (some ⟨g, 0, none⟩) k1 cs (cutN cutS (i + 1) sa) H k2 ch ha W → W.cell? ⟨g, i * 3, none⟩ = some (cutV sa[i].v) ∧ W.cell? ⟨g, i * 3 + 1, none⟩ = some (.int .i64 sa[i].f) ∧ W.cell? ⟨g, i * 3 + 2, none⟩ = some (.int .i64 sa[i].t) from fun W h => by
              have h1 := h.cellS (j := i) (by rw [cutN_len]; exact hil)
              rw [cutN_self hil] at h1
              exact h1)
            have HPUT := Lib.hid (fun (V : World) (h : ShAt wz (some ⟨g, 0, none⟩) k1 cs (cutN cutS i sa) H k2 ch ha V) => h.cutS' hil HM.out)
            have HMC := Lib.hid (show ∀ V : World, ShAt wz (some ⟨g, 0, none⟩) k1 cs (cutN cutS (i + 1) sa) H k2 ch ha V → Calls Try.prog 13 #[cutV sa[i].v] V fun e w' => e = .returned (.bool (rightM (sa[i].ms.take 7))) ∧ Below V.heap.size V w' from fun V h => matchers_any _ _ V (HM.out.cut.below h.bel) (mtsOk_take HMZ.out))
            have hof := HM.out.form
            generalize sa[i] = sx at *
            obtain ⟨sv, sm, sf, st⟩ := sx
            obtain ⟨Am, cm, e⟩ := hof
            simp only at e
            obtain ⟨_, cm', e', hsees, hnc, hcm2⟩ := HM.out
            simp only at e'
            rw [e] at e'
            injection e' with e1' _ e3'
            subst e1' e3'
            simp only [e, cutV] at HEL HEN HPUT HMC
            have HAN2 := Lib.hid (show (sa.take (i + 1)).all okSil = ((sa.take i).all okSil && (decide (sf ≤ st) && rightM (sm.take 7))) from HAN.out)
            clear hsees HAN HM HMZ e
            generalize sm.length = nm at *
            obtain ⟨q, hq⟩ : ∃ q, min nm 7 = q := ⟨_, rfl⟩
            rw [hq] at HEN HPUT HMC
            have m3 : min (nm : Int) 7 = (q : Int) := by omega
            have v1 : (q : Int) ≤ cm := by first | omega | (simp only at hnc; omega)
            have v2 : (0 : Int) ≤ q := by omega
            have y3 : (0 : Int) ≤ i := by omega
            have y4 : (i : Int) < k1 := by omega
            obtain ⟨rm, hrm⟩ : ∃ r, rightM (sm.take 7) = r := ⟨_, rfl⟩
            rw [hrm] at HMC HAN2
            clear hq hrm hnc hcm2
            go_upto_region 11 with fail
            refine wp_region_facts_tail 17 (R := fun a b => Below a.heap.size a b) (G := (fun W => ShAt wz (some ⟨g, 0, none⟩) k1 cs (cutN cutS i sa) H k2 ch ha W)) (V := fun i' u' W => match i' with | 0 => u' = .slice (some ⟨g, 0, none⟩) k1 cs | 1 => u' = .int .i64 i | 2 => u' = .slice (some ⟨g, 0, none⟩) k1 cs | 3 => u' = .int .i64 i | 4 => u' = .pointer (some ⟨g, i * 3, none⟩) | 5 => u' = .pointer (some ⟨g, i * 3, none⟩) | 6 => u' = .slice Am nm cm | 7 => u' = .slice (some ⟨g, 0, none⟩) k1 cs | 8 => u' = .int .i64 i | 9 => u' = .pointer (some ⟨g, i * 3, none⟩) | 10 => u' = .pointer (some ⟨g, i * 3, none⟩) | 11 => u' = .slice Am nm cm | 12 => u' = .int .i64 nm | 13 => u' = .int .i64 q | 14 => u' = .slice Am q cm | 15 => u' = .pointer (some ⟨g, i * 3, none⟩) | 16 => u' = .pointer (some ⟨g, i * 3, none⟩) | _ => True) (by kernel_rfl) (fun w => Below.refl _ _) (fun a b c h1 h2 => h1.trans (h2.mono h1.size)) (by kernel_rfl) (by kernel_rfl) (by kernel_rfl) (by kernel_rfl) (by decide) (by kernel_rfl) ?hG ⟨?o0, ?o1, ?o2, ?o3, ?o4, ?o5, ?o6, ?o7, ?o8, ?o9, ?o10, ?o11, ?o12, ?o13, ?o14, ?o15, ?o16, trivial⟩ ?hend
            case o0 =>
              intro a w hfr hG hd
              refine ⟨fun hw => ?_, fun hw => absurd hw (by simp [Region.wanted])⟩
              have s13 : a.tmps.getD 13 undef = .slice (some ⟨g, 0, none⟩) k1 cs := hfr.at 13 (by kernel_rfl)
              refine op_yields (.slice (some ⟨g, 0, none⟩) k1 cs) ?_ ?_ ?_
              · simp only [execOp, resolve, List.map_toArray, List.map_cons, List.map_nil, Act.eval, s13]; simp [go_sem, -Array.getD_eq_getD_getElem?, s13]
              · exact Below.refl _ _
              · exact (fun _ _ => rfl)
            case o1 =>
              intro a w hfr hG hd
              refine ⟨fun hw => ?_, fun hw => absurd hw (by simp [Region.wanted])⟩
              have s16 : a.tmps.getD 16 undef = .int .i64 i := hfr.at 16 (by kernel_rfl)
              refine op_yields (.int .i64 i) ?_ ?_ ?_
              · simp only [execOp, resolve, List.map_toArray, List.map_cons, List.map_nil, Act.eval, s16]; simp [go_sem, -Array.getD_eq_getD_getElem?, s16]
              · exact Below.refl _ _
              · exact (fun _ _ => rfl)
            case o2 =>
              intro a w hfr hG hd
              refine ⟨fun hw => ?_, fun hw => absurd hw (by simp [Region.wanted])⟩
              have s13 : a.tmps.getD 13 undef = .slice (some ⟨g, 0, none⟩) k1 cs := hfr.at 13 (by kernel_rfl)
              refine op_yields (.slice (some ⟨g, 0, none⟩) k1 cs) ?_ ?_ ?_
              · simp only [execOp, resolve, List.map_toArray, List.map_cons, List.map_nil, Act.eval, s13]; simp [go_sem, -Array.getD_eq_getD_getElem?, s13]
              · exact Below.refl _ _
              · exact (fun _ _ => rfl)
            case o3 =>
              intro a w hfr hG hd
              refine ⟨fun hw => ?_, fun hw => absurd hw (by simp [Region.wanted])⟩
              have s16 : a.tmps.getD 16 undef = .int .i64 i := hfr.at 16 (by kernel_rfl)
              refine op_yields (.int .i64 i) ?_ ?_ ?_
              · simp only [execOp, resolve, List.map_toArray, List.map_cons, List.map_nil, Act.eval, s16]; simp [go_sem, -Array.getD_eq_getD_getElem?, s16]
              · exact Below.refl _ _
              · exact (fun _ _ => rfl)
            case o4 =>
              intro a w hfr hG hd
              obtain ⟨d0, d1, _⟩ := hd
              refine ⟨fun hw => ?_, fun hw => absurd hw (by simp [Region.wanted])⟩
              have s63 : a.tmps.getD 63 undef = .slice (some ⟨g, 0, none⟩) k1 cs := (d0 rfl).now
              have s64 : a.tmps.getD 64 undef = .int .i64 i := (d1 rfl).now
              refine op_yields (.pointer (some ⟨g, i * 3, none⟩)) ?_ ?_ ?_
              · simp only [execOp, resolve, List.map_toArray, List.map_cons, List.map_nil, Act.eval, s63, s64]; simp [go_sem, -Array.getD_eq_getD_getElem?, s63, s64, y3, y4, Addr.add]; exact fun h => h.symm
              · exact Below.refl _ _
              · exact (fun _ _ => rfl)
            case o5 =>
              intro a w hfr hG hd
              obtain ⟨d0, _⟩ := hd
              refine ⟨fun hw => ?_, fun hw => absurd hw (by simp [Region.wanted])⟩
              have s65 : a.tmps.getD 65 undef = .pointer (some ⟨g, i * 3, none⟩) := (d0 rfl).now
              refine op_yields (.pointer (some ⟨g, i * 3, none⟩)) ?_ ?_ ?_
              · simp only [execOp, resolve, List.map_toArray, List.map_cons, List.map_nil, Act.eval, s65]; simp [go_sem, -Array.getD_eq_getD_getElem?, s65]
              · exact Below.refl _ _
              · exact (fun _ _ => rfl)
            case o6 =>
              intro a w hfr hG hd
              obtain ⟨d0, _⟩ := hd
              refine ⟨fun hw => ?_, fun hw => absurd hw (by simp [Region.wanted])⟩
              have s66 : a.tmps.getD 66 undef = .pointer (some ⟨g, i * 3, none⟩) := (d0 rfl).now
              have e9 := (HEL.out w hG.now).1
              refine op_yields (.slice Am nm cm) ?_ ?_ ?_
              · simp only [execOp, resolve, List.map_toArray, List.map_cons, List.map_nil, Act.eval, s66]; simp [go_sem, -Array.getD_eq_getD_getElem?, s66, e9, e9]
              · exact Below.refl _ _
              · exact (fun _ _ => rfl)
            case o7 =>
              intro a w hfr hG hd
              refine ⟨fun hw => ?_, fun hw => absurd hw (by simp [Region.wanted])⟩
              have s13 : a.tmps.getD 13 undef = .slice (some ⟨g, 0, none⟩) k1 cs := hfr.at 13 (by kernel_rfl)
              refine op_yields (.slice (some ⟨g, 0, none⟩) k1 cs) ?_ ?_ ?_
              · simp only [execOp, resolve, List.map_toArray, List.map_cons, List.map_nil, Act.eval, s13]; simp [go_sem, -Array.getD_eq_getD_getElem?, s13]
              · exact Below.refl _ _
              · exact (fun _ _ => rfl)
            case o8 =>
              intro a w hfr hG hd
              refine ⟨fun hw => ?_, fun hw => absurd hw (by simp [Region.wanted])⟩
              have s16 : a.tmps.getD 16 undef = .int .i64 i := hfr.at 16 (by kernel_rfl)
              refine op_yields (.int .i64 i) ?_ ?_ ?_
              · simp only [execOp, resolve, List.map_toArray, List.map_cons, List.map_nil, Act.eval, s16]; simp [go_sem, -Array.getD_eq_getD_getElem?, s16]
              · exact Below.refl _ _
              · exact (fun _ _ => rfl)
            case o9 =>
              intro a w hfr hG hd
              obtain ⟨d0, d1, _⟩ := hd
              refine ⟨fun hw => ?_, fun hw => absurd hw (by simp [Region.wanted])⟩
              have s68 : a.tmps.getD 68 undef = .slice (some ⟨g, 0, none⟩) k1 cs := (d0 rfl).now
              have s69 : a.tmps.getD 69 undef = .int .i64 i := (d1 rfl).now
              refine op_yields (.pointer (some ⟨g, i * 3, none⟩)) ?_ ?_ ?_
              · simp only [execOp, resolve, List.map_toArray, List.map_cons, List.map_nil, Act.eval, s68, s69]; simp [go_sem, -Array.getD_eq_getD_getElem?, s68, s69, y3, y4, Addr.add]; exact fun h => h.symm
              · exact Below.refl _ _
              · exact (fun _ _ => rfl)
            case o10 =>
              intro a w hfr hG hd
              obtain ⟨d0, _⟩ := hd
              refine ⟨fun hw => ?_, fun hw => absurd hw (by simp [Region.wanted])⟩
              have s70 : a.tmps.getD 70 undef = .pointer (some ⟨g, i * 3, none⟩) := (d0 rfl).now
              refine op_yields (.pointer (some ⟨g, i * 3, none⟩)) ?_ ?_ ?_
              · simp only [execOp, resolve, List.map_toArray, List.map_cons, List.map_nil, Act.eval, s70]; simp [go_sem, -Array.getD_eq_getD_getElem?, s70]
              · exact Below.refl _ _
              · exact (fun _ _ => rfl)
            case o11 =>
              intro a w hfr hG hd
              obtain ⟨d0, _⟩ := hd
              refine ⟨fun hw => ?_, fun hw => absurd hw (by simp [Region.wanted])⟩
              have s71 : a.tmps.getD 71 undef = .pointer (some ⟨g, i * 3, none⟩) := (d0 rfl).now
              have e9 := (HEL.out w hG.now).1
              refine op_yields (.slice Am nm cm) ?_ ?_ ?_
              · simp only [execOp, resolve, List.map_toArray, List.map_cons, List.map_nil, Act.eval, s71]; simp [go_sem, -Array.getD_eq_getD_getElem?, s71, e9, e9]
              · exact Below.refl _ _
              · exact (fun _ _ => rfl)
            case o12 =>
              intro a w hfr hG hd
              obtain ⟨d0, _⟩ := hd
              refine ⟨fun hw => ?_, fun hw => absurd hw (by simp [Region.wanted])⟩
              have s72 : a.tmps.getD 72 undef = .slice Am nm cm := (d0 rfl).now
              refine op_yields (.int .i64 nm) ?_ ?_ ?_
              · simp only [execOp, resolve, List.map_toArray, List.map_cons, List.map_nil, Act.eval, s72]; simp [go_sem, -Array.getD_eq_getD_getElem?, s72]
              · exact Below.refl _ _
              · exact (fun _ _ => rfl)
            case o13 =>
              intro a w hfr hG hd
              obtain ⟨d0, _⟩ := hd
              refine ⟨fun hw => ?_, fun hw => absurd hw (by simp [Region.wanted])⟩
              have s73 : a.tmps.getD 73 undef = .int .i64 nm := (d0 rfl).now
              refine op_yields (.int .i64 q) ?_ ?_ ?_
              · simp only [execOp, resolve, List.map_toArray, List.map_cons, List.map_nil, Act.eval, s73]; simp [go_sem, -Array.getD_eq_getD_getElem?, s73, m3]
              · exact Below.refl _ _
              · exact (fun _ _ => rfl)
            case o14 =>
              intro a w hfr hG hd
              obtain ⟨d0, d1, _⟩ := hd
              refine ⟨fun hw => ?_, fun hw => absurd hw (by simp [Region.wanted])⟩
              have s67 : a.tmps.getD 67 undef = .slice Am nm cm := (d0 rfl).now
              have s74 : a.tmps.getD 74 undef = .int .i64 q := (d1 rfl).now
              refine op_yields (.slice Am q cm) ?_ ?_ ?_
              · simp only [execOp, resolve, List.map_toArray, List.map_cons, List.map_nil, Act.eval, s67, s74]; simp [go_sem, -Array.getD_eq_getD_getElem?, s67, s74, v1, v2]
              · exact Below.refl _ _
              · exact (fun _ _ => rfl)
            case o15 =>
              intro a w hfr hG hd
              obtain ⟨d0, d1, d2, d3, d4, d5, d6, d7, d8, d9, d10, d11, d12, d13, d14, d15, d16, _⟩ := hd
              refine ⟨fun hw => ?_, fun hw => absurd hw (by simp [Region.wanted])⟩
              have s61 : a.tmps.getD 61 undef = .slice (some ⟨g, 0, none⟩) k1 cs := (d0 rfl).now
              have s62 : a.tmps.getD 62 undef = .int .i64 i := (d1 rfl).now
              refine op_yields (.pointer (some ⟨g, i * 3, none⟩)) ?_ ?_ ?_
              · simp only [execOp, resolve, List.map_toArray, List.map_cons, List.map_nil, Act.eval, s61, s62]; simp [go_sem, -Array.getD_eq_getD_getElem?, s61, s62, y3, y4, Addr.add]; exact fun h => h.symm
              · exact Below.refl _ _
              · exact (fun _ _ => rfl)
            case o16 =>
              intro a w hfr hG hd
              obtain ⟨d0, d1, d2, d3, d4, d5, d6, d7, d8, d9, d10, d11, d12, d13, d14, d15, _⟩ := hd
              refine ⟨fun hw => ?_, fun hw => absurd hw (by simp [Region.wanted])⟩
              have s76 : a.tmps.getD 76 undef = .pointer (some ⟨g, i * 3, none⟩) := (d0 rfl).now
              refine op_yields (.pointer (some ⟨g, i * 3, none⟩)) ?_ ?_ ?_
              · simp only [execOp, resolve, List.map_toArray, List.map_cons, List.map_nil, Act.eval, s76]; simp [go_sem, -Array.getD_eq_getD_getElem?, s76]
              · exact Below.refl _ _
              · exact (fun _ _ => rfl)
            case hG => exact fun w' hb => HS1.out.below ((Below.refl _ _).drew.trans (hb.mono (by simp)))
            case hend =>
              intro vs w' hG hv
              have key : vs 14 = .slice Am q cm ∧ vs 16 = .pointer (some ⟨g, i * 3, none⟩) := by
                obtain ⟨_, _, _, _, _, _, _, _, _, _, _, _, _, _, h14, _, h16, _⟩ := hv
                exact ⟨h14.now, h16.now⟩
              have hsh := hG.now
              have e3 := (HEL.out w' hsh).1
              have f3 := own_frozenR hsh.s (by omega) (by omega) (i * 3)
              have HS2 := Lib.hid (HPUT.out w' hsh)
              clear hv hG hsh HS1 HEL HPUT
              obtain ⟨e14, e16⟩ := key
              change wpList _ _ _ [_] (putAll vs 0 [_, _, _, _, _, _, _, _, _, _, _, _, _, _, _, _, _] _) _
              simp only [putAll, Act.put, e14, e16]
              clear e14 e16
              simp only [List.setIfInBounds_toArray, List.set_cons_succ, List.set_cons_zero, Nat.reduceAdd]
              go_upto_region 12 with fail
              generalize w'.setCell ⟨g, i * 3, none⟩ (.slice Am q cm) = W2 at *
              clear e3 f3
              obtain ⟨r0, hr0⟩ : ∃ r, (sa.take i).all okSil = r := ⟨_, rfl⟩
              rw [hr0] at HAN2
              rw [hr0]
              clear hr0
              cases r0 with
              | false =>
                have HN := Lib.hid (HAN2.out.trans (Bool.false_and _))
                clear HAN2
                refine wp_region_facts (R := fun a b => Below a.heap.size a b) (G := (fun W => ShAt wz (some ⟨g, 0, none⟩) k1 cs (cutN cutS (i + 1) sa) H k2 ch ha W)) (V := fun i' u' W => match i' with | 0 => u' = .bool false | 1 => u' = .bool false | 2 => True | 3 => True | 4 => True | 5 => True | 6 => True | 7 => True | 8 => True | 9 => True | 10 => True | 11 => True | 12 => True | 13 => u' = .bool false | 14 => u' = .bool false | 15 => True | 16 => True | 17 => True | 18 => True | 19 => True | 20 => True | 21 => u' = .bool false | 22 => u' = .bool false | _ => True) (by kernel_rfl) (fun w => Below.refl _ _) (fun a b c h1 h2 => h1.trans (h2.mono h1.size)) (by kernel_rfl) (by kernel_rfl) ?hG ⟨?o0, ?o1, ?o2, ?o3, ?o4, ?o5, ?o6, ?o7, ?o8, ?o9, ?o10, ?o11, ?o12, ?o13, ?o14, ?o15, ?o16, ?o17, ?o18, ?o19, ?o20, ?o21, ?o22, trivial⟩ ?hend
                case o0 =>
                  intro a w hfr hG hd
                  refine ⟨fun hw => ?_, fun hw => absurd hw (by simp [Region.wanted])⟩
                  have s15 : a.tmps.getD 15 undef = .bool false := hfr.at 15 (by kernel_rfl)
                  refine op_yields (.bool false) ?_ ?_ ?_
                  · simp only [execOp, resolve, List.map_toArray, List.map_cons, List.map_nil, Act.eval, s15]; simp [go_sem, -Array.getD_eq_getD_getElem?, s15]
                  · exact Below.refl _ _
                  · exact (fun _ _ => rfl)
                case o1 =>
                  intro a w hfr hG hd
                  obtain ⟨d0, _⟩ := hd
                  refine ⟨fun hw => ?_, fun hw => absurd hw (by simp [Region.wanted])⟩
                  have s78 : a.tmps.getD 78 undef = .bool false := (d0 rfl).now
                  refine op_yields (.bool false) ?_ ?_ ?_
                  · simp only [execOp, resolve, List.map_toArray, List.map_cons, List.map_nil, Act.eval, s78]; simp [go_sem, -Array.getD_eq_getD_getElem?, s78]
                  · exact Below.refl _ _
                  · exact (fun _ _ => rfl)
                case o2 =>
                  intro a w hfr hG hd
                  obtain ⟨d0, _⟩ := hd
                  have sg : a.tmps.getD 79 undef = .bool false := (d0 rfl).now
                  refine ⟨fun hw => ?_, fun hw => fun _ _ => trivial⟩
                  rw [wanted_of rfl (yielded_of rfl sg)] at hw; exact absurd hw (by decide)
                case o3 =>
                  intro a w hfr hG hd
                  obtain ⟨d0, _⟩ := hd
                  have sg : a.tmps.getD 79 undef = .bool false := (d0 rfl).now
                  refine ⟨fun hw => ?_, fun hw => fun _ _ => trivial⟩
                  rw [wanted_of rfl (yielded_of rfl sg)] at hw; exact absurd hw (by decide)
                case o4 =>
                  intro a w hfr hG hd
                  obtain ⟨d0, d1, d2, _⟩ := hd
                  have sg : a.tmps.getD 79 undef = .bool false := (d2 rfl).now
                  refine ⟨fun hw => ?_, fun hw => fun _ _ => trivial⟩
                  rw [wanted_of rfl (yielded_of rfl sg)] at hw; exact absurd hw (by decide)
                case o5 =>
                  intro a w hfr hG hd
                  obtain ⟨d0, d1, _⟩ := hd
                  have sg : a.tmps.getD 79 undef = .bool false := (d1 rfl).now
                  refine ⟨fun hw => ?_, fun hw => fun _ _ => trivial⟩
                  rw [wanted_of rfl (yielded_of rfl sg)] at hw; exact absurd hw (by decide)
                case o6 =>
                  intro a w hfr hG hd
                  obtain ⟨d0, d1, _⟩ := hd
                  have sg : a.tmps.getD 79 undef = .bool false := (d1 rfl).now
                  refine ⟨fun hw => ?_, fun hw => fun _ _ => trivial⟩
                  rw [wanted_of rfl (yielded_of rfl sg)] at hw; exact absurd hw (by decide)
                case o7 =>
                  intro a w hfr hG hd
                  obtain ⟨d0, _⟩ := hd
                  have sg : a.tmps.getD 79 undef = .bool false := (d0 rfl).now
                  refine ⟨fun hw => ?_, fun hw => fun _ _ => trivial⟩
                  rw [wanted_of rfl (yielded_of rfl sg)] at hw; exact absurd hw (by decide)
                case o8 =>
                  intro a w hfr hG hd
                  obtain ⟨d0, _⟩ := hd
                  have sg : a.tmps.getD 79 undef = .bool false := (d0 rfl).now
                  refine ⟨fun hw => ?_, fun hw => fun _ _ => trivial⟩
                  rw [wanted_of rfl (yielded_of rfl sg)] at hw; exact absurd hw (by decide)
                case o9 =>
                  intro a w hfr hG hd
                  obtain ⟨d0, d1, d2, _⟩ := hd
                  have sg : a.tmps.getD 79 undef = .bool false := (d2 rfl).now
                  refine ⟨fun hw => ?_, fun hw => fun _ _ => trivial⟩
                  rw [wanted_of rfl (yielded_of rfl sg)] at hw; exact absurd hw (by decide)
                case o10 =>
                  intro a w hfr hG hd
                  obtain ⟨d0, d1, _⟩ := hd
                  have sg : a.tmps.getD 79 undef = .bool false := (d1 rfl).now
                  refine ⟨fun hw => ?_, fun hw => fun _ _ => trivial⟩
                  rw [wanted_of rfl (yielded_of rfl sg)] at hw; exact absurd hw (by decide)
                case o11 =>
                  intro a w hfr hG hd
                  obtain ⟨d0, d1, _⟩ := hd
                  have sg : a.tmps.getD 79 undef = .bool false := (d1 rfl).now
                  refine ⟨fun hw => ?_, fun hw => fun _ _ => trivial⟩
                  rw [wanted_of rfl (yielded_of rfl sg)] at hw; exact absurd hw (by decide)
                case o12 =>
                  intro a w hfr hG hd
                  obtain ⟨d0, d1, d2, _⟩ := hd
                  have sg : a.tmps.getD 79 undef = .bool false := (d2 rfl).now
                  refine ⟨fun hw => ?_, fun hw => fun _ _ => trivial⟩
                  rw [wanted_of rfl (yielded_of rfl sg)] at hw; exact absurd hw (by decide)
                case o13 =>
                  intro a w hfr hG hd
                  obtain ⟨d0, d1, _⟩ := hd
                  refine ⟨fun hw => ?_, fun hw => absurd hw (by simp [Region.wanted])⟩
                  have s79 : a.tmps.getD 79 undef = .bool false := (d0 rfl).now
                  refine op_yields (.bool false) ?_ ?_ ?_
                  · simp only [execOp, resolve, List.map_toArray, List.map_cons, List.map_nil, Act.eval, s79]; simp [go_sem, -Array.getD_eq_getD_getElem?, s79]
                  · exact Below.refl _ _
                  · exact (fun _ _ => rfl)
                case o14 =>
                  intro a w hfr hG hd
                  obtain ⟨d0, d1, _⟩ := hd
                  refine ⟨fun hw => ?_, fun hw => absurd hw (by simp [Region.wanted])⟩
                  have s91 : a.tmps.getD 91 undef = .bool false := (d0 rfl).now
                  refine op_yields (.bool false) ?_ ?_ ?_
                  · simp only [execOp, resolve, List.map_toArray, List.map_cons, List.map_nil, Act.eval, s91]; simp [go_sem, -Array.getD_eq_getD_getElem?, s91]
                  · exact Below.refl _ _
                  · exact (fun _ _ => rfl)
                case o15 =>
                  intro a w hfr hG hd
                  obtain ⟨d0, _⟩ := hd
                  have sg : a.tmps.getD 92 undef = .bool false := (d0 rfl).now
                  refine ⟨fun hw => ?_, fun hw => fun _ _ => trivial⟩
                  rw [wanted_of rfl (yielded_of rfl sg)] at hw; exact absurd hw (by decide)
                case o16 =>
                  intro a w hfr hG hd
                  obtain ⟨d0, _⟩ := hd
                  have sg : a.tmps.getD 92 undef = .bool false := (d0 rfl).now
                  refine ⟨fun hw => ?_, fun hw => fun _ _ => trivial⟩
                  rw [wanted_of rfl (yielded_of rfl sg)] at hw; exact absurd hw (by decide)
                case o17 =>
                  intro a w hfr hG hd
                  obtain ⟨d0, d1, d2, _⟩ := hd
                  have sg : a.tmps.getD 92 undef = .bool false := (d2 rfl).now
                  refine ⟨fun hw => ?_, fun hw => fun _ _ => trivial⟩
                  rw [wanted_of rfl (yielded_of rfl sg)] at hw; exact absurd hw (by decide)
                case o18 =>
                  intro a w hfr hG hd
                  obtain ⟨d0, d1, _⟩ := hd
                  have sg : a.tmps.getD 92 undef = .bool false := (d1 rfl).now
                  refine ⟨fun hw => ?_, fun hw => fun _ _ => trivial⟩
                  rw [wanted_of rfl (yielded_of rfl sg)] at hw; exact absurd hw (by decide)
                case o19 =>
                  intro a w hfr hG hd
                  obtain ⟨d0, d1, _⟩ := hd
                  have sg : a.tmps.getD 92 undef = .bool false := (d1 rfl).now
                  refine ⟨fun hw => ?_, fun hw => fun _ _ => trivial⟩
                  rw [wanted_of rfl (yielded_of rfl sg)] at hw; exact absurd hw (by decide)
                case o20 =>
                  intro a w hfr hG hd
                  obtain ⟨d0, d1, d2, _⟩ := hd
                  have sg : a.tmps.getD 92 undef = .bool false := (d1 rfl).now
                  refine ⟨fun hw => ?_, fun hw => fun _ _ => trivial⟩
                  rw [wanted_of rfl (yielded_of rfl sg)] at hw; exact absurd hw (by decide)
                case o21 =>
                  intro a w hfr hG hd
                  obtain ⟨d0, d1, _⟩ := hd
                  refine ⟨fun hw => ?_, fun hw => absurd hw (by simp [Region.wanted])⟩
                  have s92 : a.tmps.getD 92 undef = .bool false := (d0 rfl).now
                  refine op_yields (.bool false) ?_ ?_ ?_
                  · simp only [execOp, resolve, List.map_toArray, List.map_cons, List.map_nil, Act.eval, s92]; simp [go_sem, -Array.getD_eq_getD_getElem?, s92]
                  · exact Below.refl _ _
                  · exact (fun _ _ => rfl)
                case o22 =>
                  intro a w hfr hG hd
                  obtain ⟨d0, d1, d2, d3, d4, d5, d6, d7, d8, d9, d10, d11, d12, d13, d14, d15, d16, d17, d18, d19, d20, d21, d22, d23, _⟩ := hd
                  refine ⟨fun hw => ?_, fun hw => absurd hw (by simp [Region.wanted])⟩
                  have s99 : a.tmps.getD 99 undef = .bool false := (d0 rfl).now
                  refine op_yields (.bool false) ?_ ?_ ?_
                  · simp only [execOp, resolve, List.map_toArray, List.map_cons, List.map_nil, Act.eval, s99]; simp [go_sem, -Array.getD_eq_getD_getElem?, s99]
                  · exact Below.refl _ _
                  · exact (fun _ _ => rfl)
                case hG => exact fun w' hb => HS2.out.below ((Below.refl _ _).drew.trans (hb.mono (by simp)))
                case hend =>
                  intro vs w' hG hv
                  have key : vs 21 = .bool false ∧ vs 22 = .bool false := by
                    obtain ⟨_, _, _, _, _, _, _, _, _, _, _, _, _, _, _, _, _, _, _, _, _, h21, h22, _⟩ := hv
                    exact ⟨h21.now, h22.now⟩
                  have HS3 := Lib.hid hG.now
                  clear hv hG HS2 HEN HMC
                  simp only [putAll, Act.put, key.1, key.2]
                  clear key
                  go_simp
                  go_wp2_with fail
                  go_roundg gr
                  case measure => omega
                  case rel => exact ⟨i + 1, by omega, by go_num, by rw [HN.out], HS3.out⟩
              | true =>
                by_cases h1 : sf ≤ st
                · have HN := Lib.hid (show (sa.take (i + 1)).all okSil = rm from HAN2.out.trans (by rw [decide_eq_true h1, Bool.true_and, Bool.true_and]))
                  clear HAN2
                  generalize rm = r at *
                  refine wp_region_facts (R := fun a b => Below a.heap.size a b) (G := (fun W => ShAt wz (some ⟨g, 0, none⟩) k1 cs (cutN cutS (i + 1) sa) H k2 ch ha W)) (V := fun i' u' W => match i' with | 0 => u' = .bool true | 1 => u' = .bool true | 2 => u' = .slice (some ⟨g, 0, none⟩) k1 cs | 3 => u' = .int .i64 i | 4 => u' = .pointer (some ⟨g, i * 3, none⟩) | 5 => u' = .pointer (some ⟨g, i * 3 + 1, none⟩) | 6 => u' = .int .i64 sf | 7 => u' = .slice (some ⟨g, 0, none⟩) k1 cs | 8 => u' = .int .i64 i | 9 => u' = .pointer (some ⟨g, i * 3, none⟩) | 10 => u' = .pointer (some ⟨g, i * 3 + 2, none⟩) | 11 => u' = .int .i64 st | 12 => u' = .bool true | 13 => u' = .bool true | 14 => u' = .bool true | 15 => u' = .slice (some ⟨g, 0, none⟩) k1 cs | 16 => u' = .int .i64 i | 17 => u' = .pointer (some ⟨g, i * 3, none⟩) | 18 => u' = .pointer (some ⟨g, i * 3, none⟩) | 19 => u' = .slice Am q cm | 20 => u' = .bool r | 21 => u' = .bool r | 22 => u' = .bool r | _ => True) (by kernel_rfl) (fun w => Below.refl _ _) (fun a b c h1 h2 => h1.trans (h2.mono h1.size)) (by kernel_rfl) (by kernel_rfl) ?hG ⟨?o0, ?o1, ?o2, ?o3, ?o4, ?o5, ?o6, ?o7, ?o8, ?o9, ?o10, ?o11, ?o12, ?o13, ?o14, ?o15, ?o16, ?o17, ?o18, ?o19, ?o20, ?o21, ?o22, trivial⟩ ?hend
                  case o0 =>
                    intro a w hfr hG hd
                    refine ⟨fun hw => ?_, fun hw => absurd hw (by simp [Region.wanted])⟩
                    have s15 : a.tmps.getD 15 undef = .bool true := hfr.at 15 (by kernel_rfl)
                    refine op_yields (.bool true) ?_ ?_ ?_
                    · simp only [execOp, resolve, List.map_toArray, List.map_cons, List.map_nil, Act.eval, s15]; simp [go_sem, -Array.getD_eq_getD_getElem?, s15]
                    · exact Below.refl _ _
                    · exact (fun _ _ => rfl)
                  case o1 =>
                    intro a w hfr hG hd
                    obtain ⟨d0, _⟩ := hd
                    refine ⟨fun hw => ?_, fun hw => absurd hw (by simp [Region.wanted])⟩
                    have s78 : a.tmps.getD 78 undef = .bool true := (d0 rfl).now
                    refine op_yields (.bool true) ?_ ?_ ?_
                    · simp only [execOp, resolve, List.map_toArray, List.map_cons, List.map_nil, Act.eval, s78]; simp [go_sem, -Array.getD_eq_getD_getElem?, s78]
                    · exact Below.refl _ _
                    · exact (fun _ _ => rfl)
                  case o2 =>
                    intro a w hfr hG hd
                    obtain ⟨d0, _⟩ := hd
                    have sg : a.tmps.getD 79 undef = .bool true := (d0 rfl).now
                    refine ⟨fun hw => ?_, fun hw => by rw [wanted_of rfl (yielded_of rfl sg)] at hw; exact absurd hw (by decide)⟩
                    have s13 : a.tmps.getD 13 undef = .slice (some ⟨g, 0, none⟩) k1 cs := hfr.at 13 (by kernel_rfl)
                    refine op_yields (.slice (some ⟨g, 0, none⟩) k1 cs) ?_ ?_ ?_
                    · simp only [execOp, resolve, List.map_toArray, List.map_cons, List.map_nil, Act.eval, s13]; simp [go_sem, -Array.getD_eq_getD_getElem?, s13]
                    · exact Below.refl _ _
                    · exact (fun _ _ => rfl)
                  case o3 =>
                    intro a w hfr hG hd
                    obtain ⟨d0, _⟩ := hd
                    have sg : a.tmps.getD 79 undef = .bool true := (d0 rfl).now
                    refine ⟨fun hw => ?_, fun hw => by rw [wanted_of rfl (yielded_of rfl sg)] at hw; exact absurd hw (by decide)⟩
                    have s16 : a.tmps.getD 16 undef = .int .i64 i := hfr.at 16 (by kernel_rfl)
                    refine op_yields (.int .i64 i) ?_ ?_ ?_
                    · simp only [execOp, resolve, List.map_toArray, List.map_cons, List.map_nil, Act.eval, s16]; simp [go_sem, -Array.getD_eq_getD_getElem?, s16]
                    · exact Below.refl _ _
                    · exact (fun _ _ => rfl)
                  case o4 =>
                    intro a w hfr hG hd
                    obtain ⟨d0, d1, d2, _⟩ := hd
                    have sg : a.tmps.getD 79 undef = .bool true := (d2 rfl).now
                    refine ⟨fun hw => ?_, fun hw => by rw [wanted_of rfl (yielded_of rfl sg)] at hw; exact absurd hw (by decide)⟩
                    have s80 : a.tmps.getD 80 undef = .slice (some ⟨g, 0, none⟩) k1 cs := (d0 rfl).now
                    have s81 : a.tmps.getD 81 undef = .int .i64 i := (d1 rfl).now
                    refine op_yields (.pointer (some ⟨g, i * 3, none⟩)) ?_ ?_ ?_
                    · simp only [execOp, resolve, List.map_toArray, List.map_cons, List.map_nil, Act.eval, s80, s81]; simp [go_sem, -Array.getD_eq_getD_getElem?, s80, s81, y3, y4, Addr.add]; exact fun h => h.symm
                    · exact Below.refl _ _
                    · exact (fun _ _ => rfl)
                  case o5 =>
                    intro a w hfr hG hd
                    obtain ⟨d0, d1, _⟩ := hd
                    have sg : a.tmps.getD 79 undef = .bool true := (d1 rfl).now
                    refine ⟨fun hw => ?_, fun hw => by rw [wanted_of rfl (yielded_of rfl sg)] at hw; exact absurd hw (by decide)⟩
                    have s82 : a.tmps.getD 82 undef = .pointer (some ⟨g, i * 3, none⟩) := (d0 rfl).now
                    refine op_yields (.pointer (some ⟨g, i * 3 + 1, none⟩)) ?_ ?_ ?_
                    · simp only [execOp, resolve, List.map_toArray, List.map_cons, List.map_nil, Act.eval, s82]; simp [go_sem, -Array.getD_eq_getD_getElem?, s82]
                    · exact Below.refl _ _
                    · exact (fun _ _ => rfl)
                  case o6 =>
                    intro a w hfr hG hd
                    obtain ⟨d0, d1, _⟩ := hd
                    have sg : a.tmps.getD 79 undef = .bool true := (d1 rfl).now
                    refine ⟨fun hw => ?_, fun hw => by rw [wanted_of rfl (yielded_of rfl sg)] at hw; exact absurd hw (by decide)⟩
                    have s83 : a.tmps.getD 83 undef = .pointer (some ⟨g, i * 3 + 1, none⟩) := (d0 rfl).now
                    have e9 := (HEN.out w hG.now).2.1
                    refine op_yields (.int .i64 sf) ?_ ?_ ?_
                    · simp only [execOp, resolve, List.map_toArray, List.map_cons, List.map_nil, Act.eval, s83]; simp [go_sem, -Array.getD_eq_getD_getElem?, s83, e9, e9]
                    · exact Below.refl _ _
                    · exact (fun _ _ => rfl)
                  case o7 =>
                    intro a w hfr hG hd
                    obtain ⟨d0, _⟩ := hd
                    have sg : a.tmps.getD 79 undef = .bool true := (d0 rfl).now
                    refine ⟨fun hw => ?_, fun hw => by rw [wanted_of rfl (yielded_of rfl sg)] at hw; exact absurd hw (by decide)⟩
                    have s13 : a.tmps.getD 13 undef = .slice (some ⟨g, 0, none⟩) k1 cs := hfr.at 13 (by kernel_rfl)
                    refine op_yields (.slice (some ⟨g, 0, none⟩) k1 cs) ?_ ?_ ?_
                    · simp only [execOp, resolve, List.map_toArray, List.map_cons, List.map_nil, Act.eval, s13]; simp [go_sem, -Array.getD_eq_getD_getElem?, s13]
                    · exact Below.refl _ _
                    · exact (fun _ _ => rfl)
                  case o8 =>
                    intro a w hfr hG hd
                    obtain ⟨d0, _⟩ := hd
                    have sg : a.tmps.getD 79 undef = .bool true := (d0 rfl).now
                    refine ⟨fun hw => ?_, fun hw => by rw [wanted_of rfl (yielded_of rfl sg)] at hw; exact absurd hw (by decide)⟩
                    have s16 : a.tmps.getD 16 undef = .int .i64 i := hfr.at 16 (by kernel_rfl)
                    refine op_yields (.int .i64 i) ?_ ?_ ?_
                    · simp only [execOp, resolve, List.map_toArray, List.map_cons, List.map_nil, Act.eval, s16]; simp [go_sem, -Array.getD_eq_getD_getElem?, s16]
                    · exact Below.refl _ _
                    · exact (fun _ _ => rfl)
                  case o9 =>
                    intro a w hfr hG hd
                    obtain ⟨d0, d1, d2, _⟩ := hd
                    have sg : a.tmps.getD 79 undef = .bool true := (d2 rfl).now
                    refine ⟨fun hw => ?_, fun hw => by rw [wanted_of rfl (yielded_of rfl sg)] at hw; exact absurd hw (by decide)⟩
                    have s85 : a.tmps.getD 85 undef = .slice (some ⟨g, 0, none⟩) k1 cs := (d0 rfl).now
                    have s86 : a.tmps.getD 86 undef = .int .i64 i := (d1 rfl).now
                    refine op_yields (.pointer (some ⟨g, i * 3, none⟩)) ?_ ?_ ?_
                    · simp only [execOp, resolve, List.map_toArray, List.map_cons, List.map_nil, Act.eval, s85, s86]; simp [go_sem, -Array.getD_eq_getD_getElem?, s85, s86, y3, y4, Addr.add]; exact fun h => h.symm
                    · exact Below.refl _ _
                    · exact (fun _ _ => rfl)
                  case o10 =>
                    intro a w hfr hG hd
                    obtain ⟨d0, d1, _⟩ := hd
                    have sg : a.tmps.getD 79 undef = .bool true := (d1 rfl).now
                    refine ⟨fun hw => ?_, fun hw => by rw [wanted_of rfl (yielded_of rfl sg)] at hw; exact absurd hw (by decide)⟩
                    have s87 : a.tmps.getD 87 undef = .pointer (some ⟨g, i * 3, none⟩) := (d0 rfl).now
                    refine op_yields (.pointer (some ⟨g, i * 3 + 2, none⟩)) ?_ ?_ ?_
                    · simp only [execOp, resolve, List.map_toArray, List.map_cons, List.map_nil, Act.eval, s87]; simp [go_sem, -Array.getD_eq_getD_getElem?, s87]
                    · exact Below.refl _ _
                    · exact (fun _ _ => rfl)
                  case o11 =>
                    intro a w hfr hG hd
                    obtain ⟨d0, d1, _⟩ := hd
                    have sg : a.tmps.getD 79 undef = .bool true := (d1 rfl).now
                    refine ⟨fun hw => ?_, fun hw => by rw [wanted_of rfl (yielded_of rfl sg)] at hw; exact absurd hw (by decide)⟩
                    have s88 : a.tmps.getD 88 undef = .pointer (some ⟨g, i * 3 + 2, none⟩) := (d0 rfl).now
                    have e9 := (HEN.out w hG.now).2.2
                    refine op_yields (.int .i64 st) ?_ ?_ ?_
                    · simp only [execOp, resolve, List.map_toArray, List.map_cons, List.map_nil, Act.eval, s88]; simp [go_sem, -Array.getD_eq_getD_getElem?, s88, e9, e9]
                    · exact Below.refl _ _
                    · exact (fun _ _ => rfl)
                  case o12 =>
                    intro a w hfr hG hd
                    obtain ⟨d0, d1, d2, _⟩ := hd
                    have sg : a.tmps.getD 79 undef = .bool true := (d2 rfl).now
                    refine ⟨fun hw => ?_, fun hw => by rw [wanted_of rfl (yielded_of rfl sg)] at hw; exact absurd hw (by decide)⟩
                    have s84 : a.tmps.getD 84 undef = .int .i64 sf := (d0 rfl).now
                    have s89 : a.tmps.getD 89 undef = .int .i64 st := (d1 rfl).now
                    refine op_yields (.bool true) ?_ ?_ ?_
                    · simp only [execOp, resolve, List.map_toArray, List.map_cons, List.map_nil, Act.eval, s84, s89]; simp [go_sem, -Array.getD_eq_getD_getElem?, s84, s89, h1]
                    · exact Below.refl _ _
                    · exact (fun _ _ => rfl)
                  case o13 =>
                    intro a w hfr hG hd
                    obtain ⟨d0, d1, _⟩ := hd
                    refine ⟨fun hw => ?_, fun hw => absurd hw (by simp [Region.wanted])⟩
                    have s79 : a.tmps.getD 79 undef = .bool true := (d0 rfl).now
                    have s90 : a.tmps.getD 90 undef = .bool true := (d1 rfl).now
                    refine op_yields (.bool true) ?_ ?_ ?_
                    · simp only [execOp, resolve, List.map_toArray, List.map_cons, List.map_nil, Act.eval, s79, s90]; simp [go_sem, -Array.getD_eq_getD_getElem?, s79, s90]
                    · exact Below.refl _ _
                    · exact (fun _ _ => rfl)
                  case o14 =>
                    intro a w hfr hG hd
                    obtain ⟨d0, d1, _⟩ := hd
                    refine ⟨fun hw => ?_, fun hw => absurd hw (by simp [Region.wanted])⟩
                    have s91 : a.tmps.getD 91 undef = .bool true := (d0 rfl).now
                    refine op_yields (.bool true) ?_ ?_ ?_
                    · simp only [execOp, resolve, List.map_toArray, List.map_cons, List.map_nil, Act.eval, s91]; simp [go_sem, -Array.getD_eq_getD_getElem?, s91]
                    · exact Below.refl _ _
                    · exact (fun _ _ => rfl)
                  case o15 =>
                    intro a w hfr hG hd
                    obtain ⟨d0, _⟩ := hd
                    have sg : a.tmps.getD 92 undef = .bool true := (d0 rfl).now
                    refine ⟨fun hw => ?_, fun hw => by rw [wanted_of rfl (yielded_of rfl sg)] at hw; exact absurd hw (by decide)⟩
                    have s13 : a.tmps.getD 13 undef = .slice (some ⟨g, 0, none⟩) k1 cs := hfr.at 13 (by kernel_rfl)
                    refine op_yields (.slice (some ⟨g, 0, none⟩) k1 cs) ?_ ?_ ?_
                    · simp only [execOp, resolve, List.map_toArray, List.map_cons, List.map_nil, Act.eval, s13]; simp [go_sem, -Array.getD_eq_getD_getElem?, s13]
                    · exact Below.refl _ _
                    · exact (fun _ _ => rfl)
                  case o16 =>
                    intro a w hfr hG hd
                    obtain ⟨d0, _⟩ := hd
                    have sg : a.tmps.getD 92 undef = .bool true := (d0 rfl).now
                    refine ⟨fun hw => ?_, fun hw => by rw [wanted_of rfl (yielded_of rfl sg)] at hw; exact absurd hw (by decide)⟩
                    have s16 : a.tmps.getD 16 undef = .int .i64 i := hfr.at 16 (by kernel_rfl)
                    refine op_yields (.int .i64 i) ?_ ?_ ?_
                    · simp only [execOp, resolve, List.map_toArray, List.map_cons, List.map_nil, Act.eval, s16]; simp [go_sem, -Array.getD_eq_getD_getElem?, s16]
                    · exact Below.refl _ _
                    · exact (fun _ _ => rfl)
                  case o17 =>
                    intro a w hfr hG hd
                    obtain ⟨d0, d1, d2, _⟩ := hd
                    have sg : a.tmps.getD 92 undef = .bool true := (d2 rfl).now
                    refine ⟨fun hw => ?_, fun hw => by rw [wanted_of rfl (yielded_of rfl sg)] at hw; exact absurd hw (by decide)⟩
                    have s93 : a.tmps.getD 93 undef = .slice (some ⟨g, 0, none⟩) k1 cs := (d0 rfl).now
                    have s94 : a.tmps.getD 94 undef = .int .i64 i := (d1 rfl).now
                    refine op_yields (.pointer (some ⟨g, i * 3, none⟩)) ?_ ?_ ?_
                    · simp only [execOp, resolve, List.map_toArray, List.map_cons, List.map_nil, Act.eval, s93, s94]; simp [go_sem, -Array.getD_eq_getD_getElem?, s93, s94, y3, y4, Addr.add]; exact fun h => h.symm
                    · exact Below.refl _ _
                    · exact (fun _ _ => rfl)
                  case o18 =>
                    intro a w hfr hG hd
                    obtain ⟨d0, d1, _⟩ := hd
                    have sg : a.tmps.getD 92 undef = .bool true := (d1 rfl).now
                    refine ⟨fun hw => ?_, fun hw => by rw [wanted_of rfl (yielded_of rfl sg)] at hw; exact absurd hw (by decide)⟩
                    have s95 : a.tmps.getD 95 undef = .pointer (some ⟨g, i * 3, none⟩) := (d0 rfl).now
                    refine op_yields (.pointer (some ⟨g, i * 3, none⟩)) ?_ ?_ ?_
                    · simp only [execOp, resolve, List.map_toArray, List.map_cons, List.map_nil, Act.eval, s95]; simp [go_sem, -Array.getD_eq_getD_getElem?, s95]
                    · exact Below.refl _ _
                    · exact (fun _ _ => rfl)
                  case o19 =>
                    intro a w hfr hG hd
                    obtain ⟨d0, d1, _⟩ := hd
                    have sg : a.tmps.getD 92 undef = .bool true := (d1 rfl).now
                    refine ⟨fun hw => ?_, fun hw => by rw [wanted_of rfl (yielded_of rfl sg)] at hw; exact absurd hw (by decide)⟩
                    have s96 : a.tmps.getD 96 undef = .pointer (some ⟨g, i * 3, none⟩) := (d0 rfl).now
                    have e9 := (HEN.out w hG.now).1
                    refine op_yields (.slice Am q cm) ?_ ?_ ?_
                    · simp only [execOp, resolve, List.map_toArray, List.map_cons, List.map_nil, Act.eval, s96]; simp [go_sem, -Array.getD_eq_getD_getElem?, s96, e9, e9]
                    · exact Below.refl _ _
                    · exact (fun _ _ => rfl)
                  case o20 =>
                    intro a w hfr hG hd
                    obtain ⟨d0, d1, d2, _⟩ := hd
                    have sg : a.tmps.getD 92 undef = .bool true := (d1 rfl).now
                    refine ⟨fun hw => ?_, fun hw => by rw [wanted_of rfl (yielded_of rfl sg)] at hw; exact absurd hw (by decide)⟩
                    have s97 : a.tmps.getD 97 undef = .slice Am q cm := (d0 rfl).now
                    refine op_calls2 ((HMC.out w hG.now).mono fun e' w' hh => ⟨_, hh.1, hh.2, (fun _ _ => rfl)⟩) ?_
                    simp only [execOp, resolve, List.map_toArray, List.map_cons, List.map_nil, Act.eval, s97]; simp [go_sem, -Array.getD_eq_getD_getElem?, s97]
                  case o21 =>
                    intro a w hfr hG hd
                    obtain ⟨d0, d1, _⟩ := hd
                    refine ⟨fun hw => ?_, fun hw => absurd hw (by simp [Region.wanted])⟩
                    have s92 : a.tmps.getD 92 undef = .bool true := (d0 rfl).now
                    have s98 : a.tmps.getD 98 undef = .bool r := (d1 rfl).now
                    refine op_yields (.bool r) ?_ ?_ ?_
                    · simp only [execOp, resolve, List.map_toArray, List.map_cons, List.map_nil, Act.eval, s92, s98]; simp [go_sem, -Array.getD_eq_getD_getElem?, s92, s98]
                    · exact Below.refl _ _
                    · exact (fun _ _ => rfl)
                  case o22 =>
                    intro a w hfr hG hd
                    obtain ⟨d0, d1, d2, d3, d4, d5, d6, d7, d8, d9, d10, d11, d12, d13, d14, d15, d16, d17, d18, d19, d20, d21, d22, d23, _⟩ := hd
                    refine ⟨fun hw => ?_, fun hw => absurd hw (by simp [Region.wanted])⟩
                    have s99 : a.tmps.getD 99 undef = .bool r := (d0 rfl).now
                    refine op_yields (.bool r) ?_ ?_ ?_
                    · simp only [execOp, resolve, List.map_toArray, List.map_cons, List.map_nil, Act.eval, s99]; simp [go_sem, -Array.getD_eq_getD_getElem?, s99]
                    · exact Below.refl _ _
                    · exact (fun _ _ => rfl)
                  case hG => exact fun w' hb => HS2.out.below ((Below.refl _ _).drew.trans (hb.mono (by simp)))
                  case hend =>
                    intro vs w' hG hv
                    have key : vs 21 = .bool r ∧ vs 22 = .bool r := by
                      obtain ⟨_, _, _, _, _, _, _, _, _, _, _, _, _, _, _, _, _, _, _, _, _, h21, h22, _⟩ := hv
                      exact ⟨h21.now, h22.now⟩
                    have HS3 := Lib.hid hG.now
                    clear hv hG HS2 HEN HMC
                    simp only [putAll, Act.put, key.1, key.2]
                    clear key
                    go_simp
                    go_wp2_with fail
                    go_roundg gr
                    case measure => omega
                    case rel => exact ⟨i + 1, by omega, by go_num, by rw [HN.out], HS3.out⟩
                · have HN := Lib.hid (show (sa.take (i + 1)).all okSil = false from HAN2.out.trans (by rw [decide_eq_false h1, Bool.false_and, Bool.and_false]))
                  clear HAN2
                  refine wp_region_facts (R := fun a b => Below a.heap.size a b) (G := (fun W => ShAt wz (some ⟨g, 0, none⟩) k1 cs (cutN cutS (i + 1) sa) H k2 ch ha W)) (V := fun i' u' W => match i' with | 0 => u' = .bool true | 1 => u' = .bool true | 2 => u' = .slice (some ⟨g, 0, none⟩) k1 cs | 3 => u' = .int .i64 i | 4 => u' = .pointer (some ⟨g, i * 3, none⟩) | 5 => u' = .pointer (some ⟨g, i * 3 + 1, none⟩) | 6 => u' = .int .i64 sf | 7 => u' = .slice (some ⟨g, 0, none⟩) k1 cs | 8 => u' = .int .i64 i | 9 => u' = .pointer (some ⟨g, i * 3, none⟩) | 10 => u' = .pointer (some ⟨g, i * 3 + 2, none⟩) | 11 => u' = .int .i64 st | 12 => u' = .bool false | 13 => u' = .bool false | 14 => u' = .bool false | 15 => True | 16 => True | 17 => True | 18 => True | 19 => True | 20 => True | 21 => u' = .bool false | 22 => u' = .bool false | _ => True) (by kernel_rfl) (fun w => Below.refl _ _) (fun a b c h1 h2 => h1.trans (h2.mono h1.size)) (by kernel_rfl) (by kernel_rfl) ?hG ⟨?o0, ?o1, ?o2, ?o3, ?o4, ?o5, ?o6, ?o7, ?o8, ?o9, ?o10, ?o11, ?o12, ?o13, ?o14, ?o15, ?o16, ?o17, ?o18, ?o19, ?o20, ?o21, ?o22, trivial⟩ ?hend
                  case o0 =>
                    intro a w hfr hG hd
                    refine ⟨fun hw => ?_, fun hw => absurd hw (by simp [Region.wanted])⟩
                    have s15 : a.tmps.getD 15 undef = .bool true := hfr.at 15 (by kernel_rfl)
                    refine op_yields (.bool true) ?_ ?_ ?_
                    · simp only [execOp, resolve, List.map_toArray, List.map_cons, List.map_nil, Act.eval, s15]; simp [go_sem, -Array.getD_eq_getD_getElem?, s15]
                    · exact Below.refl _ _
                    · exact (fun _ _ => rfl)
                  case o1 =>
                    intro a w hfr hG hd
                    obtain ⟨d0, _⟩ := hd
                    refine ⟨fun hw => ?_, fun hw => absurd hw (by simp [Region.wanted])⟩
                    have s78 : a.tmps.getD 78 undef = .bool true := (d0 rfl).now
                    refine op_yields (.bool true) ?_ ?_ ?_
                    · simp only [execOp, resolve, List.map_toArray, List.map_cons, List.map_nil, Act.eval, s78]; simp [go_sem, -Array.getD_eq_getD_getElem?, s78]
                    · exact Below.refl _ _
                    · exact (fun _ _ => rfl)
                  case o2 =>
                    intro a w hfr hG hd
                    obtain ⟨d0, _⟩ := hd
                    have sg : a.tmps.getD 79 undef = .bool true := (d0 rfl).now
                    refine ⟨fun hw => ?_, fun hw => by rw [wanted_of rfl (yielded_of rfl sg)] at hw; exact absurd hw (by decide)⟩
                    have s13 : a.tmps.getD 13 undef = .slice (some ⟨g, 0, none⟩) k1 cs := hfr.at 13 (by kernel_rfl)
                    refine op_yields (.slice (some ⟨g, 0, none⟩) k1 cs) ?_ ?_ ?_
                    · simp only [execOp, resolve, List.map_toArray, List.map_cons, List.map_nil, Act.eval, s13]; simp [go_sem, -Array.getD_eq_getD_getElem?, s13]
                    · exact Below.refl _ _
                    · exact (fun _ _ => rfl)
                  case o3 =>
                    intro a w hfr hG hd
                    obtain ⟨d0, _⟩ := hd
                    have sg : a.tmps.getD 79 undef = .bool true := (d0 rfl).now
                    refine ⟨fun hw => ?_, fun hw => by rw [wanted_of rfl (yielded_of rfl sg)] at hw; exact absurd hw (by decide)⟩
                    have s16 : a.tmps.getD 16 undef = .int .i64 i := hfr.at 16 (by kernel_rfl)
                    refine op_yields (.int .i64 i) ?_ ?_ ?_
                    · simp only [execOp, resolve, List.map_toArray, List.map_cons, List.map_nil, Act.eval, s16]; simp [go_sem, -Array.getD_eq_getD_getElem?, s16]
                    · exact Below.refl _ _
                    · exact (fun _ _ => rfl)
                  case o4 =>
                    intro a w hfr hG hd
                    obtain ⟨d0, d1, d2, _⟩ := hd
                    have sg : a.tmps.getD 79 undef = .bool true := (d2 rfl).now
                    refine ⟨fun hw => ?_, fun hw => by rw [wanted_of rfl (yielded_of rfl sg)] at hw; exact absurd hw (by decide)⟩
                    have s80 : a.tmps.getD 80 undef = .slice (some ⟨g, 0, none⟩) k1 cs := (d0 rfl).now
                    have s81 : a.tmps.getD 81 undef = .int .i64 i := (d1 rfl).now
                    refine op_yields (.pointer (some ⟨g, i * 3, none⟩)) ?_ ?_ ?_
                    · simp only [execOp, resolve, List.map_toArray, List.map_cons, List.map_nil, Act.eval, s80, s81]; simp [go_sem, -Array.getD_eq_getD_getElem?, s80, s81, y3, y4, Addr.add]; exact fun h => h.symm
                    · exact Below.refl _ _
                    · exact (fun _ _ => rfl)
                  case o5 =>
                    intro a w hfr hG hd
                    obtain ⟨d0, d1, _⟩ := hd
                    have sg : a.tmps.getD 79 undef = .bool true := (d1 rfl).now
                    refine ⟨fun hw => ?_, fun hw => by rw [wanted_of rfl (yielded_of rfl sg)] at hw; exact absurd hw (by decide)⟩
                    have s82 : a.tmps.getD 82 undef = .pointer (some ⟨g, i * 3, none⟩) := (d0 rfl).now
                    refine op_yields (.pointer (some ⟨g, i * 3 + 1, none⟩)) ?_ ?_ ?_
                    · simp only [execOp, resolve, List.map_toArray, List.map_cons, List.map_nil, Act.eval, s82]; simp [go_sem, -Array.getD_eq_getD_getElem?, s82]
                    · exact Below.refl _ _
                    · exact (fun _ _ => rfl)
                  case o6 =>
                    intro a w hfr hG hd
                    obtain ⟨d0, d1, _⟩ := hd
                    have sg : a.tmps.getD 79 undef = .bool true := (d1 rfl).now
                    refine ⟨fun hw => ?_, fun hw => by rw [wanted_of rfl (yielded_of rfl sg)] at hw; exact absurd hw (by decide)⟩
                    have s83 : a.tmps.getD 83 undef = .pointer (some ⟨g, i * 3 + 1, none⟩) := (d0 rfl).now
                    have e9 := (HEN.out w hG.now).2.1
                    refine op_yields (.int .i64 sf) ?_ ?_ ?_
                    · simp only [execOp, resolve, List.map_toArray, List.map_cons, List.map_nil, Act.eval, s83]; simp [go_sem, -Array.getD_eq_getD_getElem?, s83, e9, e9]
                    · exact Below.refl _ _
                    · exact (fun _ _ => rfl)
                  case o7 =>
                    intro a w hfr hG hd
                    obtain ⟨d0, _⟩ := hd
                    have sg : a.tmps.getD 79 undef = .bool true := (d0 rfl).now
                    refine ⟨fun hw => ?_, fun hw => by rw [wanted_of rfl (yielded_of rfl sg)] at hw; exact absurd hw (by decide)⟩
                    have s13 : a.tmps.getD 13 undef = .slice (some ⟨g, 0, none⟩) k1 cs := hfr.at 13 (by kernel_rfl)
                    refine op_yields (.slice (some ⟨g, 0, none⟩) k1 cs) ?_ ?_ ?_
                    · simp only [execOp, resolve, List.map_toArray, List.map_cons, List.map_nil, Act.eval, s13]; simp [go_sem, -Array.getD_eq_getD_getElem?, s13]
                    · exact Below.refl _ _
                    · exact (fun _ _ => rfl)
                  case o8 =>
                    intro a w hfr hG hd
                    obtain ⟨d0, _⟩ := hd
                    have sg : a.tmps.getD 79 undef = .bool true := (d0 rfl).now
                    refine ⟨fun hw => ?_, fun hw => by rw [wanted_of rfl (yielded_of rfl sg)] at hw; exact absurd hw (by decide)⟩
                    have s16 : a.tmps.getD 16 undef = .int .i64 i := hfr.at 16 (by kernel_rfl)
                    refine op_yields (.int .i64 i) ?_ ?_ ?_
                    · simp only [execOp, resolve, List.map_toArray, List.map_cons, List.map_nil, Act.eval, s16]; simp [go_sem, -Array.getD_eq_getD_getElem?, s16]
                    · exact Below.refl _ _
                    · exact (fun _ _ => rfl)
                  case o9 =>
                    intro a w hfr hG hd
                    obtain ⟨d0, d1, d2, _⟩ := hd
                    have sg : a.tmps.getD 79 undef = .bool true := (d2 rfl).now
                    refine ⟨fun hw => ?_, fun hw => by rw [wanted_of rfl (yielded_of rfl sg)] at hw; exact absurd hw (by decide)⟩
                    have s85 : a.tmps.getD 85 undef = .slice (some ⟨g, 0, none⟩) k1 cs := (d0 rfl).now
                    have s86 : a.tmps.getD 86 undef = .int .i64 i := (d1 rfl).now
                    refine op_yields (.pointer (some ⟨g, i * 3, none⟩)) ?_ ?_ ?_
                    · simp only [execOp, resolve, List.map_toArray, List.map_cons, List.map_nil, Act.eval, s85, s86]; simp [go_sem, -Array.getD_eq_getD_getElem?, s85, s86, y3, y4, Addr.add]; exact fun h => h.symm
                    · exact Below.refl _ _
                    · exact (fun _ _ => rfl)
                  case o10 =>
                    intro a w hfr hG hd
                    obtain ⟨d0, d1, _⟩ := hd
                    have sg : a.tmps.getD 79 undef = .bool true := (d1 rfl).now
                    refine ⟨fun hw => ?_, fun hw => by rw [wanted_of rfl (yielded_of rfl sg)] at hw; exact absurd hw (by decide)⟩
                    have s87 : a.tmps.getD 87 undef = .pointer (some ⟨g, i * 3, none⟩) := (d0 rfl).now
                    refine op_yields (.pointer (some ⟨g, i * 3 + 2, none⟩)) ?_ ?_ ?_
                    · simp only [execOp, resolve, List.map_toArray, List.map_cons, List.map_nil, Act.eval, s87]; simp [go_sem, -Array.getD_eq_getD_getElem?, s87]
                    · exact Below.refl _ _
                    · exact (fun _ _ => rfl)
                  case o11 =>
                    intro a w hfr hG hd
                    obtain ⟨d0, d1, _⟩ := hd
                    have sg : a.tmps.getD 79 undef = .bool true := (d1 rfl).now
                    refine ⟨fun hw => ?_, fun hw => by rw [wanted_of rfl (yielded_of rfl sg)] at hw; exact absurd hw (by decide)⟩
                    have s88 : a.tmps.getD 88 undef = .pointer (some ⟨g, i * 3 + 2, none⟩) := (d0 rfl).now
                    have e9 := (HEN.out w hG.now).2.2
                    refine op_yields (.int .i64 st) ?_ ?_ ?_
                    · simp only [execOp, resolve, List.map_toArray, List.map_cons, List.map_nil, Act.eval, s88]; simp [go_sem, -Array.getD_eq_getD_getElem?, s88, e9, e9]
                    · exact Below.refl _ _
                    · exact (fun _ _ => rfl)
                  case o12 =>
                    intro a w hfr hG hd
                    obtain ⟨d0, d1, d2, _⟩ := hd
                    have sg : a.tmps.getD 79 undef = .bool true := (d2 rfl).now
                    refine ⟨fun hw => ?_, fun hw => by rw [wanted_of rfl (yielded_of rfl sg)] at hw; exact absurd hw (by decide)⟩
                    have s84 : a.tmps.getD 84 undef = .int .i64 sf := (d0 rfl).now
                    have s89 : a.tmps.getD 89 undef = .int .i64 st := (d1 rfl).now
                    refine op_yields (.bool false) ?_ ?_ ?_
                    · simp only [execOp, resolve, List.map_toArray, List.map_cons, List.map_nil, Act.eval, s84, s89]; simp [go_sem, -Array.getD_eq_getD_getElem?, s84, s89, h1]
                    · exact Below.refl _ _
                    · exact (fun _ _ => rfl)
                  case o13 =>
                    intro a w hfr hG hd
                    obtain ⟨d0, d1, _⟩ := hd
                    refine ⟨fun hw => ?_, fun hw => absurd hw (by simp [Region.wanted])⟩
                    have s79 : a.tmps.getD 79 undef = .bool true := (d0 rfl).now
                    have s90 : a.tmps.getD 90 undef = .bool false := (d1 rfl).now
                    refine op_yields (.bool false) ?_ ?_ ?_
                    · simp only [execOp, resolve, List.map_toArray, List.map_cons, List.map_nil, Act.eval, s79, s90]; simp [go_sem, -Array.getD_eq_getD_getElem?, s79, s90]
                    · exact Below.refl _ _
                    · exact (fun _ _ => rfl)
                  case o14 =>
                    intro a w hfr hG hd
                    obtain ⟨d0, d1, _⟩ := hd
                    refine ⟨fun hw => ?_, fun hw => absurd hw (by simp [Region.wanted])⟩
                    have s91 : a.tmps.getD 91 undef = .bool false := (d0 rfl).now
                    refine op_yields (.bool false) ?_ ?_ ?_
                    · simp only [execOp, resolve, List.map_toArray, List.map_cons, List.map_nil, Act.eval, s91]; simp [go_sem, -Array.getD_eq_getD_getElem?, s91]
                    · exact Below.refl _ _
                    · exact (fun _ _ => rfl)
                  case o15 =>
                    intro a w hfr hG hd
                    obtain ⟨d0, _⟩ := hd
                    have sg : a.tmps.getD 92 undef = .bool false := (d0 rfl).now
                    refine ⟨fun hw => ?_, fun hw => fun _ _ => trivial⟩
                    rw [wanted_of rfl (yielded_of rfl sg)] at hw; exact absurd hw (by decide)
                  case o16 =>
                    intro a w hfr hG hd
                    obtain ⟨d0, _⟩ := hd
                    have sg : a.tmps.getD 92 undef = .bool false := (d0 rfl).now
                    refine ⟨fun hw => ?_, fun hw => fun _ _ => trivial⟩
                    rw [wanted_of rfl (yielded_of rfl sg)] at hw; exact absurd hw (by decide)
                  case o17 =>
                    intro a w hfr hG hd
                    obtain ⟨d0, d1, d2, _⟩ := hd
                    have sg : a.tmps.getD 92 undef = .bool false := (d2 rfl).now
                    refine ⟨fun hw => ?_, fun hw => fun _ _ => trivial⟩
                    rw [wanted_of rfl (yielded_of rfl sg)] at hw; exact absurd hw (by decide)
                  case o18 =>
                    intro a w hfr hG hd
                    obtain ⟨d0, d1, _⟩ := hd
                    have sg : a.tmps.getD 92 undef = .bool false := (d1 rfl).now
                    refine ⟨fun hw => ?_, fun hw => fun _ _ => trivial⟩
                    rw [wanted_of rfl (yielded_of rfl sg)] at hw; exact absurd hw (by decide)
                  case o19 =>
                    intro a w hfr hG hd
                    obtain ⟨d0, d1, _⟩ := hd
                    have sg : a.tmps.getD 92 undef = .bool false := (d1 rfl).now
                    refine ⟨fun hw => ?_, fun hw => fun _ _ => trivial⟩
                    rw [wanted_of rfl (yielded_of rfl sg)] at hw; exact absurd hw (by decide)
                  case o20 =>
                    intro a w hfr hG hd
                    obtain ⟨d0, d1, d2, _⟩ := hd
                    have sg : a.tmps.getD 92 undef = .bool false := (d1 rfl).now
                    refine ⟨fun hw => ?_, fun hw => fun _ _ => trivial⟩
                    rw [wanted_of rfl (yielded_of rfl sg)] at hw; exact absurd hw (by decide)
                  case o21 =>
                    intro a w hfr hG hd
                    obtain ⟨d0, d1, _⟩ := hd
                    refine ⟨fun hw => ?_, fun hw => absurd hw (by simp [Region.wanted])⟩
                    have s92 : a.tmps.getD 92 undef = .bool false := (d0 rfl).now
                    refine op_yields (.bool false) ?_ ?_ ?_
                    · simp only [execOp, resolve, List.map_toArray, List.map_cons, List.map_nil, Act.eval, s92]; simp [go_sem, -Array.getD_eq_getD_getElem?, s92]
                    · exact Below.refl _ _
                    · exact (fun _ _ => rfl)
                  case o22 =>
                    intro a w hfr hG hd
                    obtain ⟨d0, d1, d2, d3, d4, d5, d6, d7, d8, d9, d10, d11, d12, d13, d14, d15, d16, d17, d18, d19, d20, d21, d22, d23, _⟩ := hd
                    refine ⟨fun hw => ?_, fun hw => absurd hw (by simp [Region.wanted])⟩
                    have s99 : a.tmps.getD 99 undef = .bool false := (d0 rfl).now
                    refine op_yields (.bool false) ?_ ?_ ?_
                    · simp only [execOp, resolve, List.map_toArray, List.map_cons, List.map_nil, Act.eval, s99]; simp [go_sem, -Array.getD_eq_getD_getElem?, s99]
                    · exact Below.refl _ _
                    · exact (fun _ _ => rfl)
                  case hG => exact fun w' hb => HS2.out.below ((Below.refl _ _).drew.trans (hb.mono (by simp)))
                  case hend =>
                    intro vs w' hG hv
                    have key : vs 21 = .bool false ∧ vs 22 = .bool false := by
                      obtain ⟨_, _, _, _, _, _, _, _, _, _, _, _, _, _, _, _, _, _, _, _, _, h21, h22, _⟩ := hv
                      exact ⟨h21.now, h22.now⟩
                    have HS3 := Lib.hid hG.now
                    clear hv hG HS2 HEN HMC
                    simp only [putAll, Act.put, key.1, key.2]
                    clear key
                    go_simp
                    go_wp2_with fail
                    go_roundg gr
                    case measure => omega
                    case rel => exact ⟨i + 1, by omega, by go_num, by rw [HN.out], HS3.out⟩
      case rest =>
        obtain ⟨rfl, hsh⟩ := hcut
        have HS1 := Lib.hid hsh
        clear hsh HSH
        obtain ⟨rz, hrz⟩ : ∃ r, (sa.map cutS).all rightSil = r := ⟨_, rfl⟩
        rw [hrz]
        have HRZ := Lib.hid hrz
        clear hrz
        have hil0 := HIL.out
        go_upto_block 4 with fail
        go_cut [15, 17, 19] from 103 to 201 (fun x15 x17 x19 wx => x15 = .bool (rz && (ha.map cutI).all rightInh) ∧ ShAt wz S k1 cs (sa.map cutS) H k2 ch (ha.map cutI) wx)
        case first => --done3
          go_wp2_with fail
          go_loopg [15, 17, 19, 103] k2 (fun g x15 x17 x19 x103 wr => ∃ i : Nat, i + g = k2 ∧ x103 = .int .i64 i ∧ x15 = .bool (rz && (ha.take i).all fun h => rightInh (cutI h)) ∧ ShAt wz S k1 cs (sa.map cutS) H k2 ch (cutN cutI i ha) wr)
          case atStart => exact ⟨0, by omega, rfl, by simp, by rw [cutN_zero]; exact HS1.out⟩
          case round =>
            obtain ⟨i, hig, rfl, rfl, hsh⟩ := hrel
            have HS2 := Lib.hid hsh
            clear hsh HS1
            cases gk with
            | zero =>
              obtain rfl : i = k2 := by omega
              have HE := Lib.hid (show ((ha.take i).all fun h => rightInh (cutI h)) = (ha.map cutI).all rightInh by
                rw [List.take_of_length_le (by rw [HIL.out]; exact Nat.le_refl _), List.all_map]
                rfl)
              have HC := Lib.hid (show cutN cutI i ha = ha.map cutI from cutN_all (by rw [HIL.out]; exact Nat.le_refl _))
              go_wp2_with fail
              go_meet
              exact ⟨by rw [HE.out], by rw [← HC.out]; exact HS2.out⟩
            | succ gr =>
              have hil : i < ha.length := by omega
              have hi1 : i < k2 := by omega
              obtain ⟨g, cg, hX, _, _, _⟩ := own_formR HS2.out.h (by omega) (by omega)
              injection hX with hX _ hcg
              subst hX hcg
              have hsrc := HIA.out.src ha[i] (List.getElem_mem hil)
              have hdst := HIA.out.dst ha[i] (List.getElem_mem hil)
              have heq := HIA.out.eq ha[i] (List.getElem_mem hil)
              have HMZ := Lib.hid (HZI.out ha[i] (List.getElem_mem hil))
              have HAN := Lib.hid (show ((ha.take (i + 1)).all fun h => rightInh (cutI h)) = (((ha.take i).all fun h => rightInh (cutI h)) && rightInh (cutI ha[i])) from all_next hil)
              have HEL := Lib.hid (show ∀ W : World, ShAt wz S k1 cs (sa.map cutS) (some ⟨g, 0, none⟩) k2 ch (cutN cutI i ha) W → W.cell? ⟨g, i * 3, none⟩ = some ha[i].vs ∧ W.cell? ⟨g, i * 3 + 1, none⟩ = some ha[i].vd ∧ W.cell? ⟨g, i * 3 + 2, none⟩ = some ha[i].ve from fun W h => by
                have h1 := h.cellH (j := i) (by rw [cutN_len]; exact hil)
                rw [cutN_get hil] at h1
                exact h1)
              have HEN := Lib.hid (show ∀ W : World, ShAt wz S k1 cs (sa.map cutS) (some ⟨g, 0, none⟩) k2 ch (cutN cutI (i + 1) ha) W → W.cell? ⟨g, i * 3, none⟩ = some (cutV ha[i].vs) ∧ W.cell? ⟨g, i * 3 + 1, none⟩ = some (cutV ha[i].vd) ∧ W.cell? ⟨g, i * 3 + 2, none⟩ = some (cutV ha[i].ve) from fun W h => by
                have h1 := h.cellH (j := i) (by rw [cutN_len]; exact hil)
                rw [cutN_self hil] at h1
                exact h1)
              have HPUT := Lib.hid (fun (V : World) (h : ShAt wz S k1 cs (sa.map cutS) (some ⟨g, 0, none⟩) k2 ch (cutN cutI i ha) V) => h.cutI' hil ⟨hsrc, hdst, heq⟩)
              have HM1 := Lib.hid (show ∀ V : World, ShAt wz S k1 cs (sa.map cutS) (some ⟨g, 0, none⟩) k2 ch (cutN cutI (i + 1) ha) V → Calls Try.prog 13 #[cutV ha[i].vs] V fun e w' => e = .returned (.bool (rightM (ha[i].src.take 7))) ∧ Below V.heap.size V w' from fun V h => matchers_any _ _ V (hsrc.cut.below h.bel) (mtsOk_take HMZ.out.1))
              have HM2 := Lib.hid (show ∀ V : World, ShAt wz S k1 cs (sa.map cutS) (some ⟨g, 0, none⟩) k2 ch (cutN cutI (i + 1) ha) V → Calls Try.prog 13 #[cutV ha[i].vd] V fun e w' => e = .returned (.bool (rightM (ha[i].dst.take 7))) ∧ Below V.heap.size V w' from fun V h => matchers_any _ _ V (hdst.cut.below h.bel) (mtsOk_take HMZ.out.2.1))
              have HQ := Lib.hid (show ∀ V : World, ShAt wz S k1 cs (sa.map cutS) (some ⟨g, 0, none⟩) k2 ch (cutN cutI (i + 1) ha) V → HasS V (cutV ha[i].ve) (ha[i].eq.take 7) from fun V h => heq.cut.below h.bel)
              have HQZ : Hid (∀ x ∈ ha[i].eq.take 7, x.size ≤ maxLen) := Lib.hid (fun x hx => HMZ.out.2.2 x (List.mem_of_mem_take hx))
              have hq7 : (ha[i].eq.take 7).length ≤ 7 := by rw [List.length_take]; omega
              generalize ha[i] = hx at *
              obtain ⟨vs, src, vd, dst, ve, eq⟩ := hx
              simp only at hsrc hdst heq HEL HEN HPUT HM1 HM2 HQ HQZ hq7
              obtain ⟨As, cAs, rfl, _, hns, hcs'⟩ := hsrc
              obtain ⟨Ad, cAd, rfl, _, hnd, hcd'⟩ := hdst
              obtain ⟨Ae, cAe, rfl, _, hne, hce'⟩ := heq
              have HAN2 := Lib.hid (show ((ha.take (i + 1)).all fun h => rightInh (cutI h)) = (((ha.take i).all fun h => rightInh (cutI h)) && (rightM (src.take 7) && (rightM (dst.take 7) && (decide ((eq.take 7).length ≤ 6) && (eq.take 7).all wordF)))) from HAN.out)
              clear HAN HMZ
              simp only [cutV] at HEN HPUT HM1 HM2 HQ
              have hle : min eq.length 7 = (eq.take 7).length := by rw [List.length_take, Nat.min_comm]
              rw [hle] at HEN HPUT HQ
              have m5' : min (eq.length : Int) 7 = ((eq.take 7).length : Int) := by omega
              have v5' : ((eq.take 7).length : Int) ≤ cAe := by omega
              generalize eq.take 7 = eq7 at *
              generalize eq.length = nae at *
              generalize src.length = nas at *
              generalize dst.length = nad at *
              clear hle
              obtain ⟨qe, hqe⟩ : ∃ q, eq7.length = q := ⟨_, rfl⟩
              rw [hqe] at HEN HPUT HQ HAN2 m5' v5' hq7
              have HQE := Lib.hid hqe
              have m5 := m5'
              have v5 := v5'
              have v6 : (0 : Int) ≤ qe := by omega
              clear hqe m5' v5'
              obtain ⟨qs, hqs⟩ : ∃ q, min nas 7 = q := ⟨_, rfl⟩
              obtain ⟨qd, hqd⟩ : ∃ q, min nad 7 = q := ⟨_, rfl⟩
              rw [hqs] at HEN HPUT HM1
              rw [hqd] at HEN HPUT HM2
              have m3 : min (nas : Int) 7 = (qs : Int) := by omega
              have m4 : min (nad : Int) 7 = (qd : Int) := by omega
              have v1 : (qs : Int) ≤ cAs := by omega
              have v2 : (0 : Int) ≤ qs := by omega
              have v3 : (qd : Int) ≤ cAd := by omega
              have v4 : (0 : Int) ≤ qd := by omega
              have y3 : (0 : Int) ≤ i := by omega
              have y4 : (i : Int) < k2 := by omega
              clear hqs hqd hns hnd hne
              obtain ⟨rs, hrs1⟩ : ∃ r, rightM (src.take 7) = r := ⟨_, rfl⟩
              obtain ⟨rd, hrd1⟩ : ∃ r, rightM (dst.take 7) = r := ⟨_, rfl⟩
              rw [hrs1] at HM1 HAN2
              rw [hrd1] at HM2 HAN2
              clear hrs1 hrd1
              go_upto_region 17 with fail
              have HS2d := Lib.hid (HS2.out.drewN 1)
              obtain ⟨wd, hwd⟩ : ∃ W : World, { wr with drawn := wr.drawn + 1 } = W := ⟨_, rfl⟩
              have HS2e := Lib.hid (show ShAt wz S k1 cs (sa.map cutS) (some ⟨g, 0, none⟩) k2 ch (cutN cutI i ha) wd from by rw [← hwd]; exact HS2d.out)
              obtain ⟨c0', c1', c2'⟩ := HEL.out _ HS2e.out
              have f0 := own_frozenR HS2e.out.h (by omega) (by omega) (i * 3)
              have f1 := own_frozenR HS2e.out.h (by omega) (by omega) (i * 3 + 1)
              have f2 := own_frozenR HS2e.out.h (by omega) (by omega) (i * 3 + 2)
              have HS3 := Lib.hid (HPUT.out wd HS2e.out)
              clear HEL HPUT HS2d HS2
              refine wp_region_writes (I := fun L W => W = (if L 53 = true then (((wd.setCell ⟨g, i * 3, none⟩ (.slice As qs cAs)).setCell ⟨g, i * 3 + 1, none⟩ (.slice Ad qd cAd)).setCell ⟨g, i * 3 + 2, none⟩ (.slice Ae qe cAe)) else if L 50 = true then ((wd.setCell ⟨g, i * 3, none⟩ (.slice As qs cAs)).setCell ⟨g, i * 3 + 1, none⟩ (.slice Ad qd cAd)) else if L 47 = true then (wd.setCell ⟨g, i * 3, none⟩ (.slice As qs cAs)) else wd)) (V := fun i' u' => match i' with | 0 => u' = .slice (some ⟨g, 0, none⟩) k2 ch | 1 => u' = .int .i64 i | 2 => u' = .slice (some ⟨g, 0, none⟩) k2 ch | 3 => u' = .int .i64 i | 4 => u' = .slice (some ⟨g, 0, none⟩) k2 ch | 5 => u' = .int .i64 i | 6 => u' = .slice (some ⟨g, 0, none⟩) k2 ch | 7 => u' = .int .i64 i | 8 => u' = .pointer (some ⟨g, i * 3, none⟩) | 9 => u' = .pointer (some ⟨g, i * 3, none⟩) | 10 => u' = .slice As nas cAs | 11 => u' = .slice (some ⟨g, 0, none⟩) k2 ch | 12 => u' = .int .i64 i | 13 => u' = .pointer (some ⟨g, i * 3, none⟩) | 14 => u' = .pointer (some ⟨g, i * 3, none⟩) | 15 => u' = .slice As nas cAs | 16 => u' = .int .i64 nas | 17 => u' = .int .i64 qs | 18 => u' = .slice As qs cAs | 19 => u' = .slice (some ⟨g, 0, none⟩) k2 ch | 20 => u' = .int .i64 i | 21 => u' = .pointer (some ⟨g, i * 3, none⟩) | 22 => u' = .pointer (some ⟨g, i * 3 + 1, none⟩) | 23 => u' = .slice Ad nad cAd | 24 => u' = .slice (some ⟨g, 0, none⟩) k2 ch | 25 => u' = .int .i64 i | 26 => u' = .pointer (some ⟨g, i * 3, none⟩) | 27 => u' = .pointer (some ⟨g, i * 3 + 1, none⟩) | 28 => u' = .slice Ad nad cAd | 29 => u' = .int .i64 nad | 30 => u' = .int .i64 qd | 31 => u' = .slice Ad qd cAd | 32 => u' = .slice (some ⟨g, 0, none⟩) k2 ch | 33 => u' = .int .i64 i | 34 => u' = .pointer (some ⟨g, i * 3, none⟩) | 35 => u' = .pointer (some ⟨g, i * 3 + 2, none⟩) | 36 => u' = .slice Ae nae cAe | 37 => u' = .slice (some ⟨g, 0, none⟩) k2 ch | 38 => u' = .int .i64 i | 39 => u' = .pointer (some ⟨g, i * 3, none⟩) | 40 => u' = .pointer (some ⟨g, i * 3 + 2, none⟩) | 41 => u' = .slice Ae nae cAe | 42 => u' = .int .i64 nae | 43 => u' = .int .i64 qe | 44 => u' = .slice Ae qe cAe | 45 => u' = .pointer (some ⟨g, i * 3, none⟩) | 46 => u' = .pointer (some ⟨g, i * 3, none⟩) | 47 => True | 48 => u' = .pointer (some ⟨g, i * 3, none⟩) | 49 => u' = .pointer (some ⟨g, i * 3 + 1, none⟩) | 50 => True | 51 => u' = .pointer (some ⟨g, i * 3, none⟩) | 52 => u' = .pointer (some ⟨g, i * 3 + 2, none⟩) | 53 => True | _ => True) (by kernel_rfl) (by kernel_rfl) (by kernel_rfl) ?hI ⟨?o0, ?o1, ?o2, ?o3, ?o4, ?o5, ?o6, ?o7, ?o8, ?o9, ?o10, ?o11, ?o12, ?o13, ?o14, ?o15, ?o16, ?o17, ?o18, ?o19, ?o20, ?o21, ?o22, ?o23, ?o24, ?o25, ?o26, ?o27, ?o28, ?o29, ?o30, ?o31, ?o32, ?o33, ?o34, ?o35, ?o36, ?o37, ?o38, ?o39, ?o40, ?o41, ?o42, ?o43, ?o44, ?o45, ?o46, ?o47, ?o48, ?o49, ?o50, ?o51, ?o52, ?o53, trivial⟩ ?hend
              case o0 =>
                intro a w L hfr hI hs hd
                have s14 : a.tmps.getD 14 undef = .slice (some ⟨g, 0, none⟩) k2 ch := hfr.at 14 (by kernel_rfl)
                refine ⟨fun hw => ?_, fun hw => absurd hw (by simp [Region.wanted])⟩
                refine opw_yields (w' := w) (.slice (some ⟨g, 0, none⟩) k2 ch) ?_ rfl ?_
                · simp only [execOp, resolve, List.map_toArray, List.map_cons, List.map_nil, Act.eval, s14]; simp [go_sem, -Array.getD_eq_getD_getElem?, s14]
                · simpa [upd] using hI
              case o1 =>
                intro a w L hfr hI hs hd
                have s17 : a.tmps.getD 17 undef = .int .i64 i := hfr.at 17 (by kernel_rfl)
                refine ⟨fun hw => ?_, fun hw => absurd hw (by simp [Region.wanted])⟩
                refine opw_yields (w' := w) (.int .i64 i) ?_ rfl ?_
                · simp only [execOp, resolve, List.map_toArray, List.map_cons, List.map_nil, Act.eval, s17]; simp [go_sem, -Array.getD_eq_getD_getElem?, s17]
                · simpa [upd] using hI
              case o2 =>
                intro a w L hfr hI hs hd
                obtain ⟨d0, _⟩ := hd
                have s14 : a.tmps.getD 14 undef = .slice (some ⟨g, 0, none⟩) k2 ch := hfr.at 14 (by kernel_rfl)
                refine ⟨fun hw => ?_, fun hw => absurd hw (by simp [Region.wanted])⟩
                refine opw_yields (w' := w) (.slice (some ⟨g, 0, none⟩) k2 ch) ?_ rfl ?_
                · simp only [execOp, resolve, List.map_toArray, List.map_cons, List.map_nil, Act.eval, s14]; simp [go_sem, -Array.getD_eq_getD_getElem?, s14]
                · simpa [upd] using hI
              case o3 =>
                intro a w L hfr hI hs hd
                obtain ⟨d0, _⟩ := hd
                have s17 : a.tmps.getD 17 undef = .int .i64 i := hfr.at 17 (by kernel_rfl)
                refine ⟨fun hw => ?_, fun hw => absurd hw (by simp [Region.wanted])⟩
                refine opw_yields (w' := w) (.int .i64 i) ?_ rfl ?_
                · simp only [execOp, resolve, List.map_toArray, List.map_cons, List.map_nil, Act.eval, s17]; simp [go_sem, -Array.getD_eq_getD_getElem?, s17]
                · simpa [upd] using hI
              case o4 =>
                intro a w L hfr hI hs hd
                obtain ⟨d0, _⟩ := hd
                have s14 : a.tmps.getD 14 undef = .slice (some ⟨g, 0, none⟩) k2 ch := hfr.at 14 (by kernel_rfl)
                refine ⟨fun hw => ?_, fun hw => absurd hw (by simp [Region.wanted])⟩
                refine opw_yields (w' := w) (.slice (some ⟨g, 0, none⟩) k2 ch) ?_ rfl ?_
                · simp only [execOp, resolve, List.map_toArray, List.map_cons, List.map_nil, Act.eval, s14]; simp [go_sem, -Array.getD_eq_getD_getElem?, s14]
                · simpa [upd] using hI
              case o5 =>
                intro a w L hfr hI hs hd
                obtain ⟨d0, _⟩ := hd
                have s17 : a.tmps.getD 17 undef = .int .i64 i := hfr.at 17 (by kernel_rfl)
                refine ⟨fun hw => ?_, fun hw => absurd hw (by simp [Region.wanted])⟩
                refine opw_yields (w' := w) (.int .i64 i) ?_ rfl ?_
                · simp only [execOp, resolve, List.map_toArray, List.map_cons, List.map_nil, Act.eval, s17]; simp [go_sem, -Array.getD_eq_getD_getElem?, s17]
                · simpa [upd] using hI
              case o6 =>
                intro a w L hfr hI hs hd
                have s14 : a.tmps.getD 14 undef = .slice (some ⟨g, 0, none⟩) k2 ch := hfr.at 14 (by kernel_rfl)
                refine ⟨fun hw => ?_, fun hw => absurd hw (by simp [Region.wanted])⟩
                refine opw_yields (w' := w) (.slice (some ⟨g, 0, none⟩) k2 ch) ?_ rfl ?_
                · simp only [execOp, resolve, List.map_toArray, List.map_cons, List.map_nil, Act.eval, s14]; simp [go_sem, -Array.getD_eq_getD_getElem?, s14]
                · simpa [upd] using hI
              case o7 =>
                intro a w L hfr hI hs hd
                have s17 : a.tmps.getD 17 undef = .int .i64 i := hfr.at 17 (by kernel_rfl)
                refine ⟨fun hw => ?_, fun hw => absurd hw (by simp [Region.wanted])⟩
                refine opw_yields (w' := w) (.int .i64 i) ?_ rfl ?_
                · simp only [execOp, resolve, List.map_toArray, List.map_cons, List.map_nil, Act.eval, s17]; simp [go_sem, -Array.getD_eq_getD_getElem?, s17]
                · simpa [upd] using hI
              case o8 =>
                intro a w L hfr hI hs hd
                obtain ⟨d0, d1, _⟩ := hd
                have s112 : a.tmps.getD 112 undef = .slice (some ⟨g, 0, none⟩) k2 ch := d0 rfl
                have s113 : a.tmps.getD 113 undef = .int .i64 i := d1 rfl
                refine ⟨fun hw => ?_, fun hw => absurd hw (by simp [Region.wanted])⟩
                refine opw_yields (w' := w) (.pointer (some ⟨g, i * 3, none⟩)) ?_ rfl ?_
                · simp only [execOp, resolve, List.map_toArray, List.map_cons, List.map_nil, Act.eval, s112, s113]; simp [go_sem, -Array.getD_eq_getD_getElem?, s112, s113, y3, y4, Addr.add]; exact fun h => h.symm
                · simpa [upd] using hI
              case o9 =>
                intro a w L hfr hI hs hd
                obtain ⟨d0, _⟩ := hd
                have s114 : a.tmps.getD 114 undef = .pointer (some ⟨g, i * 3, none⟩) := d0 rfl
                refine ⟨fun hw => ?_, fun hw => absurd hw (by simp [Region.wanted])⟩
                refine opw_yields (w' := w) (.pointer (some ⟨g, i * 3, none⟩)) ?_ rfl ?_
                · simp only [execOp, resolve, List.map_toArray, List.map_cons, List.map_nil, Act.eval, s114]; simp [go_sem, -Array.getD_eq_getD_getElem?, s114]
                · simpa [upd] using hI
              case o10 =>
                intro a w L hfr hI hs hd
                obtain ⟨d0, _⟩ := hd
                have s115 : a.tmps.getD 115 undef = .pointer (some ⟨g, i * 3, none⟩) := d0 rfl
                refine ⟨fun hw => ?_, fun hw => absurd hw (by simp [Region.wanted])⟩
                have q47 : L 47 = false := hs.not hs.self 47 (by kernel_rfl)
                have q50 : L 50 = false := hs.not q47 50 (by kernel_rfl)
                have q53 : L 53 = false := hs.not q50 53 (by kernel_rfl)
                have hw0 : w = wd := by have h := hI; simpa only [q47, q50, q53, if_true, if_false, Bool.false_eq_true] using h
                refine opw_yields (w' := w) (.slice As nas cAs) ?_ rfl ?_
                · rw [hw0]; simp only [execOp, resolve, List.map_toArray, List.map_cons, List.map_nil, Act.eval, s115]; simp [go_sem, -Array.getD_eq_getD_getElem?, s115, c0']
                · simpa [upd] using hI
              case o11 =>
                intro a w L hfr hI hs hd
                have s14 : a.tmps.getD 14 undef = .slice (some ⟨g, 0, none⟩) k2 ch := hfr.at 14 (by kernel_rfl)
                refine ⟨fun hw => ?_, fun hw => absurd hw (by simp [Region.wanted])⟩
                refine opw_yields (w' := w) (.slice (some ⟨g, 0, none⟩) k2 ch) ?_ rfl ?_
                · simp only [execOp, resolve, List.map_toArray, List.map_cons, List.map_nil, Act.eval, s14]; simp [go_sem, -Array.getD_eq_getD_getElem?, s14]
                · simpa [upd] using hI
              case o12 =>
                intro a w L hfr hI hs hd
                have s17 : a.tmps.getD 17 undef = .int .i64 i := hfr.at 17 (by kernel_rfl)
                refine ⟨fun hw => ?_, fun hw => absurd hw (by simp [Region.wanted])⟩
                refine opw_yields (w' := w) (.int .i64 i) ?_ rfl ?_
                · simp only [execOp, resolve, List.map_toArray, List.map_cons, List.map_nil, Act.eval, s17]; simp [go_sem, -Array.getD_eq_getD_getElem?, s17]
                · simpa [upd] using hI
              case o13 =>
                intro a w L hfr hI hs hd
                obtain ⟨d0, d1, _⟩ := hd
                have s117 : a.tmps.getD 117 undef = .slice (some ⟨g, 0, none⟩) k2 ch := d0 rfl
                have s118 : a.tmps.getD 118 undef = .int .i64 i := d1 rfl
                refine ⟨fun hw => ?_, fun hw => absurd hw (by simp [Region.wanted])⟩
                refine opw_yields (w' := w) (.pointer (some ⟨g, i * 3, none⟩)) ?_ rfl ?_
                · simp only [execOp, resolve, List.map_toArray, List.map_cons, List.map_nil, Act.eval, s117, s118]; simp [go_sem, -Array.getD_eq_getD_getElem?, s117, s118, y3, y4, Addr.add]; exact fun h => h.symm
                · simpa [upd] using hI
              case o14 =>
                intro a w L hfr hI hs hd
                obtain ⟨d0, _⟩ := hd
                have s119 : a.tmps.getD 119 undef = .pointer (some ⟨g, i * 3, none⟩) := d0 rfl
                refine ⟨fun hw => ?_, fun hw => absurd hw (by simp [Region.wanted])⟩
                refine opw_yields (w' := w) (.pointer (some ⟨g, i * 3, none⟩)) ?_ rfl ?_
                · simp only [execOp, resolve, List.map_toArray, List.map_cons, List.map_nil, Act.eval, s119]; simp [go_sem, -Array.getD_eq_getD_getElem?, s119]
                · simpa [upd] using hI
              case o15 =>
                intro a w L hfr hI hs hd
                obtain ⟨d0, _⟩ := hd
                have s120 : a.tmps.getD 120 undef = .pointer (some ⟨g, i * 3, none⟩) := d0 rfl
                refine ⟨fun hw => ?_, fun hw => absurd hw (by simp [Region.wanted])⟩
                have q47 : L 47 = false := hs.not hs.self 47 (by kernel_rfl)
                have q50 : L 50 = false := hs.not q47 50 (by kernel_rfl)
                have q53 : L 53 = false := hs.not q50 53 (by kernel_rfl)
                have hw0 : w = wd := by have h := hI; simpa only [q47, q50, q53, if_true, if_false, Bool.false_eq_true] using h
                refine opw_yields (w' := w) (.slice As nas cAs) ?_ rfl ?_
                · rw [hw0]; simp only [execOp, resolve, List.map_toArray, List.map_cons, List.map_nil, Act.eval, s120]; simp [go_sem, -Array.getD_eq_getD_getElem?, s120, c0']
                · simpa [upd] using hI
              case o16 =>
                intro a w L hfr hI hs hd
                obtain ⟨d0, _⟩ := hd
                have s121 : a.tmps.getD 121 undef = .slice As nas cAs := d0 rfl
                refine ⟨fun hw => ?_, fun hw => absurd hw (by simp [Region.wanted])⟩
                refine opw_yields (w' := w) (.int .i64 nas) ?_ rfl ?_
                · simp only [execOp, resolve, List.map_toArray, List.map_cons, List.map_nil, Act.eval, s121]; simp [go_sem, -Array.getD_eq_getD_getElem?, s121]
                · simpa [upd] using hI
              case o17 =>
                intro a w L hfr hI hs hd
                obtain ⟨d0, _⟩ := hd
                have s122 : a.tmps.getD 122 undef = .int .i64 nas := d0 rfl
                refine ⟨fun hw => ?_, fun hw => absurd hw (by simp [Region.wanted])⟩
                refine opw_yields (w' := w) (.int .i64 qs) ?_ rfl ?_
                · simp only [execOp, resolve, List.map_toArray, List.map_cons, List.map_nil, Act.eval, s122]; simp [go_sem, -Array.getD_eq_getD_getElem?, s122, m3]
                · simpa [upd] using hI
              case o18 =>
                intro a w L hfr hI hs hd
                obtain ⟨d0, d1, _⟩ := hd
                have s116 : a.tmps.getD 116 undef = .slice As nas cAs := d0 rfl
                have s123 : a.tmps.getD 123 undef = .int .i64 qs := d1 rfl
                refine ⟨fun hw => ?_, fun hw => absurd hw (by simp [Region.wanted])⟩
                refine opw_yields (w' := w) (.slice As qs cAs) ?_ rfl ?_
                · simp only [execOp, resolve, List.map_toArray, List.map_cons, List.map_nil, Act.eval, s116, s123]; simp [go_sem, -Array.getD_eq_getD_getElem?, s116, s123, v1, v2]
                · simpa [upd] using hI
              case o19 =>
                intro a w L hfr hI hs hd
                have s14 : a.tmps.getD 14 undef = .slice (some ⟨g, 0, none⟩) k2 ch := hfr.at 14 (by kernel_rfl)
                refine ⟨fun hw => ?_, fun hw => absurd hw (by simp [Region.wanted])⟩
                refine opw_yields (w' := w) (.slice (some ⟨g, 0, none⟩) k2 ch) ?_ rfl ?_
                · simp only [execOp, resolve, List.map_toArray, List.map_cons, List.map_nil, Act.eval, s14]; simp [go_sem, -Array.getD_eq_getD_getElem?, s14]
                · simpa [upd] using hI
              case o20 =>
                intro a w L hfr hI hs hd
                have s17 : a.tmps.getD 17 undef = .int .i64 i := hfr.at 17 (by kernel_rfl)
                refine ⟨fun hw => ?_, fun hw => absurd hw (by simp [Region.wanted])⟩
                refine opw_yields (w' := w) (.int .i64 i) ?_ rfl ?_
                · simp only [execOp, resolve, List.map_toArray, List.map_cons, List.map_nil, Act.eval, s17]; simp [go_sem, -Array.getD_eq_getD_getElem?, s17]
                · simpa [upd] using hI
              case o21 =>
                intro a w L hfr hI hs hd
                obtain ⟨d0, d1, _⟩ := hd
                have s125 : a.tmps.getD 125 undef = .slice (some ⟨g, 0, none⟩) k2 ch := d0 rfl
                have s126 : a.tmps.getD 126 undef = .int .i64 i := d1 rfl
                refine ⟨fun hw => ?_, fun hw => absurd hw (by simp [Region.wanted])⟩
                refine opw_yields (w' := w) (.pointer (some ⟨g, i * 3, none⟩)) ?_ rfl ?_
                · simp only [execOp, resolve, List.map_toArray, List.map_cons, List.map_nil, Act.eval, s125, s126]; simp [go_sem, -Array.getD_eq_getD_getElem?, s125, s126, y3, y4, Addr.add]; exact fun h => h.symm
                · simpa [upd] using hI
              case o22 =>
                intro a w L hfr hI hs hd
                obtain ⟨d0, _⟩ := hd
                have s127 : a.tmps.getD 127 undef = .pointer (some ⟨g, i * 3, none⟩) := d0 rfl
                refine ⟨fun hw => ?_, fun hw => absurd hw (by simp [Region.wanted])⟩
                refine opw_yields (w' := w) (.pointer (some ⟨g, i * 3 + 1, none⟩)) ?_ rfl ?_
                · simp only [execOp, resolve, List.map_toArray, List.map_cons, List.map_nil, Act.eval, s127]; simp [go_sem, -Array.getD_eq_getD_getElem?, s127]
                · simpa [upd] using hI
              case o23 =>
                intro a w L hfr hI hs hd
                obtain ⟨d0, _⟩ := hd
                have s128 : a.tmps.getD 128 undef = .pointer (some ⟨g, i * 3 + 1, none⟩) := d0 rfl
                refine ⟨fun hw => ?_, fun hw => absurd hw (by simp [Region.wanted])⟩
                have q47 : L 47 = false := hs.not hs.self 47 (by kernel_rfl)
                have q50 : L 50 = false := hs.not q47 50 (by kernel_rfl)
                have q53 : L 53 = false := hs.not q50 53 (by kernel_rfl)
                have hw0 : w = wd := by have h := hI; simpa only [q47, q50, q53, if_true, if_false, Bool.false_eq_true] using h
                refine opw_yields (w' := w) (.slice Ad nad cAd) ?_ rfl ?_
                · rw [hw0]; simp only [execOp, resolve, List.map_toArray, List.map_cons, List.map_nil, Act.eval, s128]; simp [go_sem, -Array.getD_eq_getD_getElem?, s128, c1']
                · simpa [upd] using hI
              case o24 =>
                intro a w L hfr hI hs hd
                have s14 : a.tmps.getD 14 undef = .slice (some ⟨g, 0, none⟩) k2 ch := hfr.at 14 (by kernel_rfl)
                refine ⟨fun hw => ?_, fun hw => absurd hw (by simp [Region.wanted])⟩
                refine opw_yields (w' := w) (.slice (some ⟨g, 0, none⟩) k2 ch) ?_ rfl ?_
                · simp only [execOp, resolve, List.map_toArray, List.map_cons, List.map_nil, Act.eval, s14]; simp [go_sem, -Array.getD_eq_getD_getElem?, s14]
                · simpa [upd] using hI
              case o25 =>
                intro a w L hfr hI hs hd
                have s17 : a.tmps.getD 17 undef = .int .i64 i := hfr.at 17 (by kernel_rfl)
                refine ⟨fun hw => ?_, fun hw => absurd hw (by simp [Region.wanted])⟩
                refine opw_yields (w' := w) (.int .i64 i) ?_ rfl ?_
                · simp only [execOp, resolve, List.map_toArray, List.map_cons, List.map_nil, Act.eval, s17]; simp [go_sem, -Array.getD_eq_getD_getElem?, s17]
                · simpa [upd] using hI
              case o26 =>
                intro a w L hfr hI hs hd
                obtain ⟨d0, d1, _⟩ := hd
                have s130 : a.tmps.getD 130 undef = .slice (some ⟨g, 0, none⟩) k2 ch := d0 rfl
                have s131 : a.tmps.getD 131 undef = .int .i64 i := d1 rfl
                refine ⟨fun hw => ?_, fun hw => absurd hw (by simp [Region.wanted])⟩
                refine opw_yields (w' := w) (.pointer (some ⟨g, i * 3, none⟩)) ?_ rfl ?_
                · simp only [execOp, resolve, List.map_toArray, List.map_cons, List.map_nil, Act.eval, s130, s131]; simp [go_sem, -Array.getD_eq_getD_getElem?, s130, s131, y3, y4, Addr.add]; exact fun h => h.symm
                · simpa [upd] using hI
              case o27 =>
                intro a w L hfr hI hs hd
                obtain ⟨d0, _⟩ := hd
                have s132 : a.tmps.getD 132 undef = .pointer (some ⟨g, i * 3, none⟩) := d0 rfl
                refine ⟨fun hw => ?_, fun hw => absurd hw (by simp [Region.wanted])⟩
                refine opw_yields (w' := w) (.pointer (some ⟨g, i * 3 + 1, none⟩)) ?_ rfl ?_
                · simp only [execOp, resolve, List.map_toArray, List.map_cons, List.map_nil, Act.eval, s132]; simp [go_sem, -Array.getD_eq_getD_getElem?, s132]
                · simpa [upd] using hI
              case o28 =>
                intro a w L hfr hI hs hd
                obtain ⟨d0, _⟩ := hd
                have s133 : a.tmps.getD 133 undef = .pointer (some ⟨g, i * 3 + 1, none⟩) := d0 rfl
                refine ⟨fun hw => ?_, fun hw => absurd hw (by simp [Region.wanted])⟩
                have q47 : L 47 = false := hs.not hs.self 47 (by kernel_rfl)
                have q50 : L 50 = false := hs.not q47 50 (by kernel_rfl)
                have q53 : L 53 = false := hs.not q50 53 (by kernel_rfl)
                have hw0 : w = wd := by have h := hI; simpa only [q47, q50, q53, if_true, if_false, Bool.false_eq_true] using h
                refine opw_yields (w' := w) (.slice Ad nad cAd) ?_ rfl ?_
                · rw [hw0]; simp only [execOp, resolve, List.map_toArray, List.map_cons, List.map_nil, Act.eval, s133]; simp [go_sem, -Array.getD_eq_getD_getElem?, s133, c1']
                · simpa [upd] using hI
              case o29 =>
                intro a w L hfr hI hs hd
                obtain ⟨d0, _⟩ := hd
                have s134 : a.tmps.getD 134 undef = .slice Ad nad cAd := d0 rfl
                refine ⟨fun hw => ?_, fun hw => absurd hw (by simp [Region.wanted])⟩
                refine opw_yields (w' := w) (.int .i64 nad) ?_ rfl ?_
                · simp only [execOp, resolve, List.map_toArray, List.map_cons, List.map_nil, Act.eval, s134]; simp [go_sem, -Array.getD_eq_getD_getElem?, s134]
                · simpa [upd] using hI
              case o30 =>
                intro a w L hfr hI hs hd
                obtain ⟨d0, _⟩ := hd
                have s135 : a.tmps.getD 135 undef = .int .i64 nad := d0 rfl
                refine ⟨fun hw => ?_, fun hw => absurd hw (by simp [Region.wanted])⟩
                refine opw_yields (w' := w) (.int .i64 qd) ?_ rfl ?_
                · simp only [execOp, resolve, List.map_toArray, List.map_cons, List.map_nil, Act.eval, s135]; simp [go_sem, -Array.getD_eq_getD_getElem?, s135, m4]
                · simpa [upd] using hI
              case o31 =>
                intro a w L hfr hI hs hd
                obtain ⟨d0, d1, _⟩ := hd
                have s129 : a.tmps.getD 129 undef = .slice Ad nad cAd := d0 rfl
                have s136 : a.tmps.getD 136 undef = .int .i64 qd := d1 rfl
                refine ⟨fun hw => ?_, fun hw => absurd hw (by simp [Region.wanted])⟩
                refine opw_yields (w' := w) (.slice Ad qd cAd) ?_ rfl ?_
                · simp only [execOp, resolve, List.map_toArray, List.map_cons, List.map_nil, Act.eval, s129, s136]; simp [go_sem, -Array.getD_eq_getD_getElem?, s129, s136, v3, v4]
                · simpa [upd] using hI
              case o32 =>
                intro a w L hfr hI hs hd
                have s14 : a.tmps.getD 14 undef = .slice (some ⟨g, 0, none⟩) k2 ch := hfr.at 14 (by kernel_rfl)
                refine ⟨fun hw => ?_, fun hw => absurd hw (by simp [Region.wanted])⟩
                refine opw_yields (w' := w) (.slice (some ⟨g, 0, none⟩) k2 ch) ?_ rfl ?_
                · simp only [execOp, resolve, List.map_toArray, List.map_cons, List.map_nil, Act.eval, s14]; simp [go_sem, -Array.getD_eq_getD_getElem?, s14]
                · simpa [upd] using hI
              case o33 =>
                intro a w L hfr hI hs hd
                have s17 : a.tmps.getD 17 undef = .int .i64 i := hfr.at 17 (by kernel_rfl)
                refine ⟨fun hw => ?_, fun hw => absurd hw (by simp [Region.wanted])⟩
                refine opw_yields (w' := w) (.int .i64 i) ?_ rfl ?_
                · simp only [execOp, resolve, List.map_toArray, List.map_cons, List.map_nil, Act.eval, s17]; simp [go_sem, -Array.getD_eq_getD_getElem?, s17]
                · simpa [upd] using hI
              case o34 =>
                intro a w L hfr hI hs hd
                obtain ⟨d0, d1, _⟩ := hd
                have s138 : a.tmps.getD 138 undef = .slice (some ⟨g, 0, none⟩) k2 ch := d0 rfl
                have s139 : a.tmps.getD 139 undef = .int .i64 i := d1 rfl
                refine ⟨fun hw => ?_, fun hw => absurd hw (by simp [Region.wanted])⟩
                refine opw_yields (w' := w) (.pointer (some ⟨g, i * 3, none⟩)) ?_ rfl ?_
                · simp only [execOp, resolve, List.map_toArray, List.map_cons, List.map_nil, Act.eval, s138, s139]; simp [go_sem, -Array.getD_eq_getD_getElem?, s138, s139, y3, y4, Addr.add]; exact fun h => h.symm
                · simpa [upd] using hI
              case o35 =>
                intro a w L hfr hI hs hd
                obtain ⟨d0, _⟩ := hd
                have s140 : a.tmps.getD 140 undef = .pointer (some ⟨g, i * 3, none⟩) := d0 rfl
                refine ⟨fun hw => ?_, fun hw => absurd hw (by simp [Region.wanted])⟩
                refine opw_yields (w' := w) (.pointer (some ⟨g, i * 3 + 2, none⟩)) ?_ rfl ?_
                · simp only [execOp, resolve, List.map_toArray, List.map_cons, List.map_nil, Act.eval, s140]; simp [go_sem, -Array.getD_eq_getD_getElem?, s140]
                · simpa [upd] using hI
              case o36 =>
                intro a w L hfr hI hs hd
                obtain ⟨d0, _⟩ := hd
                have s141 : a.tmps.getD 141 undef = .pointer (some ⟨g, i * 3 + 2, none⟩) := d0 rfl
                refine ⟨fun hw => ?_, fun hw => absurd hw (by simp [Region.wanted])⟩
                have q47 : L 47 = false := hs.not hs.self 47 (by kernel_rfl)
                have q50 : L 50 = false := hs.not q47 50 (by kernel_rfl)
                have q53 : L 53 = false := hs.not q50 53 (by kernel_rfl)
                have hw0 : w = wd := by have h := hI; simpa only [q47, q50, q53, if_true, if_false, Bool.false_eq_true] using h
                refine opw_yields (w' := w) (.slice Ae nae cAe) ?_ rfl ?_
                · rw [hw0]; simp only [execOp, resolve, List.map_toArray, List.map_cons, List.map_nil, Act.eval, s141]; simp [go_sem, -Array.getD_eq_getD_getElem?, s141, c2']
                · simpa [upd] using hI
              case o37 =>
                intro a w L hfr hI hs hd
                have s14 : a.tmps.getD 14 undef = .slice (some ⟨g, 0, none⟩) k2 ch := hfr.at 14 (by kernel_rfl)
                refine ⟨fun hw => ?_, fun hw => absurd hw (by simp [Region.wanted])⟩
                refine opw_yields (w' := w) (.slice (some ⟨g, 0, none⟩) k2 ch) ?_ rfl ?_
                · simp only [execOp, resolve, List.map_toArray, List.map_cons, List.map_nil, Act.eval, s14]; simp [go_sem, -Array.getD_eq_getD_getElem?, s14]
                · simpa [upd] using hI
              case o38 =>
                intro a w L hfr hI hs hd
                have s17 : a.tmps.getD 17 undef = .int .i64 i := hfr.at 17 (by kernel_rfl)
                refine ⟨fun hw => ?_, fun hw => absurd hw (by simp [Region.wanted])⟩
                refine opw_yields (w' := w) (.int .i64 i) ?_ rfl ?_
                · simp only [execOp, resolve, List.map_toArray, List.map_cons, List.map_nil, Act.eval, s17]; simp [go_sem, -Array.getD_eq_getD_getElem?, s17]
                · simpa [upd] using hI
              case o39 =>
                intro a w L hfr hI hs hd
                obtain ⟨d0, d1, _⟩ := hd
                have s143 : a.tmps.getD 143 undef = .slice (some ⟨g, 0, none⟩) k2 ch := d0 rfl
                have s144 : a.tmps.getD 144 undef = .int .i64 i := d1 rfl
                refine ⟨fun hw => ?_, fun hw => absurd hw (by simp [Region.wanted])⟩
                refine opw_yields (w' := w) (.pointer (some ⟨g, i * 3, none⟩)) ?_ rfl ?_
                · simp only [execOp, resolve, List.map_toArray, List.map_cons, List.map_nil, Act.eval, s143, s144]; simp [go_sem, -Array.getD_eq_getD_getElem?, s143, s144, y3, y4, Addr.add]; exact fun h => h.symm
                · simpa [upd] using hI
              case o40 =>
                intro a w L hfr hI hs hd
                obtain ⟨d0, _⟩ := hd
                have s145 : a.tmps.getD 145 undef = .pointer (some ⟨g, i * 3, none⟩) := d0 rfl
                refine ⟨fun hw => ?_, fun hw => absurd hw (by simp [Region.wanted])⟩
                refine opw_yields (w' := w) (.pointer (some ⟨g, i * 3 + 2, none⟩)) ?_ rfl ?_
                · simp only [execOp, resolve, List.map_toArray, List.map_cons, List.map_nil, Act.eval, s145]; simp [go_sem, -Array.getD_eq_getD_getElem?, s145]
                · simpa [upd] using hI
              case o41 =>
                intro a w L hfr hI hs hd
                obtain ⟨d0, _⟩ := hd
                have s146 : a.tmps.getD 146 undef = .pointer (some ⟨g, i * 3 + 2, none⟩) := d0 rfl
                refine ⟨fun hw => ?_, fun hw => absurd hw (by simp [Region.wanted])⟩
                have q47 : L 47 = false := hs.not hs.self 47 (by kernel_rfl)
                have q50 : L 50 = false := hs.not q47 50 (by kernel_rfl)
                have q53 : L 53 = false := hs.not q50 53 (by kernel_rfl)
                have hw0 : w = wd := by have h := hI; simpa only [q47, q50, q53, if_true, if_false, Bool.false_eq_true] using h
                refine opw_yields (w' := w) (.slice Ae nae cAe) ?_ rfl ?_
                · rw [hw0]; simp only [execOp, resolve, List.map_toArray, List.map_cons, List.map_nil, Act.eval, s146]; simp [go_sem, -Array.getD_eq_getD_getElem?, s146, c2']
                · simpa [upd] using hI
              case o42 =>
                intro a w L hfr hI hs hd
                obtain ⟨d0, _⟩ := hd
                have s147 : a.tmps.getD 147 undef = .slice Ae nae cAe := d0 rfl
                refine ⟨fun hw => ?_, fun hw => absurd hw (by simp [Region.wanted])⟩
                refine opw_yields (w' := w) (.int .i64 nae) ?_ rfl ?_
                · simp only [execOp, resolve, List.map_toArray, List.map_cons, List.map_nil, Act.eval, s147]; simp [go_sem, -Array.getD_eq_getD_getElem?, s147]
                · simpa [upd] using hI
              case o43 =>
                intro a w L hfr hI hs hd
                obtain ⟨d0, _⟩ := hd
                have s148 : a.tmps.getD 148 undef = .int .i64 nae := d0 rfl
                refine ⟨fun hw => ?_, fun hw => absurd hw (by simp [Region.wanted])⟩
                refine opw_yields (w' := w) (.int .i64 qe) ?_ rfl ?_
                · simp only [execOp, resolve, List.map_toArray, List.map_cons, List.map_nil, Act.eval, s148]; simp [go_sem, -Array.getD_eq_getD_getElem?, s148, m5]
                · simpa [upd] using hI
              case o44 =>
                intro a w L hfr hI hs hd
                obtain ⟨d0, d1, _⟩ := hd
                have s142 : a.tmps.getD 142 undef = .slice Ae nae cAe := d0 rfl
                have s149 : a.tmps.getD 149 undef = .int .i64 qe := d1 rfl
                refine ⟨fun hw => ?_, fun hw => absurd hw (by simp [Region.wanted])⟩
                refine opw_yields (w' := w) (.slice Ae qe cAe) ?_ rfl ?_
                · simp only [execOp, resolve, List.map_toArray, List.map_cons, List.map_nil, Act.eval, s142, s149]; simp [go_sem, -Array.getD_eq_getD_getElem?, s142, s149, v5, v6]
                · simpa [upd] using hI
              case o45 =>
                intro a w L hfr hI hs hd
                obtain ⟨d0, d1, d2, d3, d4, d5, d6, d7, d8, d9, d10, d11, d12, d13, d14, d15, d16, d17, d18, d19, d20, d21, d22, d23, d24, d25, d26, d27, d28, d29, d30, d31, d32, d33, d34, d35, d36, d37, d38, d39, d40, d41, d42, d43, d44, d45, d46, _⟩ := hd
                have s106 : a.tmps.getD 106 undef = .slice (some ⟨g, 0, none⟩) k2 ch := d0 rfl
                have s107 : a.tmps.getD 107 undef = .int .i64 i := d1 rfl
                refine ⟨fun hw => ?_, fun hw => absurd hw (by simp [Region.wanted])⟩
                refine opw_yields (w' := w) (.pointer (some ⟨g, i * 3, none⟩)) ?_ rfl ?_
                · simp only [execOp, resolve, List.map_toArray, List.map_cons, List.map_nil, Act.eval, s106, s107]; simp [go_sem, -Array.getD_eq_getD_getElem?, s106, s107, y3, y4, Addr.add]; exact fun h => h.symm
                · simpa [upd] using hI
              case o46 =>
                intro a w L hfr hI hs hd
                obtain ⟨d0, d1, d2, d3, d4, d5, d6, d7, d8, d9, d10, d11, d12, d13, d14, d15, d16, d17, d18, d19, d20, d21, d22, d23, d24, d25, d26, d27, d28, d29, d30, d31, d32, d33, d34, d35, d36, d37, d38, d39, d40, d41, d42, d43, d44, d45, _⟩ := hd
                have s151 : a.tmps.getD 151 undef = .pointer (some ⟨g, i * 3, none⟩) := d0 rfl
                refine ⟨fun hw => ?_, fun hw => absurd hw (by simp [Region.wanted])⟩
                refine opw_yields (w' := w) (.pointer (some ⟨g, i * 3, none⟩)) ?_ rfl ?_
                · simp only [execOp, resolve, List.map_toArray, List.map_cons, List.map_nil, Act.eval, s151]; simp [go_sem, -Array.getD_eq_getD_getElem?, s151]
                · simpa [upd] using hI
              case o47 =>
                intro a w L hfr hI hs hd
                obtain ⟨d0, d1, d2, d3, d4, d5, d6, d7, d8, d9, d10, d11, d12, d13, d14, d15, d16, d17, d18, d19, d20, d21, d22, d23, d24, d25, d26, d27, d28, d29, d30, d31, d32, d33, d34, d35, d36, d37, d38, d39, d40, d41, d42, d43, d44, d45, d46, _⟩ := hd
                have s152 : a.tmps.getD 152 undef = .pointer (some ⟨g, i * 3, none⟩) := d0 rfl
                have s124 : a.tmps.getD 124 undef = .slice As qs cAs := d1 rfl
                refine ⟨fun hw => ?_, fun hw => absurd hw (by simp [Region.wanted])⟩
                have q47 : L 47 = false := hs.self
                have q50 : L 50 = false := hs.not q47 50 (by kernel_rfl)
                have q53 : L 53 = false := hs.not q50 53 (by kernel_rfl)
                have hw0 : w = wd := by have h := hI; simpa only [q47, q50, q53, if_true, if_false, Bool.false_eq_true] using h
                refine opw_stores (w' := (wd.setCell ⟨g, i * 3, none⟩ (.slice As qs cAs))) rfl ?_ trivial ?_
                · rw [hw0]; simp only [execOp, resolve, List.map_toArray, List.map_cons, List.map_nil, Act.eval, s152, s124]; simp [go_sem, -Array.getD_eq_getD_getElem?, s152, s124, c0', f0]
                · simp [upd, q47, q50, q53]
              case o48 =>
                intro a w L hfr hI hs hd
                obtain ⟨d0, d1, d2, d3, d4, d5, d6, d7, d8, d9, d10, d11, d12, d13, d14, d15, d16, d17, d18, d19, d20, d21, d22, d23, d24, d25, d26, d27, d28, d29, d30, d31, d32, d33, d34, d35, d36, d37, d38, d39, d40, d41, d42, d43, d44, d45, d46, d47, d48, d49, _⟩ := hd
                have s108 : a.tmps.getD 108 undef = .slice (some ⟨g, 0, none⟩) k2 ch := d0 rfl
                have s109 : a.tmps.getD 109 undef = .int .i64 i := d1 rfl
                refine ⟨fun hw => ?_, fun hw => absurd hw (by simp [Region.wanted])⟩
                refine opw_yields (w' := w) (.pointer (some ⟨g, i * 3, none⟩)) ?_ rfl ?_
                · simp only [execOp, resolve, List.map_toArray, List.map_cons, List.map_nil, Act.eval, s108, s109]; simp [go_sem, -Array.getD_eq_getD_getElem?, s108, s109, y3, y4, Addr.add]; exact fun h => h.symm
                · simpa [upd] using hI
              case o49 =>
                intro a w L hfr hI hs hd
                obtain ⟨d0, d1, d2, d3, d4, d5, d6, d7, d8, d9, d10, d11, d12, d13, d14, d15, d16, d17, d18, d19, d20, d21, d22, d23, d24, d25, d26, d27, d28, d29, d30, d31, d32, d33, d34, d35, d36, d37, d38, d39, d40, d41, d42, d43, d44, d45, d46, d47, d48, _⟩ := hd
                have s153 : a.tmps.getD 153 undef = .pointer (some ⟨g, i * 3, none⟩) := d0 rfl
                refine ⟨fun hw => ?_, fun hw => absurd hw (by simp [Region.wanted])⟩
                refine opw_yields (w' := w) (.pointer (some ⟨g, i * 3 + 1, none⟩)) ?_ rfl ?_
                · simp only [execOp, resolve, List.map_toArray, List.map_cons, List.map_nil, Act.eval, s153]; simp [go_sem, -Array.getD_eq_getD_getElem?, s153]
                · simpa [upd] using hI
              case o50 =>
                intro a w L hfr hI hs hd
                obtain ⟨d0, d1, d2, d3, d4, d5, d6, d7, d8, d9, d10, d11, d12, d13, d14, d15, d16, d17, d18, d19, d20, d21, d22, d23, d24, d25, d26, d27, d28, d29, d30, d31, d32, d33, d34, d35, d36, d37, d38, d39, d40, d41, d42, d43, d44, d45, d46, d47, d48, d49, d50, _⟩ := hd
                have s154 : a.tmps.getD 154 undef = .pointer (some ⟨g, i * 3 + 1, none⟩) := d0 rfl
                have s137 : a.tmps.getD 137 undef = .slice Ad qd cAd := d1 rfl
                refine ⟨fun hw => ?_, fun hw => absurd hw (by simp [Region.wanted])⟩
                have q50 : L 50 = false := hs.self
                have q53 : L 53 = false := hs.not q50 53 (by kernel_rfl)
                have q47 : L 47 = true := hs.done (by decide) 47 (by kernel_rfl)
                have hw0 : w = (wd.setCell ⟨g, i * 3, none⟩ (.slice As qs cAs)) := by have h := hI; simpa only [q47, q50, q53, if_true, if_false, Bool.false_eq_true] using h
                refine opw_stores (w' := ((wd.setCell ⟨g, i * 3, none⟩ (.slice As qs cAs)).setCell ⟨g, i * 3 + 1, none⟩ (.slice Ad qd cAd))) rfl ?_ trivial ?_
                · rw [hw0]; simp only [execOp, resolve, List.map_toArray, List.map_cons, List.map_nil, Act.eval, s154, s137]; simp [go_sem, -Array.getD_eq_getD_getElem?, s154, s137, c1', f1]
                · simp [upd, q47, q50, q53]
              case o51 =>
                intro a w L hfr hI hs hd
                obtain ⟨d0, d1, d2, d3, d4, d5, d6, d7, d8, d9, d10, d11, d12, d13, d14, d15, d16, d17, d18, d19, d20, d21, d22, d23, d24, d25, d26, d27, d28, d29, d30, d31, d32, d33, d34, d35, d36, d37, d38, d39, d40, d41, d42, d43, d44, d45, d46, d47, d48, d49, d50, d51, d52, _⟩ := hd
                have s110 : a.tmps.getD 110 undef = .slice (some ⟨g, 0, none⟩) k2 ch := d0 rfl
                have s111 : a.tmps.getD 111 undef = .int .i64 i := d1 rfl
                refine ⟨fun hw => ?_, fun hw => absurd hw (by simp [Region.wanted])⟩
                refine opw_yields (w' := w) (.pointer (some ⟨g, i * 3, none⟩)) ?_ rfl ?_
                · simp only [execOp, resolve, List.map_toArray, List.map_cons, List.map_nil, Act.eval, s110, s111]; simp [go_sem, -Array.getD_eq_getD_getElem?, s110, s111, y3, y4, Addr.add]; exact fun h => h.symm
                · simpa [upd] using hI
              case o52 =>
                intro a w L hfr hI hs hd
                obtain ⟨d0, d1, d2, d3, d4, d5, d6, d7, d8, d9, d10, d11, d12, d13, d14, d15, d16, d17, d18, d19, d20, d21, d22, d23, d24, d25, d26, d27, d28, d29, d30, d31, d32, d33, d34, d35, d36, d37, d38, d39, d40, d41, d42, d43, d44, d45, d46, d47, d48, d49, d50, d51, _⟩ := hd
                have s155 : a.tmps.getD 155 undef = .pointer (some ⟨g, i * 3, none⟩) := d0 rfl
                refine ⟨fun hw => ?_, fun hw => absurd hw (by simp [Region.wanted])⟩
                refine opw_yields (w' := w) (.pointer (some ⟨g, i * 3 + 2, none⟩)) ?_ rfl ?_
                · simp only [execOp, resolve, List.map_toArray, List.map_cons, List.map_nil, Act.eval, s155]; simp [go_sem, -Array.getD_eq_getD_getElem?, s155]
                · simpa [upd] using hI
              case o53 =>
                intro a w L hfr hI hs hd
                obtain ⟨d0, d1, d2, d3, d4, d5, d6, d7, d8, d9, d10, d11, d12, d13, d14, d15, d16, d17, d18, d19, d20, d21, d22, d23, d24, d25, d26, d27, d28, d29, d30, d31, d32, d33, d34, d35, d36, d37, d38, d39, d40, d41, d42, d43, d44, d45, d46, d47, d48, d49, d50, d51, d52, d53, _⟩ := hd
                have s156 : a.tmps.getD 156 undef = .pointer (some ⟨g, i * 3 + 2, none⟩) := d0 rfl
                have s150 : a.tmps.getD 150 undef = .slice Ae qe cAe := d1 rfl
                refine ⟨fun hw => ?_, fun hw => absurd hw (by simp [Region.wanted])⟩
                have q53 : L 53 = false := hs.self
                have q47 : L 47 = true := hs.done (by decide) 47 (by kernel_rfl)
                have q50 : L 50 = true := hs.done (by decide) 50 (by kernel_rfl)
                have hw0 : w = ((wd.setCell ⟨g, i * 3, none⟩ (.slice As qs cAs)).setCell ⟨g, i * 3 + 1, none⟩ (.slice Ad qd cAd)) := by have h := hI; simpa only [q47, q50, q53, if_true, if_false, Bool.false_eq_true] using h
                refine opw_stores (w' := (((wd.setCell ⟨g, i * 3, none⟩ (.slice As qs cAs)).setCell ⟨g, i * 3 + 1, none⟩ (.slice Ad qd cAd)).setCell ⟨g, i * 3 + 2, none⟩ (.slice Ae qe cAe))) rfl ?_ trivial ?_
                · rw [hw0]; simp only [execOp, resolve, List.map_toArray, List.map_cons, List.map_nil, Act.eval, s156, s150]; simp [go_sem, -Array.getD_eq_getD_getElem?, s156, s150, c2', f2]
                · simp [upd, q47, q50, q53]
              case hI => simpa using hwd
              case hend =>
                intro vs w' hI hv
                have hw' : w' = (((wd.setCell ⟨g, i * 3, none⟩ (.slice As qs cAs)).setCell ⟨g, i * 3 + 1, none⟩ (.slice Ad qd cAd)).setCell ⟨g, i * 3 + 2, none⟩ (.slice Ae qe cAe)) := hI
                have HS4 := Lib.hid (show ShAt wz S k1 cs (sa.map cutS) (some ⟨g, 0, none⟩) k2 ch (cutN cutI (i + 1) ha) w' from by rw [hw']; exact HS3.out)
                clear hv hI HS3 HS2e c0' c1' c2' f0 f1 f2 hw' hwd
                simp only [putAll, Act.put]
                go_simp
                go_upto_region 18 with fail
                obtain ⟨r0, hr0⟩ : ∃ r, (rz && (ha.take i).all fun h => rightInh (cutI h)) = r := ⟨_, rfl⟩
                obtain ⟨l6, hl6⟩ : ∃ b, decide (qe ≤ 6) = b := ⟨_, rfl⟩
                have hl6i : decide ((qe : Int) ≤ 6) = l6 := by rw [← hl6]; exact decide_eq_decide.2 (by omega)
                have HAS := Lib.hid (show (rz && (ha.take (i + 1)).all fun h => rightInh (cutI h)) = ((r0 && (rs && (rd && l6))) && eq7.all wordF) by
                  rw [HAN2.out, hl6, ← Bool.and_assoc rz, hr0]; simp only [Bool.and_assoc])
                rw [hr0]
                clear hr0 HAN2
                have hadd := add_mk g (i * 3)
                go_cut [15] from 157 to 182 (fun x15 wx => x15 = .bool (r0 && (rs && (rd && l6))) ∧ ShAt wz S k1 cs (sa.map cutS) (some ⟨g, 0, none⟩) k2 ch (cutN cutI (i + 1) ha) wx)
                case first =>
                  obtain ⟨c0', c1', c2'⟩ := HEN.out _ HS4.out
                  cases r0 with
                  | false =>
                    go_wp2_with fail
                    go_meet
                    exact ⟨rfl, HS4.out⟩
                  | true =>
                    go_wp2_with fail
                    (with_reducible refine (HM1.out _ HS4.out).mono ?_); rintro e w5 ⟨rfl, hb⟩
                    have HS5 := Lib.hid (HS4.out.below hb)
                    clear hb c0' c1' c2'
                    obtain ⟨c0', c1', c2'⟩ := HEN.out _ HS5.out
                    cases rs with
                    | false =>
                      go_wp2_with fail
                      go_meet
                      exact ⟨rfl, HS5.out⟩
                    | true =>
                      go_wp2_with fail
                      (with_reducible refine (HM2.out _ HS5.out).mono ?_); rintro e w6 ⟨rfl, hb⟩
                      have HS6 := Lib.hid (HS5.out.below hb)
                      clear hb c0' c1' c2'
                      obtain ⟨c0', c1', c2'⟩ := HEN.out _ HS6.out
                      cases rd with
                      | false =>
                        go_wp2_with fail
                        go_meet
                        exact ⟨rfl, HS6.out⟩
                      | true =>
                        go_wp2_with fail
                        go_meet
                        exact ⟨by simp [hl6], HS6.out⟩
                case rest =>
                  obtain ⟨rfl, hsh5⟩ := hcut
                  have HS5 := Lib.hid hsh5
                  clear hsh5 HS4 HM1 HM2 hl6 hl6i
                  obtain ⟨r1, hr1⟩ : ∃ r, (r0 && (rs && (rd && l6))) = r := ⟨_, rfl⟩
                  rw [hr1] at HAS
                  rw [hr1]
                  clear hr1
                  obtain ⟨c0', c1', c2'⟩ := HEN.out _ HS5.out
                  go_upto_block 6 with fail
                  clear c0' c1' c2' HEN hadd
                  go_wp2_with fail
                  go_loopg [15, 19, 189] qe (fun g2 x15 x19 x189 wq => ∃ j : Nat, j + g2 = qe ∧ x189 = .int .i64 j ∧ x15 = .bool (r1 && (eq7.take j).all wordF) ∧ ShAt wz S k1 cs (sa.map cutS) (some ⟨g, 0, none⟩) k2 ch (cutN cutI (i + 1) ha) wq)
                  case atStart => exact ⟨0, by omega, rfl, by simp, HS5.out⟩
                  case round =>
                    obtain ⟨j, hjg, rfl, rfl, hsh6⟩ := hrel
                    have HS6 := Lib.hid hsh6
                    clear hsh6 HS5
                    cases gk with
                    | zero =>
                      obtain rfl : j = qe := by omega
                      have HTJ := Lib.hid (show eq7.take j = eq7 from List.take_of_length_le (by rw [HQE.out]; exact Nat.le_refl _))
                      go_wp2_with fail
                      go_roundg gr
                      case measure => omega
                      case rel => exact ⟨i + 1, by omega, by go_num, by rw [HTJ.out, HAS.out], HS6.out⟩
                    | succ gq =>
                      have hjq : j < qe := by omega
                      have hjqi : (j : Int) < qe := by omega
                      have hj0 : (0 : Int) ≤ j := by omega
                      obtain ⟨ae, hqj, hAe, e3⟩ := (HQ.out _ HS6.out).sees.str hjq
                      have HWN := Lib.hid (show (r1 && (eq7.take (j + 1)).all wordF) = ((r1 && (eq7.take j).all wordF) && wordF eq7[j]) by rw [all_next hqj, Bool.and_assoc])
                      have hnz := HQZ.out eq7[j] (List.getElem_mem hqj)
                      generalize eq7[j] = nm at *
                      subst hAe
                      obtain ⟨b, hb⟩ : ∃ b, (r1 && (eq7.take j).all wordF) = b := ⟨_, rfl⟩
                      rw [hb] at HWN
                      rw [hb]
                      clear hb
                      have HW3 := Lib.hid (Blk.mk (heap_alloc_new wr (.cells #[.string nm, .string ⟨#[120]⟩] 23)) : Blk _ wr.heap.size 23 [.string nm, .string ⟨#[120]⟩])
                      have hR3 := refRight_any (some ⟨wr.heap.size, 0, none⟩) 1 1 [(nm, ⟨#[120]⟩)] (wr.alloc (.cells #[.string nm, .string ⟨#[120]⟩] 23)).heap.size (wr.alloc (.cells #[.string nm, .string ⟨#[120]⟩] 23)) (HW3.out.sees rfl (List.prefix_refl _)) (Nat.le_refl _) (by omega) (fun x hx => by
                        rw [List.mem_singleton] at hx; subst hx; exact hnz)
                      rw [right_one18] at hR3
                      have HR3 := Lib.hid hR3
                      have HS7 := Lib.hid (HS6.out.alloc (.cells #[.string nm, .string ⟨#[120]⟩] 23))
                      clear hR3 hnz
                      cases b with
                      | false =>
                        have HN := Lib.hid (HWN.out.trans (Bool.false_and _))
                        go_wp2_with fail
                        go_roundg gq
                        case measure => omega
                        case rel => exact ⟨j + 1, by omega, by go_num, by rw [HN.out], HS6.out⟩
                      | true =>
                        have HN := Lib.hid (HWN.out.trans (Bool.true_and _))
                        go_wp2_with fail
                        (with_reducible refine HR3.out.mono ?_); rintro e w7 ⟨rfl, hb⟩
                        have HS8 := Lib.hid (HS7.out.below hb)
                        clear hb HR3 HW3
                        go_wp2_with fail
                        go_roundg gq
                        case measure => omega
                        case rel => exact ⟨j + 1, by omega, by go_num, by rw [HN.out], HS8.out⟩
        case rest =>
          obtain ⟨rfl, hsh⟩ := hcut
          have HS2 := Lib.hid hsh
          have HMS : Hid (∀ x ∈ sa.map cutS, mtsOk x.ms) := Lib.hid (fun x hx => by
            obtain ⟨y, hy, rfl⟩ := List.mem_map.1 hx
            exact mtsOk_take (HZS.out y hy))
          have HMI : Hid (∀ x ∈ ha.map cutI, mtsOk x.src ∧ mtsOk x.dst) := Lib.hid (fun x hx => by
            obtain ⟨y, hy, rfl⟩ := List.mem_map.1 hx
            exact ⟨mtsOk_take (HZI.out y hy).1, mtsOk_take (HZI.out y hy).2.1⟩)
          have HRT := Lib.hid (show (rz && (ha.map cutI).all rightInh) = rightMute (sa.map cutS) (ha.map cutI) by unfold rightMute; rw [HRZ.out])
          rw [HRT.out]
          clear hsh HS1 HSL HIL HZS HZI HSA HIA HRZ HRT hsl0 hil0
          generalize sa.map cutS = sl at *
          generalize ha.map cutI = hl at *
          obtain ⟨rt, hrt⟩ : ∃ r, rightMute sl hl = r := ⟨_, rfl⟩
          rw [hrt]
          have HRT := Lib.hid hrt
          clear hrt
          have HRI := Lib.hid (show ∀ x ∈ rows, rightS x.2 = true ∧ x.2.length ≤ 3 from fun x hx => by
            have h1 : x.2 ∈ setsOf rows := List.mem_map_of_mem hx
            rw [HRS.out] at h1
            obtain ⟨q, _, hq⟩ := List.mem_map.1 h1
            rw [← hq]
            exact ⟨setF_right q, setF_len q⟩)
          obtain ⟨sets, hsets⟩ : ∃ q, rows.map Prod.snd = q := ⟨_, rfl⟩
          have HSETS := Lib.hid hsets
          clear hsets
          go_upto_block 8 with fail
          go_cut [20, 21] from 204 to 246 (fun x20 x21 wx => ∃ (Wt : Option Addr) (nw cw : Nat) (wl : List (Value × List Lbl)), x20 = .slice Wt nw cw ∧ WtAt wz S k1 cs sl H k2 ch hl Wt nw cw wl wx ∧ wl.map Prod.snd = heardF sets t sl hl)
          case first => --done5
            go_wp2_with fail
            go_loopg [20, 21, 204] K (fun g x20 x21 x204 wr => ∃ (i : Nat) (Wt : Option Addr) (nw cw : Nat), i + g = K ∧ x204 = .int .i64 i ∧ x20 = .slice Wt nw cw ∧ nw ≤ i ∧ WtAt wz S k1 cs sl H k2 ch hl Wt nw cw ((rows.take i).filter fun x => hearOne sets t sl hl x.2) wr)
            case atStart => exact ⟨0, none, 0, 0, by omega, rfl, rfl, Nat.le_refl _, ⟨HS2.out, World.ownsRow_nil _ _ _ _, fun x hx => absurd hx (by simp)⟩⟩
            case round =>
              obtain ⟨i, Wt, nw, cw, hig, rfl, rfl, hni, hwt⟩ := hrel
              have HW := Lib.hid hwt
              clear hwt HS2
              cases gk with
              | zero =>
                obtain rfl : i = K := by omega
                have HF := Lib.hid (show ((rows.take i).filter fun x => hearOne sets t sl hl x.2) = rows.filter fun x => hearOne sets t sl hl x.2 by rw [List.take_of_length_le (by rw [HRL.out]; exact Nat.le_refl _)])
                have HE := Lib.hid (show (rows.filter fun x => hearOne sets t sl hl x.2).map Prod.snd = heardF sets t sl hl by
                  unfold heardF
                  rw [← HSETS.out, List.filter_map]
                  rfl)
                go_wp2_with fail
                go_meet
                exact ⟨Wt, nw, cw, _, rfl, by rw [← HF.out]; exact HW.out, HE.out⟩
              | succ gr =>
                have hil : i < rows.length := by have := HRL.out; omega
                have hiK : i < K := by omega
                have hini : (i : Int) < K := by omega
                have hge0 : (0 : Int) ≤ i := by omega
                obtain ⟨ad, _, hXe, _⟩ := HALL.out.get hiK
                have hcl : ∀ V : World, Below wz.heap.size wz V → ∃ ad', X = some ad' ∧ V.cell? (ad'.add i) = some rows[i].1 := fun V h => by
                  obtain ⟨ad, _, h1, h2⟩ := (HALL.out.below h).get hiK; exact ⟨ad, h1, h2⟩
                have hhl := HALL.out.each rows[i] (List.getElem_mem hil)
                have HFN := Lib.hid (filter_more hil fun x => hearOne sets t sl hl x.2)
                have hm1 := fun (V : World) (h : ShAt wz S k1 cs sl H k2 ch hl V) => refMuted_any X K cx rows i t S k1 cs sl none 0 0 [] V (HALL.out.below h.bel) h.sils InhsAt.nil (by omega) (by omega) (by omega) hil (fun x hx => (HRI.out x hx).1) HMS.out (fun x hx => absurd hx List.not_mem_nil)
                have hm2 := fun (V : World) (h : ShAt wz S k1 cs sl H k2 ch hl V) => refMuted_any X K cx rows i t none 0 0 [] H k2 ch hl V (HALL.out.below h.bel) SilsAt.nil h.inhs (by omega) (by omega) (by omega) hil (fun x hx => (HRI.out x hx).1) (fun x hx => absurd hx List.not_mem_nil) HMI.out
                have hm3 := fun (V : World) (h : ShAt wz S k1 cs sl H k2 ch hl V) => refMuted_any X K cx rows i t S k1 cs sl H k2 ch hl V (HALL.out.below h.bel) h.sils h.inhs (by omega) (by omega) (by omega) hil (fun x hx => (HRI.out x hx).1) HMS.out HMI.out
                have hs1 := fun (V : World) (h : ShAt wz S k1 cs sl H k2 ch hl V) => silenced_any rows[i].1 rows[i].2 t S k1 cs sl V (hhl.below h.bel) h.sils (by omega)
                have hi1 := fun (V : World) (h : ShAt wz S k1 cs sl H k2 ch hl V) => inhibited_any X K cx rows i H k2 ch hl V (HALL.out.below h.bel) h.inhs (by omega) (by omega) hil
                rw [HSETS.out] at hm1 hm2 hm3 hi1
                have hf1 : ∀ l, inhF sets l ([] : List Inh) = false := fun l => rfl
                have hf2 : ∀ l, silF l t ([] : List Sil) = false := fun l => rfl
                simp only [hf1, Bool.or_false] at hm1
                simp only [hf2, Bool.false_or] at hm2
                clear hf1 hf2
                have hho : hearOne sets t sl hl rows[i].2 = !(silF rows[i].2 t sl || inhF sets rows[i].2 hl) := by unfold hearOne; rw [Bool.not_or]
                generalize rows[i] = rw_ at *
                obtain ⟨v, l⟩ := rw_
                simp only at hcl hhl hm1 hm2 hm3 hs1 hi1 hho HFN
                obtain ⟨Al, cl', rfl⟩ := hhl.form
                obtain ⟨b1, hb1⟩ : ∃ b, silF l t sl = b := ⟨_, rfl⟩
                obtain ⟨b2, hb2⟩ : ∃ b, inhF sets l hl = b := ⟨_, rfl⟩
                rw [hb1] at hm1 hm3 hs1 hho
                rw [hb2] at hm2 hm3 hi1 hho
                rw [hho] at HFN
                subst hXe
                have HCL := Lib.hid (show ∀ V : World, Below wz.heap.size wz V → V.cell? (ad.add i) = some (.slice Al l.length cl') from fun V h => by
                  obtain ⟨ad', h1, h2⟩ := hcl V h; injection h1 with h1; subst h1; exact h2)
                have HM1 := Lib.hid hm1; have HM2 := Lib.hid hm2; have HM3 := Lib.hid hm3; have HI1 := Lib.hid hi1; have HS1 := Lib.hid hs1
                have HHL := Lib.hid hhl
                clear hm1 hm2 hm3 hs1 hi1 hb1 hb2 hho hcl hhl
                have e3 := HCL.out _ HW.out.sh.bel
                have t1 : (b1 != b1) = false := by simp
                have t2 : (b2 != b2) = false := by simp
                go_wp2_with fail
                (with_reducible refine (HS1.out _ HW.out.sh).mono ?_); rintro e w5 ⟨rfl, hb⟩
                have HW_n := Lib.hid (HW.out.below hb); clear HW; have HW := HW_n; clear HW_n
                clear hb e3
                go_wp2_with fail
                (with_reducible refine (HM1.out _ HW.out.sh).mono ?_); rintro e w5 ⟨rfl, hb⟩
                have HW_n := Lib.hid (HW.out.below hb); clear HW; have HW := HW_n; clear HW_n
                clear hb
                go_wp2_with fail
                (with_reducible refine (HI1.out _ HW.out.sh).mono ?_); rintro e w5 ⟨rfl, hb⟩
                have HW_n := Lib.hid (HW.out.below hb); clear HW; have HW := HW_n; clear HW_n
                clear hb
                go_wp2_with fail
                (with_reducible refine (HM2.out _ HW.out.sh).mono ?_); rintro e w5 ⟨rfl, hb⟩
                have HW_n := Lib.hid (HW.out.below hb); clear HW; have HW := HW_n; clear HW_n
                clear hb
                go_wp2_with fail
                (with_reducible refine (HM3.out _ HW.out.sh).mono ?_); rintro e w6 ⟨rfl, hb⟩
                have HW_n := Lib.hid (HW.out.below hb); clear HW; have HW := HW_n; clear HW_n
                clear hb
                obtain ⟨b3, hb3⟩ : ∃ b, (b1 || b2) = b := ⟨_, rfl⟩
                rw [hb3] at HFN
                rw [hb3]
                clear hb3 t1 t2 HM1 HM2 HM3 HI1 HS1
                cases b3 with
                | true =>
                  have HN := Lib.hid (show ((rows.take (i + 1)).filter fun x => hearOne sets t sl hl x.2) = (rows.take i).filter fun x => hearOne sets t sl hl x.2 by rw [HFN.out]; simp)
                  go_wp2_with fail
                  go_roundg gr
                  case measure => omega
                  case rel => exact ⟨i + 1, Wt, nw, cw, by omega, by go_num, rfl, by omega, by rw [HN.out]; exact HW.out⟩
                | false =>
                  have HN := Lib.hid (show ((rows.take (i + 1)).filter fun x => hearOne sets t sl hl x.2) = ((rows.take i).filter fun x => hearOne sets t sl hl x.2) ++ [(.slice Al l.length cl', l)] by rw [HFN.out]; simp)
                  have e3 := HCL.out _ HW.out.sh.bel
                  have HWA := Lib.hid (HW.out.alloc (.cells #[.slice Al l.length cl'] 24))
                  have HXX := Lib.hid (show Sees (w6.alloc (.cells #[.slice Al l.length cl'] 24)) (w6.alloc (.cells #[.slice Al l.length cl'] 24)).heap.size 1 (some ⟨w6.heap.size, 0, none⟩) 1 [.slice Al l.length cl'] from (Blk.mk (heap_alloc_new w6 _) : Blk _ w6.heap.size 24 [.slice Al l.length cl']).sees rfl (List.prefix_refl _))
                  have hbl := HWA.out.sh.bel.size
                  generalize ((rows.take i).filter fun x => hearOne sets t sl hl x.2) = wl at *
                  go_wp2_with (at_builtin; refine wpList_append_at rfl (.tmp 239) (.tmp 244) 32 rfl wz.heap.size 24 i0 (.slice none 0 0) 1 24 Try.underlying32 hi0 hz0 hz1 hz2 rfl (by decide) (.slice Wt nw cw) nw (wl.map Prod.fst) rfl HWA.out.row _ _ 1 1 [.slice Al l.length cl'] rfl HXX.out (by intro u hu; rw [List.mem_singleton] at hu; subst hu; rfl) (by unfold maxLen; omega) (by omega) hbl ?_)
                  intro v9 w9 hown9 hgr9 hwh9
                  obtain ⟨A9, c9, rfl, _, _⟩ := own_slice hown9
                  have HWN := Lib.hid (HWA.out.push HHL.out hown9 hgr9)
                  clear hown9 hgr9 hwh9 HWA HXX hbl e3 HW
                  go_wp2_with fail
                  go_roundg gr
                  case measure => omega
                  case rel => exact ⟨i + 1, A9, nw + 1, c9, by omega, by go_num, rfl, by omega, by rw [HN.out]; exact HWN.out⟩
          case rest =>
            obtain ⟨Wt, nw, cw, wl, rfl, hwt, hwl⟩ := hcut
            have HWT := Lib.hid hwt
            have HWL := Lib.hid hwl
            have HLW := Lib.hid hwt.len
            have hh := heard_any X K cx rows t S k1 cs sl H k2 ch hl wc (HALL.out.below hwt.sh.bel) hwt.sh.sils hwt.sh.inhs (by omega) (by omega) (by omega) (fun x hx => by have := (HRI.out x hx).2; omega)
            rw [show setsOf rows = sets from HSETS.out] at hh
            have HH := Lib.hid hh
            clear hwt hwl HS2 hh
            have hnw : nw ≤ 6 := by
              have h1 := HLW.out
              have h2 := congrArg List.length HWL.out
              rw [List.length_map] at h2
              have h3 : (heardF sets t sl hl).length ≤ sets.length := List.length_filter_le _ _
              have h4 : sets.length = K := by rw [← HSETS.out, List.length_map]; exact HRL.out
              omega
            go_wp2_with fail
            (with_reducible refine HH.out.mono ?_); rintro e w5 ⟨GA, gc, gr, hgr, rfl, hgo, hb, hgc1, hgc2⟩
            have HW5 := Lib.hid (HWT.out.below hb)
            have hgn : gr.length = nw := by
              have h1 := congrArg List.length hgr
              have h2 := congrArg List.length HWL.out
              unfold setsOf at h1
              rw [List.length_map] at h1 h2
              have := HLW.out
              omega
            have HGS := Lib.hid (show SetsAt w5 GA nw gr by have h := hgo.sets; rwa [hgn] at h)
            have HGE := Lib.hid (show gr.map Prod.snd = wl.map Prod.snd from hgr.trans HWL.out.symm)
            rw [hgn]
            have HGN := Lib.hid hgn
            clear hb hgr hgo hgc1 hgc2 hgn HH HWT
            have hrm := rightMute_any S k1 cs sl H k2 ch hl w5 HW5.out.sh.sils HW5.out.sh.inhs (by omega) (by omega)
            rw [HRT.out] at hrm
            have HRM := Lib.hid hrm
            clear hrm
            have t1 : (rt != rt) = false := by simp
            have hnn : ((nw : Int) != nw) = false := by simp
            go_upto_region 35 with fail
            go_cut [279] from 252 to 278 (fun x279 wx => x279 = .bool false ∧ Below w5.heap.size w5 wx)
            case first =>
              by_cases hx1 : ix < 0
              · have HIO := Lib.hid (fun V => inhibited_out X K cx ix (.slice H k2 ch) V (by omega) (.inl hx1))
                have HX1 := Lib.hid hx1
                go_wp2_with fail
                (with_reducible refine HRM.out.mono ?_); rintro e w6 ⟨rfl, hb6⟩
                have HB6 := Lib.hid hb6
                clear hb6
                go_wp2_with fail
                (with_reducible refine (HIO.out _).mono ?_); rintro e w7 ⟨rfl, hb7⟩
                have HB7 := Lib.hid (HB6.out.trans (hb7.mono HB6.out.size))
                clear hb7
                go_wp2_with fail
                go_meet
                exact ⟨rfl, HB7.out⟩
              · by_cases hx2 : (K : Int) ≤ ix
                · have HIO := Lib.hid (fun V => inhibited_out X K cx ix (.slice H k2 ch) V (by omega) (.inr hx2))
                  go_wp2_with fail
                  (with_reducible refine HRM.out.mono ?_); rintro e w6 ⟨rfl, hb6⟩
                  have HB6 := Lib.hid hb6
                  clear hb6
                  go_wp2_with fail
                  (with_reducible refine (HIO.out _).mono ?_); rintro e w7 ⟨rfl, hb7⟩
                  have HB7 := Lib.hid (HB6.out.trans (hb7.mono HB6.out.size))
                  clear hb7
                  go_wp2_with fail
                  go_meet
                  exact ⟨rfl, HB7.out⟩
                · go_wp2_with fail
                  (with_reducible refine HRM.out.mono ?_); rintro e w6 ⟨rfl, hb6⟩
                  have HB6 := Lib.hid hb6
                  clear hb6
                  go_wp2_with fail
                  go_meet
                  exact ⟨rfl, HB6.out⟩
            case rest =>
              obtain ⟨rfl, hbx⟩ := hcut
              have HBX := Lib.hid hbx
              clear hbx t1 hnn HRM
              go_wp2_with fail
              go_loopg [23, 282] nw (fun g x23 x282 wr => ∃ i : Nat, i + g = nw ∧ x282 = .int .i64 i ∧ Below w5.heap.size w5 wr)
              case atStart => exact ⟨0, by omega, rfl, HBX.out⟩
              case round =>
                obtain ⟨i, hig, rfl, hbr⟩ := hrel
                have HB := Lib.hid hbr
                clear hbr HBX
                cases gk with
                | zero =>
                  obtain rfl : i = nw := by omega
                  have HMR := Lib.hid (mute_runs wr)
                  go_wp2_with fail
                  (with_reducible refine HMR.out.mono ?_); rintro e w9 ⟨rfl, hb9⟩
                  have HB9 := Lib.hid (HBZ.out.trans ((HW5.out.sh.bel.trans ((HB.out.trans (hb9.mono HB.out.size)).mono HW5.out.sh.bel.size)).mono HBZ.out.size))
                  clear hb9
                  go_wp2_with fail
                  go_ret
                  exact ⟨rfl, HB9.out⟩
                | succ gq =>
                  have hin : i < nw := by omega
                  have hini : (i : Int) < nw := by omega
                  have hge0 : (0 : Int) ≤ i := by omega
                  obtain ⟨adg, hgl, hGe, _⟩ := HGS.out.get hin
                  obtain ⟨adw, hwl2, hWe, _⟩ := HW5.out.sets.get hin
                  have hcg : ∀ V : World, Below w5.heap.size w5 V → ∃ ad', GA = some ad' ∧ V.cell? (ad'.add i) = some gr[i].1 := fun V h => by
                    obtain ⟨ad, _, h1, h2⟩ := (HGS.out.below h).get hin; exact ⟨ad, h1, h2⟩
                  have hcw : ∀ V : World, Below w5.heap.size w5 V → ∃ ad', Wt = some ad' ∧ V.cell? (ad'.add i) = some wl[i].1 := fun V h => by
                    obtain ⟨ad, _, h1, h2⟩ := (HW5.out.sets.below h).get hin; exact ⟨ad, h1, h2⟩
                  have hgl1 := HGS.out.each gr[i] (List.getElem_mem hgl)
                  have hwl1 := HW5.out.sets.each wl[i] (List.getElem_mem hwl2)
                  have hee : gr[i].2 = wl[i].2 := by
                    have h1 : (gr.map Prod.snd)[i]'(by rw [List.length_map]; exact hgl) = (wl.map Prod.snd)[i]'(by rw [List.length_map]; exact hwl2) := by simp only [HGE.out]
                    simpa using h1
                  have hlz : wl[i].2.length ≤ 1000 := by
                    have h1 : wl[i].2 ∈ heardF sets t sl hl := by rw [← HWL.out]; exact List.mem_map_of_mem (List.getElem_mem hwl2)
                    have h2 : wl[i].2 ∈ sets := (List.mem_filter.1 h1).1
                    rw [← HSETS.out] at h2
                    obtain ⟨x, hx, he⟩ := List.mem_map.1 h2
                    have h3 := (HRI.out x hx).2
                    rw [he] at h3; omega
                  have hsm := fun (V : World) (h : Below w5.heap.size w5 V) => same_h (hgl1.below h) (hwl1.below h) (by rw [hee]; exact hlz) hlz
                  generalize gr[i] = gp at *
                  generalize wl[i] = wp at *
                  obtain ⟨gv, gl⟩ := gp
                  obtain ⟨wv, l⟩ := wp
                  simp only at hcg hcw hgl1 hwl1 hee hsm hlz
                  subst hee
                  obtain ⟨Ag, cg, rfl⟩ := hgl1.form
                  obtain ⟨Aw, cl2, rfl⟩ := hwl1.form
                  have HSM := Lib.hid (show ∀ V : World, Below w5.heap.size w5 V → Calls Try.prog 16 #[.slice Ag gl.length cg, .slice Aw gl.length cl2] V fun e w' => e = .returned (.bool true) ∧ Below V.heap.size V w' from fun V h => (hsm V h).mono fun e w' hh => by
                    obtain ⟨h1, m, rfl⟩ := hh
                    rw [decide_eq_true rfl] at h1
                    refine ⟨h1, ?_⟩
                    clear h1
                    induction m with
                    | zero => exact Below.refl _ _
                    | succ m ih => exact ih.drew)
                  have HCG := Lib.hid (show ∀ V : World, Below w5.heap.size w5 V → V.cell? (adg.add i) = some (.slice Ag gl.length cg) from fun V h => by
                    obtain ⟨ad', h1, h2⟩ := hcg V h; rw [hGe] at h1; injection h1 with h1; subst h1; exact h2)
                  have HCW := Lib.hid (show ∀ V : World, Below w5.heap.size w5 V → V.cell? (adw.add i) = some (.slice Aw gl.length cl2) from fun V h => by
                    obtain ⟨ad', h1, h2⟩ := hcw V h; rw [hWe] at h1; injection h1 with h1; subst h1; exact h2)
                  subst hGe hWe
                  clear hcg hcw hgl1 hwl1 hsm hlz
                  go_upto_region 40 with fail
                  refine wp_region_facts (R := fun a b => Below a.heap.size a b) (G := (fun W => Below w5.heap.size w5 W)) (V := fun i' u' W => match i' with | 0 => u' = .slice (some adg) nw gc | 1 => u' = .int .i64 i | 2 => u' = .pointer (some (adg.add i)) | 3 => u' = .slice Ag gl.length cg | 4 => u' = .slice (some adw) nw cw | 5 => u' = .int .i64 i | 6 => u' = .pointer (some (adw.add i)) | 7 => u' = .slice Aw gl.length cl2 | 8 => u' = .bool true | 9 => u' = .bool false | _ => True) (by kernel_rfl) (fun w => Below.refl _ _) (fun a b c h1 h2 => h1.trans (h2.mono h1.size)) (by kernel_rfl) (by kernel_rfl) ?hG ⟨?o0, ?o1, ?o2, ?o3, ?o4, ?o5, ?o6, ?o7, ?o8, ?o9, trivial⟩ ?hend
                  case o0 =>
                    intro a w hfr hG hd
                    refine ⟨fun hw => ?_, fun hw => absurd hw (by simp [Region.wanted])⟩
                    have s22 : a.tmps.getD 22 undef = .slice (some adg) nw gc := hfr.at 22 (by kernel_rfl)
                    refine op_yields (.slice (some adg) nw gc) ?_ ?_ ?_
                    · simp only [execOp, resolve, List.map_toArray, List.map_cons, List.map_nil, Act.eval, s22]; simp [go_sem, -Array.getD_eq_getD_getElem?, s22]
                    · exact Below.refl _ _
                    · exact (fun _ _ => rfl)
                  case o1 =>
                    intro a w hfr hG hd
                    refine ⟨fun hw => ?_, fun hw => absurd hw (by simp [Region.wanted])⟩
                    have s23 : a.tmps.getD 23 undef = .int .i64 i := hfr.at 23 (by kernel_rfl)
                    refine op_yields (.int .i64 i) ?_ ?_ ?_
                    · simp only [execOp, resolve, List.map_toArray, List.map_cons, List.map_nil, Act.eval, s23]; simp [go_sem, -Array.getD_eq_getD_getElem?, s23]
                    · exact Below.refl _ _
                    · exact (fun _ _ => rfl)
                  case o2 =>
                    intro a w hfr hG hd
                    obtain ⟨d0, d1, _⟩ := hd
                    refine ⟨fun hw => ?_, fun hw => absurd hw (by simp [Region.wanted])⟩
                    have s285 : a.tmps.getD 285 undef = .slice (some adg) nw gc := (d0 rfl).now
                    have s286 : a.tmps.getD 286 undef = .int .i64 i := (d1 rfl).now
                    refine op_yields (.pointer (some (adg.add i))) ?_ ?_ ?_
                    · simp only [execOp, resolve, List.map_toArray, List.map_cons, List.map_nil, Act.eval, s285, s286]; simp [go_sem, -Array.getD_eq_getD_getElem?, s285, s286, hge0, hini]
                    · exact Below.refl _ _
                    · exact (fun _ _ => rfl)
                  case o3 =>
                    intro a w hfr hG hd
                    obtain ⟨d0, _⟩ := hd
                    refine ⟨fun hw => ?_, fun hw => absurd hw (by simp [Region.wanted])⟩
                    have s287 : a.tmps.getD 287 undef = .pointer (some (adg.add i)) := (d0 rfl).now
                    have e9 := HCG.out w hG.now
                    refine op_yields (.slice Ag gl.length cg) ?_ ?_ ?_
                    · simp only [execOp, resolve, List.map_toArray, List.map_cons, List.map_nil, Act.eval, s287]; simp [go_sem, -Array.getD_eq_getD_getElem?, s287, e9, e9]
                    · exact Below.refl _ _
                    · exact (fun _ _ => rfl)
                  case o4 =>
                    intro a w hfr hG hd
                    refine ⟨fun hw => ?_, fun hw => absurd hw (by simp [Region.wanted])⟩
                    have s20 : a.tmps.getD 20 undef = .slice (some adw) nw cw := hfr.at 20 (by kernel_rfl)
                    refine op_yields (.slice (some adw) nw cw) ?_ ?_ ?_
                    · simp only [execOp, resolve, List.map_toArray, List.map_cons, List.map_nil, Act.eval, s20]; simp [go_sem, -Array.getD_eq_getD_getElem?, s20]
                    · exact Below.refl _ _
                    · exact (fun _ _ => rfl)
                  case o5 =>
                    intro a w hfr hG hd
                    refine ⟨fun hw => ?_, fun hw => absurd hw (by simp [Region.wanted])⟩
                    have s23 : a.tmps.getD 23 undef = .int .i64 i := hfr.at 23 (by kernel_rfl)
                    refine op_yields (.int .i64 i) ?_ ?_ ?_
                    · simp only [execOp, resolve, List.map_toArray, List.map_cons, List.map_nil, Act.eval, s23]; simp [go_sem, -Array.getD_eq_getD_getElem?, s23]
                    · exact Below.refl _ _
                    · exact (fun _ _ => rfl)
                  case o6 =>
                    intro a w hfr hG hd
                    obtain ⟨d0, d1, _⟩ := hd
                    refine ⟨fun hw => ?_, fun hw => absurd hw (by simp [Region.wanted])⟩
                    have s289 : a.tmps.getD 289 undef = .slice (some adw) nw cw := (d0 rfl).now
                    have s290 : a.tmps.getD 290 undef = .int .i64 i := (d1 rfl).now
                    refine op_yields (.pointer (some (adw.add i))) ?_ ?_ ?_
                    · simp only [execOp, resolve, List.map_toArray, List.map_cons, List.map_nil, Act.eval, s289, s290]; simp [go_sem, -Array.getD_eq_getD_getElem?, s289, s290, hge0, hini]
                    · exact Below.refl _ _
                    · exact (fun _ _ => rfl)
                  case o7 =>
                    intro a w hfr hG hd
                    obtain ⟨d0, _⟩ := hd
                    refine ⟨fun hw => ?_, fun hw => absurd hw (by simp [Region.wanted])⟩
                    have s291 : a.tmps.getD 291 undef = .pointer (some (adw.add i)) := (d0 rfl).now
                    have e9 := HCW.out w hG.now
                    refine op_yields (.slice Aw gl.length cl2) ?_ ?_ ?_
                    · simp only [execOp, resolve, List.map_toArray, List.map_cons, List.map_nil, Act.eval, s291]; simp [go_sem, -Array.getD_eq_getD_getElem?, s291, e9, e9]
                    · exact Below.refl _ _
                    · exact (fun _ _ => rfl)
                  case o8 =>
                    intro a w hfr hG hd
                    obtain ⟨d0, d1, _⟩ := hd
                    refine ⟨fun hw => ?_, fun hw => absurd hw (by simp [Region.wanted])⟩
                    have s288 : a.tmps.getD 288 undef = .slice Ag gl.length cg := (d0 rfl).now
                    have s292 : a.tmps.getD 292 undef = .slice Aw gl.length cl2 := (d1 rfl).now
                    refine op_calls2 ((HSM.out w hG.now).mono fun e' w' hh => ⟨_, hh.1, hh.2, (fun _ _ => rfl)⟩) ?_
                    simp only [execOp, resolve, List.map_toArray, List.map_cons, List.map_nil, Act.eval, s288, s292]; simp [go_sem, -Array.getD_eq_getD_getElem?, s288, s292]
                  case o9 =>
                    intro a w hfr hG hd
                    obtain ⟨d0, _⟩ := hd
                    refine ⟨fun hw => ?_, fun hw => absurd hw (by simp [Region.wanted])⟩
                    have s293 : a.tmps.getD 293 undef = .bool true := (d0 rfl).now
                    refine op_yields (.bool false) ?_ ?_ ?_
                    · simp only [execOp, resolve, List.map_toArray, List.map_cons, List.map_nil, Act.eval, s293]; simp [go_sem, -Array.getD_eq_getD_getElem?, s293]
                    · exact Below.refl _ _
                    · exact (fun _ _ => rfl)
                  case hG => exact fun w' hb => HB.out.trans ((Below.refl _ _).drew.trans (hb.mono (by simp))|>.mono HB.out.size)
                  case hend =>
                    intro vs w' hG hv
                    have key : vs 9 = .bool false := by
                      obtain ⟨_, _, _, _, _, _, _, _, _, h9, _⟩ := hv
                      exact h9.now
                    have HB2 := Lib.hid hG.now
                    clear hv hG HB HSM HCG HCW
                    simp only [putAll, Act.put, key]
                    clear key
                    go_simp
                    go_wp2_with fail
                    go_roundg gq
                    case measure => omega
                    case rel => exact ⟨i + 1, by omega, by go_num, HB2.out⟩
end Go.Proofs.Ytfcjalojgmpnoaa
