/- store.Cut. -/
import Derived.Test.YthbinnbnmckmfaaStoLaw
namespace Go.Proofs.Ythbinnbnmckmfaa
open Go.ChangeShapes Go.WideShapes Go.ChangeAt Go.RowKit
set_option linter.unusedVariables false
set_option linter.unusedSimpArgs false
set_option maxRecDepth 100000
/-- What Cut leaves, and how many samples go. -/
def cutOne (t : Int) (x : SK) : List SK := if (x.2.drop (nAhd x.2 t)).isEmpty then [] else [(x.1, x.2.drop (nAhd x.2 t))]
def cutS (D : List SK) (t : Int) : List SK := D.flatMap (cutOne t)
def goneS (D : List SK) (t : Int) : Nat := (D.map fun x => nAhd x.2 t).sum
def CutAns (g : Nat) (v : Value) (L : List SR) (t : Int) (w : World) (e : Ending) (w' : World) : Prop :=
  ∃ v' L', e = .returned (.int .i64 (goneS (keys L) t)) ∧ keys L' = cutS (keys L) t ∧ StAt g v' L' w' ∧ TurnS g v w w' ∧ ∀ k, v'.ownBlock = some k → w.heap.size ≤ k
/-- Rows of the call's own. -/
structure RowsAt (base : Nat) (v : Value) (L : List SR) (w : World) : Prop where
  own : w.ownsRow base 71 3 v L.length (srs L)
  each : ∀ x ∈ L, x.ok w
theorem RowsAt.below {base : Nat} {v : Value} {L : List SR} {w w' : World} (h : RowsAt base v L w) (hb : Below w.heap.size w w') : RowsAt base v L w' := ⟨own_below h.own hb (Nat.le_refl _), fun x hx => (h.each x hx).below hb⟩
theorem RowsAt.nil (base : Nat) (w : World) : RowsAt base (.slice none 0 0) [] w := ⟨by simpa [srs] using World.ownsRow_nil w base 71 3, fun x hx => absurd hx List.not_mem_nil⟩
theorem RowsAt.push {base : Nat} {v v' : Value} {x : SR} {L : List SR} {w w' : World} (h : RowsAt base v L w) (hx : x.ok w) (hown : w'.ownsRow base 71 3 v' (L.length + 1) (srs L ++ x.cells)) (hg : w.grownBy w' v.ownBlock) : RowsAt base v' (L ++ [x]) w' := by
  have key : ∀ y : SR, y.ok w → y.ok w' := fun y hy => ⟨own_grown hy.set_ hg (own_ne hy.set_ h.own (by decide)), own_grown hy.smp_ hg (own_ne hy.smp_ h.own (by decide))⟩
  refine ⟨by rw [srs_append]; simpa [srs] using hown, fun y hy => ?_⟩
  rcases List.mem_append.1 hy with hy | hy
  · exact key y (h.each y hy)
  · rw [List.mem_singleton] at hy; subst hy; exact key _ hx
theorem keys_push (L : List SR) (x : SR) : keys (L ++ [x]) = keys L ++ [x.key] := by simp [keys]
theorem gone_more {D : List SK} {t : Int} {k : Nat} (h : k < D.length) : goneS (D.take (k + 1)) t = goneS (D.take k) t + nAhd D[k].2 t := by
  unfold goneS; rw [List.take_succ_eq_append_getElem h, List.map_append, List.sum_append]; simp
set_option maxHeartbeats 4000000 in
theorem scut_any (g : Nat) (v : Value) (L : List SR) (t : Int) (w : World) (h : StAt g v L w) (hn : L.length ≤ 1000) (hsl : ∀ x ∈ L, x.ss.length ≤ 1000) :
    Calls Try.prog 20 #[.pointer (some ⟨g, 0, none⟩), .int .i64 t] w (CutAns g v L t w) := by
  obtain ⟨i0, hi0, hz0, hz1, hz2⟩ := info_parts Try.infoRow
  obtain ⟨A, c, rfl, hc1, hc2⟩ := own_slice h.rows
  have hc0 : w.cell? ⟨g, 0, none⟩ = some (.slice A L.length c) := h.box.cell 0
  have hg := h.box.lt
  have HT : Hid (∀ V, Below w.heap.size w V → StAt g (.slice A L.length c) L V) := Lib.hid fun V hV => h.below hV
  clear h
  obtain ⟨m, hm⟩ : ∃ m, L.length = m := ⟨_, rfl⟩
  have HM := Lib.hid hm
  rw [hm] at hc0 hc1 hn HT ⊢
  clear hm
  obtain ⟨GN, hGN⟩ : ∃ x, goneS (keys L) t = x := ⟨_, rfl⟩
  have HGN := Lib.hid hGN
  clear hGN
  go_enter Try.func20, Try.ntmps20
  go_wp2_with fail
  go_loopg [5, 6, 16] m (fun gg x5 x6 x16 wr => ∃ (k q : Nat) (X : Option Addr) (cx : Nat) (rows : List SR), k + gg = m ∧ x16 = .int .i64 k ∧ x5 = .int .i64 q ∧ x6 = .slice X rows.length cx ∧ RowsAt w.heap.size (.slice X rows.length cx) rows wr ∧ Below w.heap.size w wr ∧ rows.length ≤ k ∧ q ≤ 1000 * k ∧ q = goneS ((keys L).take k) t ∧ keys rows = ((keys L).take k).flatMap (cutOne t))
  case atStart => exact ⟨0, 0, none, 0, [], by omega, rfl, rfl, rfl, RowsAt.nil _ _, Below.refl _ _, by simp, by omega, by simp [goneS], by simp [keys]⟩
  case round =>
    obtain ⟨k, q, X, cx, rows, hkg, rfl, rfl, rfl, hrow, hbel, hrl, hq, hqs, hrs⟩ := hrel
    have HR := Lib.hid hrow; have HB := Lib.hid hbel; have HS := Lib.hid hrs; have HQ := Lib.hid hqs
    have hws := hbel.size
    have HST := Lib.hid (HT.out _ hbel)
    have hgw : g < wr.heap.size := by omega
    clear hrow hbel hrs hqs
    cases gk with
    | zero =>
      obtain rfl : k = m := by omega
      have hTL : (keys L).take k = keys L := List.take_of_length_le (by rw [keys_length, HM.out]; exact Nat.le_refl _)
      have HE := Lib.hid (show q = GN by rw [HQ.out, hTL, HGN.out])
      have HE2 := Lib.hid (show keys rows = cutS (keys L) t by rw [HS.out, hTL]; rfl)
      obtain ⟨X', cx', h1, h2, h3⟩ := own_slice HR.out.own
      injection h1 with h1 _ h4; subst h1; subst h4
      have d0 := HST.out.box.cell 0
      simp only [List.getElem?_cons_zero] at d0
      have df := HST.out.box.frozen 0
      have hbox := HST.out.box
      have HANS : Hid (CutAns g (.slice A k c) L t w (.returned (.int .i64 q)) (wr.setCell ⟨g, 0, none⟩ (.slice X rows.length cx))) := Lib.hid (by
        have key : ∀ (e : TypeId) (b s nn : Nat) (vv : Value) (ys : List Value), wr.ownsRow b e s vv nn ys → e ≠ 63 → (wr.setCell ⟨g, 0, none⟩ (.slice X rows.length cx)).ownsRow b e s vv nn ys := fun e b s nn vv ys ho h1 =>
          own_same ho fun kk hk _ => Below.heap_setCell wr _ _ kk (fun e2 => by
            have e2 : kk = g := e2
            rw [e2] at hk; exact own_blk_ne ho hbox h1 hk)
        refine ⟨.slice X rows.length cx, rows, by rw [HE.out, HGN.out], HE2.out, ⟨hbox.set 0 _, own_mono (key _ _ _ _ _ _ HR.out.own (by decide)) (Nat.zero_le _), fun x hx => ⟨key _ _ _ _ _ _ (HR.out.each x hx).set_ (by decide), key _ _ _ _ _ _ (HR.out.each x hx).smp_ (by decide)⟩⟩, ⟨HB.out.os, HB.out.tape, HB.out.output, by simpa using HB.out.size, fun kk hk h1 _ => (Below.heap_setCell wr _ _ kk h1).trans (HB.out.block kk hk)⟩, fun kk hk => (HR.out.own.lt kk hk).1⟩)
      clear hbox HE HE2 hTL HS HQ
      go_wp2_with fail
      go_ret
      exact HANS.out
    | succ gg =>
      have hlt : k < m := by omega
      have hkl : k < L.length := by rw [HM.out]; exact hlt
      obtain ⟨ad, hA, hal, c0, c1, hser, hl⟩ := HST.out.row hkl
      subst hA
      have c2 := hser.cell
      have hok := HST.out.each L[k] (List.getElem_mem _)
      have hlen := hsl L[k] (List.getElem_mem _)
      have HF := Lib.hid (flatMap_more (cutOne t) (show k < (keys L).length by rw [keys_length]; exact hkl))
      have HGM := Lib.hid (gone_more (t := t) (show k < (keys L).length by rw [keys_length]; exact hkl))
      rw [keys_get hkl] at HF HGM
      have HSM := Lib.hid hok.smp_; have HSE := Lib.hid hok.set_
      clear hser hl hok HST
      generalize L[k].set = l at *
      generalize L[k].sv = sv at *
      generalize L[k].ss = ss at *
      generalize L[k].xv = xv at *
      obtain ⟨S0, s0, rfl, _, _⟩ := own_slice HSE.out
      obtain ⟨Y0, y0, rfl, _, _⟩ := own_slice HSM.out
      have hnl := nAhd_le ss t
      obtain ⟨tx, htx⟩ : ∃ x, txt l = x := ⟨_, rfl⟩
      rw [htx] at c0
      have HTX := Lib.hid htx
      clear htx
      obtain ⟨WB, hWB⟩ : ∃ V, wr.alloc (.cells #[.string tx, .slice S0 l.length s0, .slice Y0 ss.length y0] 71) = V := ⟨_, rfl⟩
      obtain ⟨bb, hbb⟩ : ∃ b, wr.heap.size = b := ⟨_, rfl⟩
      have hbB : Below wr.heap.size wr WB := by rw [← hWB]; exact (Below.refl _ _).alloc (Nat.le_refl _) _
      have hkB : Blk WB bb 71 [.string tx, .slice S0 l.length s0, .slice Y0 ss.length y0] := by rw [← hWB, ← hbb]; exact Blk.mk (heap_alloc_new wr _)
      have HKB := Lib.hid hkB
      have HBB := Lib.hid hbB
      have HSER : Hid (SerP ss WB bb 2 (.slice Y0 ss.length y0)) := Lib.hid ⟨hkB.cell 2, hkB.frozen 2, hkB.lt, own_below HSM.out hbB (Nat.le_refl _)⟩
      have hszB : WB.heap.size = bb + 1 := by rw [← hWB, ← hbb]; simp
      have HWB := Lib.hid (And.intro hbb hWB)
      clear hWB hbb hbB hkB
      have HCUT := Lib.hid (cut_p ss bb 2 _ t WB HSER.out (by omega))
      have HCT : Hid (cutOne t (l, ss) = if (ss.drop (nAhd ss t)).isEmpty then [] else [(l, ss.drop (nAhd ss t))]) := Lib.hid rfl
      generalize nAhd ss t = na at *
      go_wp2_with fail
      rw [HWB.out.2]
      try rw [HWB.out.1]
      (with_reducible refine HCUT.out.mono ?_); rintro e W2 ⟨v2, w3, rfl, hb3, rfl, hown3⟩
      have hws3 := hb3.size
      have HK2 := Lib.hid ((HKB.out.below hb3 HKB.out.lt).set 2 v2)
      have HB2 : Hid (Below wr.heap.size wr (w3.setCell ⟨bb, 2, none⟩ v2)) := Lib.hid ((HBB.out.trans (hb3.mono (by have := HBB.out.size; omega))).setCell (by have := HWB.out.1; show wr.heap.size ≤ bb; omega) v2)
      have HSM2 := Lib.hid (own_mono (own_far hown3 (p := ⟨bb, 2, none⟩) (show bb < _ by omega) v2) (Nat.zero_le _))
      have HSER2 : Hid (SerP (ss.drop na) (w3.setCell ⟨bb, 2, none⟩ v2) bb 2 v2) := Lib.hid ⟨HK2.out.cell 2, HK2.out.frozen 2, HK2.out.lt, HSM2.out⟩
      clear hb3 hown3 HCUT HSER HKB HBB hszB hws3 c0 c1 c2 hal
      generalize w3.setCell ⟨bb, 2, none⟩ v2 = W2 at *
      have hdl : (ss.drop na).length ≤ 1000 := by rw [List.length_drop]; omega
      generalize ss.drop na = ds at *
      obtain ⟨Z0, z0, rfl, _, _⟩ := own_slice HSM2.out
      cases ds with
      | nil =>
        have HN := Lib.hid (show keys rows = ((keys L).take (k + 1)).flatMap (cutOne t) by rw [HF.out, HS.out, HCT.out]; simp)
        have HL := Lib.hid (lastp_none bb 2 _ W2 HSER2.out)
        have HG2 := Lib.hid (show q + na = goneS ((keys L).take (k + 1)) t by rw [HGM.out, HQ.out])
        clear HF HS HCT HGM HQ
        go_wp2_with fail
        (with_reducible refine HL.out.mono ?_); rintro e W4 ⟨rfl, hb4⟩
        have hb24 := HB2.out.trans (hb4.mono HB2.out.size)
        have hb5 : Below W4.heap.size W4 (W4.alloc (.cells #[.int .i64 0, .int .i64 0] 30)) := (Below.refl _ _).alloc (Nat.le_refl _) _
        have hb6 := hb24.trans (hb5.mono hb24.size)
        have HR6 := Lib.hid (HR.out.below hb6)
        have HB6 := Lib.hid (HB.out.trans (hb6.mono hws))
        clear hb4 hb24 hb5 hb6 HL
        go_wp2_with fail
        go_roundg gg
        case measure => omega
        case rel => exact ⟨k + 1, q + na, X, cx, rows, by omega, by go_num, by go_num, rfl, HR6.out, HB6.out, by omega, by omega, HG2.out, HN.out⟩
      | cons d0 ds' =>
        have HN := Lib.hid (show keys rows ++ [(l, d0 :: ds')] = ((keys L).take (k + 1)).flatMap (cutOne t) by rw [HF.out, HS.out, HCT.out]; rfl)
        obtain ⟨⟨y, z⟩, hyz⟩ : ∃ p, (d0 :: ds')[ds'.length]? = some p := ⟨_, List.getElem?_eq_getElem (by simp)⟩
        have HL := Lib.hid (lastp_some (d0 :: ds') ds'.length bb 2 _ W2 HSER2.out rfl (by omega) y z hyz)
        have HG2 := Lib.hid (show q + na = goneS ((keys L).take (k + 1)) t by rw [HGM.out, HQ.out])
        generalize d0 :: ds' = ds at *
        clear HF HS HCT HGM HQ hyz
        go_wp2_with fail
        (with_reducible refine HL.out.mono ?_); rintro e W4 ⟨rfl, hb4⟩
        have hb24 := HB2.out.trans (hb4.mono HB2.out.size)
        have hb5 : Below W4.heap.size W4 (W4.alloc (.cells #[.int .i64 y, .int .i64 z] 30)) := (Below.refl _ _).alloc (Nat.le_refl _) _
        have hb45 := hb4.trans (hb5.mono hb4.size)
        have hb6 := hb24.trans (hb5.mono hb24.size)
        have HK6 := Lib.hid (HK2.out.below hb45 HK2.out.lt)
        have HSM6 := Lib.hid (own_below HSM2.out hb45 (Nat.le_refl _))
        have HSE6 := Lib.hid (own_below HSE.out hb6 (Nat.le_refl _))
        have HR6 := Lib.hid (HR.out.below hb6)
        have HB6 := Lib.hid (HB.out.trans (hb6.mono hws))
        have hs4 := hb24.size
        clear hb4 hb24 hb5 hb6 hb45 HL
        obtain ⟨W6, hW6⟩ : ∃ V, W4.alloc (.cells #[.int .i64 y, .int .i64 z] 30) = V := ⟨_, rfl⟩
        have hs6 : W6.heap.size = W4.heap.size + 1 := by rw [← hW6]; simp
        have hb7 : Below W6.heap.size W6 (W6.alloc (.cells #[.string tx, .slice S0 l.length s0, .slice Z0 ds.length z0] 71)) := (Below.refl _ _).alloc (Nat.le_refl _) _
        rw [hW6] at HK6 HSM6 HSE6 HR6 HB6
        have HX7 := Lib.hid ((Blk.mk (heap_alloc_new W6 (.cells #[.string tx, .slice S0 l.length s0, .slice Z0 ds.length z0] 71)) : Blk _ W6.heap.size 71 [.string tx, .slice S0 l.length s0, .slice Z0 ds.length z0]).sees (size := 3) (n := 1) (xs := [.string tx, .slice S0 l.length s0, .slice Z0 ds.length z0]) rfl (List.prefix_refl _))
        rw [hs6] at HX7
        have HR7 := Lib.hid (HR6.out.below hb7)
        have HB7 := Lib.hid (HB6.out.trans (hb7.mono (by have := HB6.out.size; omega)))
        have HXO : Hid (SR.ok (W6.alloc (.cells #[.string tx, .slice S0 l.length s0, .slice Z0 ds.length z0] 71)) ⟨.slice S0 l.length s0, l, .slice Z0 ds.length z0, ds⟩) := Lib.hid ⟨own_below HSE6.out hb7 (Nat.le_refl _), own_below HSM6.out hb7 (Nat.le_refl _)⟩
        have x0 := HK6.out.cell 0
        have x1 := HK6.out.cell 1
        have x2 := HK6.out.cell 2
        simp only [List.getElem?_cons_zero, List.getElem?_cons_succ, List.set_cons_zero, List.set_cons_succ] at x0 x1 x2
        have hbl6 := HK6.out.lt
        have HBX : Hid (∀ g, (Value.slice X rows.length cx).ownBlock = some g → w.heap.size ≤ g) := Lib.hid fun g hg => (HR7.out.own.lt g hg).1
        have hs7 := HB7.out.size
        rw [← hW6] at x0 x1 x2 hbl6
        have HW6 := Lib.hid hW6
        clear hb7 HK6 HSM6 HSE6 HR6 HB6 hW6
        go_upto_region 9 with fail
        rw [HW6.out]
        rw [HW6.out] at x0 x1 x2 hbl6
        go_wp2_with (at_builtin; refine wpList_append_at rfl (.tmp 31) (.tmp 33) 61 rfl w.heap.size 71 i0 (.agg #[.string ⟨#[]⟩, .slice none 0 0, .slice none 0 0]) 3 64 Try.underlying61 hi0 hz0 hz1 hz2 rfl (by decide) (.slice X rows.length cx) rows.length (srs rows) rfl HR7.out.own _ _ 1 1 [.string tx, .slice S0 l.length s0, .slice Z0 ds.length z0] rfl HX7.out (by intro u hu; simp at hu; rcases hu with rfl | rfl | rfl <;> rfl) (by unfold maxLen; omega) (by omega) (by omega) ?_)
        intro v8 w8 hown8 hgr8 hwh8
        obtain ⟨A6, c6, rfl, hc3, hc4⟩ := own_slice hown8
        have HRN := Lib.hid (HR7.out.push HXO.out (by rw [show SR.cells ⟨.slice S0 l.length s0, l, .slice Z0 ds.length z0, ds⟩ = [.string tx, .slice S0 l.length s0, .slice Z0 ds.length z0] from congrArg (fun q => [Value.string q, .slice S0 l.length s0, .slice Z0 ds.length z0]) HTX.out]; exact hown8) hgr8)
        have HB8 := Lib.hid (HB7.out.grown hgr8 hs7 HBX.out)
        have HLN := Lib.hid (show (rows ++ [(⟨.slice S0 l.length s0, l, .slice Z0 ds.length z0, ds⟩ : SR)]).length = rows.length + 1 by simp)
        clear hown8 hgr8 hwh8 HX7 HR7 HB7 HXO
        go_wp2_with fail
        go_roundg gg
        case measure => omega
        case rel => exact ⟨k + 1, q + na, A6, c6, rows ++ [⟨.slice S0 l.length s0, l, .slice Z0 ds.length z0, ds⟩], by omega, by go_num, by go_num, by rw [HLN.out], by rw [HLN.out]; exact HRN.out, HB8.out, by rw [HLN.out]; omega, by omega, HG2.out, by rw [keys_push]; exact HN.out⟩
end Go.Proofs.Ythbinnbnmckmfaa
