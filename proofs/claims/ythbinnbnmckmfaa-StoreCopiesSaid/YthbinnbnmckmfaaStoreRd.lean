/- What reads a store: Sets, Samples, Pick, Changes; New, Copy. -/
import Derived.Test.YthbinnbnmckmfaaRowIns
import Derived.Test.YthbinnbnmckmfaaLblOwn
import Derived.Test.YthbinnbnmckmfaaSortI
namespace Go.Proofs.Ythbinnbnmckmfaa
open Go.ChangeShapes Go.WideShapes Go.ChangeAt Go.RowKit
set_option linter.unusedVariables false
set_option maxRecDepth 100000
theorem StAt.new (w : World) : StAt w.heap.size (.slice none 0 0) [] (w.alloc (.cells #[.slice none 0 0] 63)) :=
  ⟨Blk.mk (heap_alloc_new w _), by simpa [srs] using World.ownsRow_nil (w.alloc (.cells #[.slice none 0 0] 63)) 0 71 3, fun x hx => absurd hx List.not_mem_nil⟩
theorem new_any (w : World) : Calls Try.prog 7 #[] w fun e w' => e = .returned (.pointer (some ⟨w.heap.size, 0, none⟩)) ∧ w.alloc (.cells #[.slice none 0 0] 63) = w' := by
  go_enter Try.func7, Try.ntmps7
  go_wp2_with fail
  go_ret
  exact ⟨rfl, rfl⟩
theorem copy_any (g : Nat) (v : Value) (L : List SR) (w : World) (h : StAt g v L w) (hn : L.length ≤ 1000000) :
    Calls Try.prog 17 #[.pointer (some ⟨g, 0, none⟩)] w fun e w' => ∃ q v', w.heap.size ≤ q ∧ (∀ k, v'.ownBlock = some k → w.heap.size ≤ k) ∧ e = .returned (.pointer (some ⟨q, 0, none⟩)) ∧ StAt q v' L w' ∧ Below w.heap.size w w' := by
  obtain ⟨A, c, rfl, hc1, hc2⟩ := own_slice h.rows
  have hg := h.box.lt
  have hc0 : w.cell? ⟨g, 0, none⟩ = some (.slice A L.length c) := h.box.cell 0
  have H := Lib.hid h; clear h
  have HC := Lib.hid (clone_rows A L.length c L _ w (Sees.of_own H.out.rows) (Nat.le_refl _) rfl hn (srs_one H.out.each))
  obtain ⟨m, hm⟩ : ∃ m, L.length = m := ⟨_, rfl⟩
  have HM := Lib.hid hm
  rw [hm] at hc0 hc1 HC
  clear hm
  go_enter Try.func17, Try.ntmps17
  go_wp2_with fail
  (with_reducible refine HC.out.mono ?_); rintro e w1 ⟨A1, c1, rfl, hown, hbel, hc3, hc4⟩
  have HO := Lib.hid hown; have HB := Lib.hid hbel; clear hown hbel HC
  have hsz := HB.out.size
  go_wp2_with fail
  go_ret
  have hb1 : Below w1.heap.size w1 (w1.alloc (.cells #[.slice A1 m c1] 63)) := (Below.refl _ _).alloc (Nat.le_refl _) _
  exact ⟨w1.heap.size, .slice A1 m c1, hsz, fun k hk => (HO.out.lt k hk).1, rfl, ⟨Blk.mk (heap_alloc_new w1 _), by rw [HM.out]; exact own_mono (own_below HO.out hb1 (Nat.le_refl _)) (Nat.zero_le _), fun x hx => ((H.out.each x hx).below HB.out).below hb1⟩, HB.out.alloc hsz _⟩
/-- The samples of a text. -/
def smpF (D : List SK) (t : List UInt8) : List (Int × Int) := if placeB D t then (D.getD (placeN D t) ([], [])).2 else []
theorem ssamples_any (g : Nat) (v : Value) (L : List SR) (A0 : Option Addr) (n c0 : Nat) (l : List Lbl) (w : World) (h : StAt g v L w) (hn : L.length ≤ 1000000) (hl : Sees w w.heap.size 2 A0 n (lbls l)) (hnl : n ≤ 9223372036854775807) (hss : ∀ x ∈ L, x.ss.length ≤ 1000000) :
    Calls Try.prog 18 #[.pointer (some ⟨g, 0, none⟩), .slice A0 n c0] w (OwnAns 30 2 (smpF (keys L) (printL l)).length (smps (smpF (keys L) (printL l))) w) := by
  have HP := Lib.hid (print_any A0 n c0 l _ w hl (Nat.le_refl _) hnl)
  have hg := h.box.lt
  have HT : Hid (∀ V, Below w.heap.size w V → StAt g _ L V) := Lib.hid fun V hV => h.below hV
  have HPL := Lib.hid (fun V => place_any g v L (txt l) V)
  have HNL := Lib.hid (placeN_le (keys L) (printL l))
  rw [txt_list] at HPL
  clear h hl
  obtain ⟨pn, hpn⟩ : ∃ p, placeN (keys L) (printL l) = p := ⟨_, rfl⟩
  obtain ⟨pb, hpb⟩ : ∃ p, placeB (keys L) (printL l) = p := ⟨_, rfl⟩
  rw [hpn, hpb] at HPL
  have HN := Lib.hid hpn; have HBB := Lib.hid hpb
  rw [hpn] at HNL
  clear hpn hpb
  go_enter Try.func18, Try.ntmps18
  go_wp2_with fail
  (with_reducible refine HP.out.mono ?_); rintro e w1 ⟨rfl, hb1⟩
  have HB1 := Lib.hid hb1; clear hb1 HP
  go_wp2_with fail
  (with_reducible refine (HPL.out _ (HT.out _ HB1.out) hn).mono ?_); rintro e w2 ⟨rfl, hb2⟩
  have HB2 := Lib.hid (HB1.out.trans (hb2.mono HB1.out.size)); clear hb2 HB1 HPL
  have hs2 := HB2.out.size
  cases pb with
  | false =>
    have HF : Hid (smpF (keys L) (printL l) = []) := Lib.hid (by unfold smpF; rw [HBB.out]; rfl)
    go_wp2_with fail
    go_ret
    rw [HF.out]
    exact ownAns (A := none) (c := 0) (by simpa [smps] using World.ownsRow_nil w2 w.heap.size 30 2) HB2.out rfl (Nat.le_refl _) (by omega)
  | true =>
    have hkl : pn < L.length := by
      rcases Nat.lt_or_ge pn L.length with h | h
      · exact h
      · have := placeB_end HN.out (by rw [keys_length]; exact h); rw [HBB.out] at this; cases this
    have HF : Hid (smpF (keys L) (printL l) = L[pn].ss) := Lib.hid (by
      unfold smpF; rw [HBB.out, if_pos rfl, HN.out, List.getD_eq_getElem?_getD, List.getElem?_eq_getElem (by rw [keys_length]; exact hkl), keys_get hkl]; rfl)
    have hH := HT.out _ HB2.out
    obtain ⟨A, c, rfl, hc1, hc2⟩ := own_slice hH.rows
    have hc0 : w2.cell? ⟨g, 0, none⟩ = some (.slice A L.length c) := hH.box.cell 0
    obtain ⟨ad, hA, hal, d0, d1, hser, hll⟩ := hH.row hkl
    subst hA
    have HSA := Lib.hid (sall_p L[pn].ss _ _ _ w2 hser (hss _ (List.getElem_mem _)))
    have hg2 : g < w2.heap.size := by omega
    have hkm : pn < L.length := hkl
    clear hH hser d0 d1 hll
    clear HT HN HBB
    generalize L[pn].ss = ss at *
    clear hkl HNL hss
    generalize L.length = m at *
    go_wp2_with fail
    (with_reducible refine HSA.out.mono ?_)
    rintro e w3 ⟨A1, c1, rfl, hown, hbel, hc3, hc4⟩
    have HO := Lib.hid (own_mono hown hs2); have HB := Lib.hid (HB2.out.trans (hbel.mono hs2)); clear hown hbel HSA
    go_wp2_with fail
    go_ret
    rw [HF.out]
    exact ownAns HO.out HB.out rfl hc3 hc4
set_option maxHeartbeats 2000000 in
theorem sets_any (g : Nat) (v : Value) (L : List SR) (w : World) (h : StAt g v L w) (hn : L.length ≤ 1000) (hsl : ∀ x ∈ L, x.set.length ≤ 1000) :
    Calls Try.prog 13 #[.pointer (some ⟨g, 0, none⟩)] w (RowsAns ((keys L).map Prod.fst) w) := by
  obtain ⟨i0, hi0, hz0, hz1, hz2⟩ := info_parts Try.infoLbls
  obtain ⟨A, c, rfl, hc1, hc2⟩ := own_slice h.rows
  have hc0 : w.cell? ⟨g, 0, none⟩ = some (.slice A L.length c) := h.box.cell 0
  have hg := h.box.lt
  have HT : Hid (∀ V, Below w.heap.size w V → StAt g _ L V) := Lib.hid fun V hV => h.below hV; clear h
  obtain ⟨m, hm⟩ : ∃ m, L.length = m := ⟨_, rfl⟩
  have HM := Lib.hid hm
  rw [hm] at hc0 hc1 hn HT
  clear hm
  have HC0 : Hid (∀ V, Below w.heap.size w V → V.cell? ⟨g, 0, none⟩ = some (.slice A m c)) := Lib.hid fun V hV => (HT.out V hV).box.cell 0
  go_enter Try.func13, Try.ntmps13
  go_wp2_with fail
  go_loopg [3, 10] m (fun gg x3 x10 wr => ∃ (k : Nat) (X : Option Addr) (cx : Nat) (rows : List (Value × List Lbl)), k + gg = m ∧ x10 = .int .i64 k ∧ x3 = .slice X rows.length cx ∧ OwnRows w.heap.size (.slice X rows.length cx) rows wr ∧ Below w.heap.size w wr ∧ rows.length = k ∧ setsOf rows = ((keys L).map Prod.fst).take k)
  case atStart => exact ⟨0, none, 0, [], by omega, rfl, rfl, OwnRows.nil _ _, Below.refl _ _, by simp, by simp [setsOf]⟩
  case round =>
    obtain ⟨k, X, cx, rows, hkg, rfl, rfl, hrow, hbel, hrl, hrs⟩ := hrel
    have HR := Lib.hid hrow; have HB := Lib.hid hbel; have HS := Lib.hid hrs; have HRL := Lib.hid hrl
    have hws := hbel.size
    have hd0 := HC0.out _ hbel
    have hgw : g < wr.heap.size := by omega
    clear hrow hbel hrs hrl
    cases gk with
    | zero =>
      obtain rfl : k = m := by omega
      have HE := Lib.hid (show setsOf rows = (keys L).map Prod.fst by rw [HS.out, List.take_of_length_le (by rw [List.length_map, keys_length, HM.out]; exact Nat.le_refl _)])
      obtain ⟨X', cx', h1, h2, h3⟩ := own_slice HR.out.own
      injection h1 with h1 _ h4; subst h1; subst h4
      go_wp2_with fail
      go_ret
      exact ⟨X, cx, rows, HE.out, rfl, HR.out, HB.out, h2, h3⟩
    | succ gg =>
      have hlt : k < m := by omega
      have hkl : k < L.length := by rw [HM.out]; exact hlt
      have hrk : rows.length ≤ 1000 := by have := HRL.out; omega
      obtain ⟨ad, hA, hal, c0, c1, _, hl⟩ := (HT.out _ HB.out).row hkl
      subst hA
      have hlen := hsl L[k] (List.getElem_mem _)
      have HF := Lib.hid (show ((keys L).map Prod.fst).take (k + 1) = ((keys L).map Prod.fst).take k ++ [L[k].set] by
        rw [List.take_succ_eq_append_getElem (by rw [List.length_map, keys_length]; exact hkl)]
        congr 2
        rw [List.getElem_map, keys_get hkl])
      clear c0
      generalize L[k].set = l at *
      generalize L[k].sv = sv at *
      obtain ⟨A0, c0, rfl⟩ := hl.form
      have HL := Lib.hid hl; clear hl
      have HN := Lib.hid (show setsOf rows ++ [l] = ((keys L).map Prod.fst).take (k + 1) by rw [HF.out, HS.out])
      clear HF HS
      go_wp2_with fail
      (with_reducible refine (clone_lbl A0 l.length c0 _ l _ HL.out.slice.1 (Nat.le_refl _) (by omega)).mono ?_); rintro e wq hcl
      obtain ⟨A5, c5, rfl, hol, hbq⟩ := ownL_of hcl
      have hsq := hbq.size
      have HBQ := Lib.hid (HB.out.trans (hbq.mono hws))
      have HRW := Lib.hid ((HR.out.below hbq).below ((Below.refl _ wq).alloc (Nat.le_refl _) (.cells #[.slice A5 l.length c5] 26)))
      have HOL := Lib.hid (hol.below ((Below.refl _ wq).alloc (Nat.le_refl _) (.cells #[.slice A5 l.length c5] 26)))
      have HX := Lib.hid (show Sees (wq.alloc (.cells #[.slice A5 l.length c5] 26)) (wq.alloc (.cells #[.slice A5 l.length c5] 26)).heap.size 1 (some ⟨wq.heap.size, 0, none⟩) 1 [.slice A5 l.length c5] from (Blk.mk (heap_alloc_new wq _) : Blk _ wq.heap.size 26 [.slice A5 l.length c5]).sees rfl (List.prefix_refl _))
      have HBA := Lib.hid (HBQ.out.alloc (by omega) (.cells #[.slice A5 l.length c5] 26))
      have HBX : Hid (∀ g, (Value.slice X rows.length cx).ownBlock = some g → w.heap.size ≤ g) := Lib.hid fun g hg => (HRW.out.own.lt g hg).1
      clear hol hcl hbq HR HB
      go_wp2_with (at_builtin; refine wpList_append_at rfl (.tmp 13) (.tmp 23) 39 rfl w.heap.size 26 i0 (.slice none 0 0) 1 24 Try.underlying39 hi0 hz0 hz1 hz2 rfl (by decide) (.slice X rows.length cx) rows.length (rows.map Prod.fst) rfl HRW.out.own _ _ 1 1 [.slice A5 l.length c5] rfl HX.out (by intro u hu; rw [List.mem_singleton] at hu; subst hu; rfl) (by unfold maxLen; omega) (by omega) (by simp; omega) ?_)
      intro v3 w3 hown3 hgr3 hwh3
      obtain ⟨A6, c6, rfl, hc3, hc4⟩ := own_slice hown3
      have HRN := Lib.hid (HRW.out.push HOL.out hown3 hgr3)
      have HB3 := Lib.hid (HBA.out.grown hgr3 (by simp; omega) HBX.out)
      clear hown3 hgr3 hwh3 HX HBA HBX
      have HLN := Lib.hid (show (rows ++ [(Value.slice A5 l.length c5, l)]).length = rows.length + 1 by simp)
      go_wp2_with fail
      go_roundg gg
      case measure => omega
      case rel => exact ⟨k + 1, A6, c6, rows ++ [(.slice A5 l.length c5, l)], by omega, by go_num, by rw [HLN.out], by rw [HLN.out]; exact HRN.out, HB3.out, by rw [HLN.out, HRL.out], by rw [setsOf_push]; exact HN.out⟩
end Go.Proofs.Ythbinnbnmckmfaa
