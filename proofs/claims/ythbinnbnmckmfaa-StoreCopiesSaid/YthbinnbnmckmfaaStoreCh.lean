/- store.Changes. -/
import Derived.Test.YthbinnbnmckmfaaStorePt
namespace Go.Proofs.Ythbinnbnmckmfaa
open Go.ChangeShapes Go.WideShapes Go.ChangeAt Go.RowKit Go.Lib
set_option linter.unusedVariables false
set_option maxRecDepth 100000
/-- One series' changes. -/
def chgOne (look f t : Int) (ms : List Mtc) (x : SK) : List Int := if allF x.1 ms then chg look f t x.2 else []
def chgS (D : List SK) (look f t : Int) (ms : List Mtc) : List Int := compact (isort (D.flatMap (chgOne look f t ms)))
set_option maxHeartbeats 4000000 in
theorem schanges_any (g : Nat) (v : Value) (L : List SR) (look f t : Int) (A2 : Option Addr) (n2 c2 : Nat) (ms : List Mtc) (w : World) (h : StAt g v L w) (hn : L.length ≤ 100) (hsl : ∀ x ∈ L, x.set.length ≤ 1000 ∧ x.ss.length ≤ 1000 ∧ ∀ y ∈ x.ss, 0 ≤ y.1 ∧ y.1 ≤ 1099511627776) (h2 : Sees w w.heap.size 3 A2 n2 (mtcs ms)) (hn2 : n2 ≤ 9223372036854775807) (hlk : -1099511627776 ≤ look ∧ look ≤ 1099511627776) :
    Calls Try.prog 12 #[.pointer (some ⟨g, 0, none⟩), .int .i64 look, .int .i64 f, .int .i64 t, .slice A2 n2 c2] w (OwnAns 3 1 (chgS (keys L) look f t ms).length (ints (chgS (keys L) look f t ms)) w) := by
  obtain ⟨i0, hi0, hz0, hz1, hz2⟩ := info_parts Try.infoI
  obtain ⟨A, c, rfl, hc1, hc2⟩ := own_slice h.rows
  have hc0 : w.cell? ⟨g, 0, none⟩ = some (.slice A L.length c) := h.box.cell 0
  have hg := h.box.lt
  have HT : Hid (∀ V, Below w.heap.size w V → StAt g (.slice A L.length c) L V) := Lib.hid fun V hV => h.below hV
  have HM2 : Hid (∀ V, Below w.heap.size w V → Sees V V.heap.size 3 A2 n2 (mtcs ms)) := Lib.hid fun V hV => (h2.below hV).more hV.size
  clear h h2
  obtain ⟨m, hm⟩ : ∃ m, L.length = m := ⟨_, rfl⟩
  have HM := Lib.hid hm
  rw [hm] at hc0 hc1 hn HT
  clear hm
  have HC0 : Hid (∀ V, Below w.heap.size w V → V.cell? ⟨g, 0, none⟩ = some (.slice A m c)) := Lib.hid fun V hV => (HT.out V hV).box.cell 0
  have HLK := Lib.hid hlk
  clear hlk
  obtain ⟨RES, hRES⟩ : ∃ R, chgS (keys L) look f t ms = R := ⟨_, rfl⟩
  rw [hRES]
  have HRES := Lib.hid hRES
  clear hRES
  go_enter Try.func12, Try.ntmps12
  go_wp2_with fail
  go_loopg [11, 18] m (fun gg x11 x18 wr => ∃ (k : Nat) (X : Option Addr) (cx : Nat) (ts : List Int), k + gg = m ∧ x18 = .int .i64 k ∧ x11 = .slice X ts.length cx ∧ wr.ownsRow w.heap.size 3 1 (.slice X ts.length cx) ts.length (ints ts) ∧ Below w.heap.size w wr ∧ ts.length ≤ 2000 * k ∧ ts = ((keys L).take k).flatMap (chgOne look f t ms))
  case atStart => exact ⟨0, none, 0, [], by omega, rfl, rfl, by simpa [ints] using World.ownsRow_nil _ _ 3 1, Below.refl _ _, by simp, by simp⟩
  case round =>
    obtain ⟨k, X, cx, ts, hkg, rfl, rfl, hrow, hbel, hrl, hrs⟩ := hrel
    have HR := Lib.hid hrow; have HB := Lib.hid hbel; have HS := Lib.hid hrs
    have hws := hbel.size
    have hd0 := HC0.out _ hbel
    have hgw : g < wr.heap.size := by omega
    clear hrow hbel hrs
    cases gk with
    | zero =>
      obtain rfl : k = m := by omega
      have HE := Lib.hid (show compact (isort ts) = RES by rw [← HRES.out, HS.out, List.take_of_length_le (by rw [keys_length, HM.out]; exact Nat.le_refl _)]; rfl)
      have HIL := Lib.hid (isort_len ts)
      clear HS HRES
      have htl : ts.length ≤ 1000000 := by omega
      have HBX : Hid (∀ g, (Value.slice X ts.length cx).ownBlock = some g → w.heap.size ≤ g) := Lib.hid fun g hg => (HR.out.lt g hg).1
      have HSO := Lib.hid (sort_own w.heap.size X ts.length cx ts wr HR.out htl)
      have HCO := Lib.hid (fun V h => compact_ownI w.heap.size X ts.length cx (isort ts) V h htl)
      generalize isort ts = zs at *
      generalize ts.length = tl at *
      go_wp2_with fail
      (with_reducible refine HSO.out.mono ?_); rintro e w1 ⟨rfl, hown, hgr⟩
      have HO := Lib.hid hown
      have HB1 := Lib.hid (HB.out.grown hgr hws HBX.out)
      clear hown hgr HSO HR
      go_wp2_with fail
      (with_reducible refine (HCO.out _ HO.out).mono ?_); rintro e w2 ⟨rfl, hown, hgr⟩
      rw [HE.out] at hown ⊢
      obtain ⟨A9, c9, hv9, hq1, hq2⟩ := own_slice hown
      injection hv9 with hv9 _ hv8; subst hv9; subst hv8
      have hs1 := HB1.out.size
      have HO2 := Lib.hid hown
      have HB2 := Lib.hid (HB1.out.grown hgr hs1 HBX.out)
      clear hown hgr
      go_wp2_with fail
      go_ret
      exact ownAns HO2.out HB2.out rfl hq1 hq2
    | succ gg =>
      have hlt : k < m := by omega
      have hkl : k < L.length := by rw [HM.out]; exact hlt
      obtain ⟨ad, hA, hal, c0, c1, hser, hl⟩ := (HT.out _ HB.out).row hkl
      subst hA
      have hlen := hsl L[k] (List.getElem_mem _)
      have HF := Lib.hid (flatMap_more (chgOne look f t ms) (show k < (keys L).length by rw [keys_length]; exact hkl))
      rw [keys_get hkl] at HF
      clear c0
      have HSR : Hid (∀ V, Below wr.heap.size wr V → SerP L[k].ss V (ad.add (k * 3)).block ((ad.add (k * 3)).off + 2) L[k].xv) := Lib.hid fun V hV => hser.below hV
      clear hser
      generalize L[k].set = l at *
      generalize L[k].sv = sv at *
      generalize L[k].ss = ss at *
      generalize L[k].xv = xv at *
      obtain ⟨A0, c0, rfl⟩ := hl.form
      have HL := Lib.hid hl; clear hl
      have HAL := Lib.hid (all_any A0 l.length c0 _ l A2 n2 c2 _ ms wr HL.out.slice.1 (Nat.le_refl _) (by omega) (HM2.out _ HB.out) (Nat.le_refl _) hn2)
      cases hal2 : allF l ms with
      | false =>
        rw [hal2] at HAL
        have HN := Lib.hid (show ts = ((keys L).take (k + 1)).flatMap (chgOne look f t ms) by rw [HF.out, ← HS.out]; simp [chgOne, hal2])
        clear HF HS hal2
        go_wp2_with fail
        (with_reducible refine HAL.out.mono ?_); rintro e w1 ⟨rfl, hb1⟩
        have HBW := Lib.hid (HB.out.trans (hb1.mono hws))
        have HR1 := Lib.hid (own_below HR.out hb1 (Nat.le_refl _))
        clear hb1
        go_wp2_with fail
        go_roundg gg
        case measure => omega
        case rel => exact ⟨k + 1, X, cx, ts, by omega, by go_num, rfl, HR1.out, HBW.out, by omega, HN.out⟩
      | true =>
        rw [hal2] at HAL
        have hcl := chg_len look f t ss
        have HN := Lib.hid (show ts ++ chg look f t ss = ((keys L).take (k + 1)).flatMap (chgOne look f t ms) by rw [HF.out, ← HS.out]; simp [chgOne, hal2])
        clear HF HS hal2
        go_wp2_with fail
        (with_reducible refine HAL.out.mono ?_); rintro e w1 ⟨rfl, hb1⟩
        have HBW := Lib.hid (HB.out.trans (hb1.mono hws))
        have HR1 := Lib.hid (own_below HR.out hb1 (Nat.le_refl _))
        have hs1 := hb1.size
        have hd1 := HC0.out w1 HBW.out
        have hal1 : (ad.add (k * 3)).block < w1.heap.size := by omega
        have hgw1 : g < w1.heap.size := by omega
        have HCH := Lib.hid (changes_p ss (ad.add (k * 3)).block ((ad.add (k * 3)).off + 2) xv look f t w1 (HSR.out w1 hb1) hlen.2.1 HLK.out hlen.2.2)
        have hsl2 := hlen.2.1
        clear hb1 HAL HR HB hd0 hal hgw hlen
        generalize chg look f t ss = us at *
        go_wp2_with fail
        (with_reducible refine HCH.out.mono ?_); rintro e w2 ⟨A5, c5, rfl, hown, hbel, hq3, hq4⟩
        have HX := Lib.hid (Sees.of_own hown)
        have HR2 := Lib.hid (own_below HR1.out hbel (Nat.le_refl _))
        have hs2 := hbel.size
        have HB2 := Lib.hid (HBW.out.trans (hbel.mono (by omega)))
        have HBX : Hid (∀ g, (Value.slice X ts.length cx).ownBlock = some g → w.heap.size ≤ g) := Lib.hid fun g hg => (HR2.out.lt g hg).1
        clear hown hbel HCH HR1 HBW
        go_wp2_with (at_builtin; refine wpList_append_at rfl (.tmp 31) (.tmp 42) 37 rfl w.heap.size 3 i0 (.int .i64 0) 1 8 Try.underlying37 hi0 hz0 hz1 hz2 rfl (by decide) (.slice X ts.length cx) ts.length (ints ts) rfl HR2.out _ _ us.length c5 (ints us) rfl HX.out (ints_one _) (by unfold maxLen; omega) (by omega) (by omega) ?_)
        intro v3 w3 hown3 hgr3 hwh3
        obtain ⟨A6, c6, rfl, hc3, hc4⟩ := own_slice hown3
        have HRN := Lib.hid hown3
        have HB3 := Lib.hid (HB2.out.grown hgr3 (by omega) HBX.out)
        clear hown3 hgr3 hwh3 HX HB2 HBX
        have HLN := Lib.hid (show (ts ++ us).length = ts.length + us.length by simp)
        go_wp2_with fail
        go_roundg gg
        case measure => omega
        case rel => exact ⟨k + 1, A6, c6, ts ++ us, by omega, by go_num, by rw [HLN.out], by rw [HLN.out, ints_append]; exact HRN.out, HB3.out, by rw [HLN.out]; omega, HN.out⟩
end Go.Proofs.Ythbinnbnmckmfaa
