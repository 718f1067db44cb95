/- Texts, merged in one. -/
import Derived.Test.YtlmakdclebbbkaaGreatBase12
import Derived.Test.YtlmakdclebbbkaaGreatBase30
import Derived.Test.YtlmakdclebbbkaaGreatBase5
import Derived.Test.YtlmakdclebbbkaaGreatRows
import Derived.Test.YtlmakdclebbbkaaGreatBase7
import Derived.Test.YtlmakdclebbbkaaGreatBase2
import Derived.Lib.Hide
import Derived.Deep.QuietTactic
import Derived.BigQuiet
import Derived.Test.YtlmakdclebbbkaaGreatBase
import Derived.WalkKit
import Derived.ProofKit
import Derived.Deep.CutBlock
import Derived.Maps.OwnOps
import Derived.Maps.OwnSet
import Derived.Maps.Views
import Derived.StringKeys
import Derived.Test.YtlmakdclebbbkaaGreatBase4
import Derived.Test.YtlmakdclebbbkaaGreatBase10
import Derived.Test.YtlmakdclebbbkaaGreatBase28
import Derived.Test.YtlmakdclebbbkaaGreatBase11
import Derived.Test.YtlmakdclebbbkaaGreatBase23
import Derived.Deep.DeepCutAuto
import Derived.Test.YtlmakdclebbbkaaGreatBase3
import Derived.Test.YtlmakdclebbbkaaGreatShelf
import Derived.Laws.IdiomStrings
import Derived.Laws.BytesArg
import Derived.Lib.PathFns
namespace Go.Proofs.YtlmakdclebbbkaaGreat
open Go.ChangeShapes Go.WideShapes Go.ChangeAt Go.RowKit Go.Lib
set_option linter.unusedVariables false
set_option maxRecDepth 100000
/-- One series' changes. -/
def chgOne (look f t : Int) (ms : List Mtc) (x : SK) : List Int := if allF x.1 ms then chg look f t x.2 else []
def chgS (D : List SK) (look f t : Int) (ms : List Mtc) : List Int := compact (isort (D.flatMap (chgOne look f t ms)))
set_option maxHeartbeats 4000000 in
theorem schanges_any (g : Nat) (v : Value) (L : List SR) (look f t : Int) (A2 : Option Addr) (n2 c2 : Nat) (ms : List Mtc) (w : World) (h : StAt g v L w) (hn : L.length ≤ 100) (hsl : ∀ x ∈ L, x.set.length ≤ 1000 ∧ x.ss.length ≤ 1000 ∧ ∀ y ∈ x.ss, 0 ≤ y.1 ∧ y.1 ≤ 1099511627776) (h2 : Sees w w.heap.size 3 A2 n2 (mtcs ms)) (hn2 : n2 ≤ 9223372036854775807) (hlk : -1099511627776 ≤ look ∧ look ≤ 1099511627776) :
    Calls Tryz.prog 37 #[.pointer (some ⟨g, 0, none⟩), .int .i64 look, .int .i64 f, .int .i64 t, .slice A2 n2 c2] w (OwnAns 3 1 (chgS (keys L) look f t ms).length (ints (chgS (keys L) look f t ms)) w) := by
  obtain ⟨i0, hi0, hz0, hz1, hz2⟩ := info_parts Tryz.infoI
  obtain ⟨A, c, rfl, hc1, hc2⟩ := own_slice h.rows
  have hc0 : w.cell? ⟨g, 0, none⟩ = some (.slice A L.length c) := h.box.cell 0
  have hg := h.box.lt
  have HT : Hid (∀ V, Below w.heap.size w V → StAt g (.slice A L.length c) L V) := Lib.hid fun V hV => h.below hV
  have HM2 : Hid (∀ V, Below w.heap.size w V → Sees V V.heap.size 3 A2 n2 (mtcs ms)) := Lib.hid fun V hV => (h2.below hV).more hV.size
  clear h h2
  obtain ⟨m, hm⟩ : ∃ m, L.length = m := ⟨_, rfl⟩
  have HM := Lib.hid hm
  rw [hm] at hc0 hc1 hn HT
  clear hm
  have HC0 : Hid (∀ V, Below w.heap.size w V → V.cell? ⟨g, 0, none⟩ = some (.slice A m c)) := Lib.hid fun V hV => (HT.out V hV).box.cell 0
  have HLK := Lib.hid hlk
  clear hlk
  obtain ⟨RES, hRES⟩ : ∃ R, chgS (keys L) look f t ms = R := ⟨_, rfl⟩
  rw [hRES]
  have HRES := Lib.hid hRES
  clear hRES
  go_enter Tryz.func37, Tryz.ntmps37
  go_wp2_with fail
  go_loopg [11, 18] m (fun gg x11 x18 wr => ∃ (k : Nat) (X : Option Addr) (cx : Nat) (ts : List Int), k + gg = m ∧ x18 = .int .i64 k ∧ x11 = .slice X ts.length cx ∧ wr.ownsRow w.heap.size 3 1 (.slice X ts.length cx) ts.length (ints ts) ∧ Below w.heap.size w wr ∧ ts.length ≤ 2000 * k ∧ ts = ((keys L).take k).flatMap (chgOne look f t ms))
  case atStart => exact ⟨0, none, 0, [], by omega, rfl, rfl, by simpa [ints] using World.ownsRow_nil _ _ 3 1, Below.refl _ _, by simp, by simp⟩
  case round =>
    obtain ⟨k, X, cx, ts, hkg, rfl, rfl, hrow, hbel, hrl, hrs⟩ := hrel
    have HR := Lib.hid hrow; have HB := Lib.hid hbel; have HS := Lib.hid hrs
    have hws := hbel.size
    have hd0 := HC0.out _ hbel
    have hgw : g < wr.heap.size := by omega
    clear hrow hbel hrs
    cases gk with
    | zero =>
      obtain rfl : k = m := by omega
      have HE := Lib.hid (show compact (isort ts) = RES by rw [← HRES.out, HS.out, List.take_of_length_le (by rw [keys_length, HM.out]; exact Nat.le_refl _)]; rfl)
      have HIL := Lib.hid (isort_len ts)
      clear HS HRES
      have htl : ts.length ≤ 1000000 := by omega
      have HBX : Hid (∀ g, (Value.slice X ts.length cx).ownBlock = some g → w.heap.size ≤ g) := Lib.hid fun g hg => (HR.out.lt g hg).1
      have HSO := Lib.hid (sort_own w.heap.size X ts.length cx ts wr HR.out htl)
      have HCO := Lib.hid (fun V h => compact_ownI w.heap.size X ts.length cx (isort ts) V h htl)
      generalize isort ts = zs at *
      generalize ts.length = tl at *
      go_wp2_with fail
      (with_reducible refine HSO.out.mono ?_); rintro e w1 ⟨rfl, hown, hgr⟩
      have HO := Lib.hid hown
      have HB1 := Lib.hid (HB.out.grown hgr hws HBX.out)
      clear hown hgr HSO HR
      go_wp2_with fail
      (with_reducible refine (HCO.out _ HO.out).mono ?_); rintro e w2 ⟨rfl, hown, hgr⟩
      rw [HE.out] at hown ⊢
      obtain ⟨A9, c9, hv9, hq1, hq2⟩ := own_slice hown
      injection hv9 with hv9 _ hv8; subst hv9; subst hv8
      have hs1 := HB1.out.size
      have HO2 := Lib.hid hown
      have HB2 := Lib.hid (HB1.out.grown hgr hs1 HBX.out)
      clear hown hgr
      go_wp2_with fail
      go_ret
      exact ownAns HO2.out HB2.out rfl hq1 hq2
    | succ gg =>
      have hlt : k < m := by omega
      have hkl : k < L.length := by rw [HM.out]; exact hlt
      obtain ⟨ad, hA, hal, c0, c1, hser, hl⟩ := (HT.out _ HB.out).row hkl
      subst hA
      have hlen := hsl L[k] (List.getElem_mem _)
      have HF := Lib.hid (flatMap_more (chgOne look f t ms) (show k < (keys L).length by rw [keys_length]; exact hkl))
      rw [keys_get hkl] at HF
      clear c0
      have HSR : Hid (∀ V, Below wr.heap.size wr V → SerP L[k].ss V (ad.add (k * 3)).block ((ad.add (k * 3)).off + 2) L[k].xv) := Lib.hid fun V hV => hser.below hV
      clear hser
      generalize L[k].set = l at *
      generalize L[k].sv = sv at *
      generalize L[k].ss = ss at *
      generalize L[k].xv = xv at *
      obtain ⟨A0, c0, rfl⟩ := hl.form
      have HL := Lib.hid hl; clear hl
      have HAL := Lib.hid (all_any A0 l.length c0 _ l A2 n2 c2 _ ms wr HL.out.slice.1 (Nat.le_refl _) (by omega) (HM2.out _ HB.out) (Nat.le_refl _) hn2)
      cases hal2 : allF l ms with
      | false =>
        rw [hal2] at HAL
        have HN := Lib.hid (show ts = ((keys L).take (k + 1)).flatMap (chgOne look f t ms) by rw [HF.out, ← HS.out]; simp [chgOne, hal2])
        clear HF HS hal2
        go_wp2_with fail
        (with_reducible refine HAL.out.mono ?_); rintro e w1 ⟨rfl, hb1⟩
        have HBW := Lib.hid (HB.out.trans (hb1.mono hws))
        have HR1 := Lib.hid (own_below HR.out hb1 (Nat.le_refl _))
        clear hb1
        go_wp2_with fail
        go_roundg gg
        case measure => omega
        case rel => exact ⟨k + 1, X, cx, ts, by omega, by go_num, rfl, HR1.out, HBW.out, by omega, HN.out⟩
      | true =>
        rw [hal2] at HAL
        have hcl := chg_len look f t ss
        have HN := Lib.hid (show ts ++ chg look f t ss = ((keys L).take (k + 1)).flatMap (chgOne look f t ms) by rw [HF.out, ← HS.out]; simp [chgOne, hal2])
        clear HF HS hal2
        go_wp2_with fail
        (with_reducible refine HAL.out.mono ?_); rintro e w1 ⟨rfl, hb1⟩
        have HBW := Lib.hid (HB.out.trans (hb1.mono hws))
        have HR1 := Lib.hid (own_below HR.out hb1 (Nat.le_refl _))
        have hs1 := hb1.size
        have hd1 := HC0.out w1 HBW.out
        have hal1 : (ad.add (k * 3)).block < w1.heap.size := by omega
        have hgw1 : g < w1.heap.size := by omega
        have HCH := Lib.hid (changes_p ss (ad.add (k * 3)).block ((ad.add (k * 3)).off + 2) xv look f t w1 (HSR.out w1 hb1) hlen.2.1 HLK.out hlen.2.2)
        have hsl2 := hlen.2.1
        clear hb1 HAL HR HB hd0 hal hgw hlen
        generalize chg look f t ss = us at *
        go_wp2_with fail
        (with_reducible refine HCH.out.mono ?_); rintro e w2 ⟨A5, c5, rfl, hown, hbel, hq3, hq4⟩
        have HX := Lib.hid (Sees.of_own hown)
        have HR2 := Lib.hid (own_below HR1.out hbel (Nat.le_refl _))
        have hs2 := hbel.size
        have HB2 := Lib.hid (HBW.out.trans (hbel.mono (by omega)))
        have HBX : Hid (∀ g, (Value.slice X ts.length cx).ownBlock = some g → w.heap.size ≤ g) := Lib.hid fun g hg => (HR2.out.lt g hg).1
        clear hown hbel HCH HR1 HBW
        go_wp2_with (at_builtin; refine wpList_append_at rfl (.tmp 31) (.tmp 42) 45 rfl w.heap.size 3 i0 (.int .i64 0) 1 8 Tryz.underlying45 hi0 hz0 hz1 hz2 rfl (by decide) (.slice X ts.length cx) ts.length (ints ts) rfl HR2.out _ _ us.length c5 (ints us) rfl HX.out (ints_one _) (by unfold maxLen; omega) (by omega) (by omega) ?_)
        intro v3 w3 hown3 hgr3 hwh3
        obtain ⟨A6, c6, rfl, hc3, hc4⟩ := own_slice hown3
        have HRN := Lib.hid hown3
        have HB3 := Lib.hid (HB2.out.grown hgr3 (by omega) HBX.out)
        clear hown3 hgr3 hwh3 HX HB2 HBX
        have HLN := Lib.hid (show (ts ++ us).length = ts.length + us.length by simp)
        go_wp2_with fail
        go_roundg gg
        case measure => omega
        case rel => exact ⟨k + 1, A6, c6, ts ++ us, by omega, by go_num, by rw [HLN.out], by rw [HLN.out, ints_append]; exact HRN.out, HB3.out, by rw [HLN.out]; omega, HN.out⟩
end Go.Proofs.YtlmakdclebbbkaaGreat

namespace Go.Proofs.YtlmakdclebbbkaaGreat
open Go.ChangeShapes Go.WideShapes Go.ChangeAt Go.RowKit
set_option linter.unusedVariables false
set_option maxRecDepth 100000
/-- What a store may hold. -/
structure DOk (D : List SK) : Prop where
  len : D.length ≤ 32
  row : ∀ x ∈ D, rightS x.1 = true ∧ x.2.length ≤ 200 ∧ ∀ y ∈ x.2, 0 ≤ y.1 ∧ y.1 ≤ 1099511627776
  sorted : D.Pairwise fun x y => Op.bytesLess (printL x.1) (printL y.1) = true
theorem DOk.nil : DOk [] := ⟨by simp, by simp, List.Pairwise.nil⟩
theorem placeN_pos {y : SK} {D : List SK} {t : List UInt8} (h : Op.bytesLess (printL y.1) t = true) : placeN (y :: D) t = placeN D t + 1 := by
  unfold placeN; rw [List.takeWhile_cons_of_pos (p := fun x : SK => Op.bytesLess (printL x.1) t) h]; rfl
theorem placeN_neg {y : SK} {D : List SK} {t : List UInt8} (h : Op.bytesLess (printL y.1) t = false) : placeN (y :: D) t = 0 := by
  unfold placeN; rw [List.takeWhile_cons_of_neg (p := fun x : SK => Op.bytesLess (printL x.1) t) (by simp [h])]; rfl
theorem placeB_pos {y : SK} {D : List SK} {t : List UInt8} (h : Op.bytesLess (printL y.1) t = true) : placeB (y :: D) t = placeB D t := by
  unfold placeB; rw [placeN_pos h, List.getElem?_cons_succ]
theorem placeB_neg {y : SK} {D : List SK} {t : List UInt8} (h : Op.bytesLess (printL y.1) t = false) : placeB (y :: D) t = (printL y.1 == t) := by
  unfold placeB; rw [placeN_neg h]; rfl
theorem takeN_less (t : List UInt8) : ∀ (D : List SK), ∀ x ∈ D.take (placeN D t), Op.bytesLess (printL x.1) t = true
  | [], x, hx => by simp at hx
  | y :: D, x, hx => by
    cases h : Op.bytesLess (printL y.1) t with
    | false => rw [placeN_neg h] at hx; simp at hx
    | true =>
      rw [placeN_pos h, List.take_succ_cons] at hx
      rcases List.mem_cons.1 hx with rfl | hx
      · exact h
      · exact takeN_less t D x hx
theorem dropN_more (t : List UInt8) : ∀ (D : List SK), (D.Pairwise fun x y => Op.bytesLess (printL x.1) (printL y.1) = true) → placeB D t = false → ∀ x ∈ D.drop (placeN D t), Op.bytesLess t (printL x.1) = true
  | [], _, _, x, hx => by simp at hx
  | y :: D, hs, hB, x, hx => by
    cases h : Op.bytesLess (printL y.1) t with
    | true =>
      rw [placeN_pos h, List.drop_succ_cons] at hx
      rw [placeB_pos h] at hB
      exact dropN_more t D (List.pairwise_cons.1 hs).2 hB x hx
    | false =>
      rw [placeN_neg h, List.drop_zero] at hx
      rw [placeB_neg h] at hB
      have hne : printL y.1 ≠ t := by simpa using hB
      have hty : Op.bytesLess t (printL y.1) = true := by
        rcases cmp_ne hne with h1 | h1
        · rw [h] at h1; cases h1
        · exact h1
      rcases List.mem_cons.1 hx with rfl | hx
      · exact hty
      · exact less_trans hty ((List.pairwise_cons.1 hs).1 x hx)
theorem placeB_lt {D : List SK} {t : List UInt8} (h : placeB D t = true) : placeN D t < D.length := by
  rcases Nat.lt_or_ge (placeN D t) D.length with h1 | h1
  · exact h1
  · rw [placeB_end rfl h1] at h; cases h
theorem addErr_ok {a : Int} {c : Nat} {x : Int × Int} (h : addErr a c [x] = 0) : 0 ≤ x.1 ∧ x.1 ≤ 1099511627776 ∧ c < 200 := by
  unfold addErr at h
  split at h
  · cases h
  · next h1 =>
    split at h
    · cases h
    · split at h
      · cases h
      · next h3 => omega
theorem DOk.put {D : List SK} (h : DOk D) (l : List Lbl) (x : Int × Int) : DOk (putS D l x) := by
  unfold putS
  by_cases hE : putE D l x = 0
  · rw [if_pos hE]
    unfold putE at hE
    split at hE
    · cases hE
    · next hr =>
      have hR : rightS l = true := by
        cases hq : rightS l with
        | true => rfl
        | false => exact absurd (.inl hq) hr
      have hx : 0 ≤ x.1 ∧ x.1 ≤ 1099511627776 := by
        have h1 : ¬ x.1 < 0 := fun h => hr (.inr (.inl h))
        have h2 : ¬ 1099511627776 < x.1 := fun h => hr (.inr (.inr h))
        omega
      unfold putD
      split at hE
      · next hB =>
        rw [if_pos hB]
        have hlt := placeB_lt hB
        have hgd : D.getD (placeN D (printL l)) ([], []) = D[placeN D (printL l)] := by rw [List.getD_eq_getElem?_getD, List.getElem?_eq_getElem hlt]; rfl
        rw [hgd] at hE ⊢
        have hok := addErr_ok hE
        have hrow := h.row _ (List.getElem_mem hlt)
        refine ⟨by rw [List.length_set]; exact h.len, fun y hy => ?_, ?_⟩
        · rcases List.mem_or_eq_of_mem_set hy with hy | rfl
          · exact h.row y hy
          · refine ⟨hrow.1, by rw [List.length_append, List.length_singleton]; omega, fun z hz => ?_⟩
            rcases List.mem_append.1 hz with hz | hz
            · exact hrow.2.2 z hz
            · rw [List.mem_singleton] at hz; subst hz; exact hx
        · have h1 := h.sorted
          have e : (D.set (placeN D (printL l)) (D[placeN D (printL l)].1, D[placeN D (printL l)].2 ++ [x])).map (fun y => printL y.1) = D.map (fun y => printL y.1) := by
            rw [List.map_set]
            have : printL D[placeN D (printL l)].1 = (D.map fun y => printL y.1)[placeN D (printL l)]'(by rw [List.length_map]; exact hlt) := by simp
            simp only [this, List.set_getElem_self]
          have h2 := (List.pairwise_map (f := fun y : SK => printL y.1) (R := fun a b => Op.bytesLess a b = true)).2 h1
          rw [← e] at h2
          exact List.pairwise_map.1 h2
      · next hB =>
        rw [if_neg hB]
        have hB : placeB D (printL l) = false := by simpa using hB
        split at hE
        · cases hE
        · next h32 =>
          refine ⟨by rw [List.length_append, List.length_take, List.length_cons, List.length_drop]; have := placeN_le D (printL l); omega, fun y hy => ?_, ?_⟩
          · rcases List.mem_append.1 hy with hy | hy
            · exact h.row y (List.mem_of_mem_take hy)
            · rcases List.mem_cons.1 hy with rfl | hy
              · exact ⟨hR, by simp, fun z hz => by rw [List.mem_singleton] at hz; subst hz; exact hx⟩
              · exact h.row y (List.mem_of_mem_drop hy)
          · rw [List.pairwise_append, List.pairwise_cons]
            refine ⟨h.sorted.sublist (List.take_sublist _ _), ⟨fun y hy => dropN_more _ D h.sorted hB y hy, h.sorted.sublist (List.drop_sublist _ _)⟩, fun y hy z hz => ?_⟩
            rcases List.mem_cons.1 hz with rfl | hz
            · exact takeN_less _ D y hy
            · exact less_trans (takeN_less _ D y hy) (dropN_more _ D h.sorted hB z hz)
  · rw [if_neg hE]; exact h
/-- A store of a law's own, made since w0. -/
structure Sto (w0 : World) (g : Nat) (v : Value) (D : List SK) (W : World) : Prop where
  ex : ∃ L, keys L = D ∧ StAt g v L W
  dok : DOk D
  bel : Below w0.heap.size w0 W
  gs : w0.heap.size ≤ g
  vs : ∀ k, v.ownBlock = some k → w0.heap.size ≤ k
section
variable {w0 W W' : World} {g : Nat} {v v' : Value} {D D' : List SK}
theorem Sto.below (h : Sto w0 g v D W) (hb : Below W.heap.size W W') : Sto w0 g v D W' := by
  obtain ⟨L, hL, hS⟩ := h.ex
  exact ⟨⟨L, hL, hS.below hb⟩, h.dok, h.bel.trans (hb.mono h.bel.size), h.gs, h.vs⟩
theorem Sto.stays (h : Sto w0 g v D W) : Stays (fun V => Sto w0 g v D V) W := fun _ hb => h.below hb
theorem Sto.lt (h : Sto w0 g v D W) : g < W.heap.size := by obtain ⟨L, _, hS⟩ := h.ex; exact hS.box.lt
theorem Sto.new {w : World} (h : Below w0.heap.size w0 w) : Sto w0 w.heap.size (.slice none 0 0) [] (w.alloc (.cells #[.slice none 0 0] 81)) :=
  ⟨⟨[], rfl, StAt.new w⟩, DOk.nil, h.alloc h.size _, h.size, fun k hk => by simp [Value.ownBlock] at hk⟩
/-- What a call on the store leaves of other things. -/
theorem Sto.own (h : Sto w0 g v D W) (hT : TurnS g v W W') {b s n : Nat} {e : TypeId} {u : Value} {xs : List Value} (ho : W.ownsRow b e s u n xs) (h1 : e ≠ 81) (h2 : e ≠ 90) : W'.ownsRow b e s u n xs := by
  obtain ⟨L, _, hS⟩ := h.ex
  refine own_same ho fun k hk hl => hT.block k hl (fun e => ?_) (fun e => ?_)
  · subst e; exact own_blk_ne ho hS.box h1 hk
  · exact own_ne ho hS.rows h2 k hk e.symm
theorem Sto.blk (h : Sto w0 g v D W) (hT : TurnS g v W W') {k : Nat} {e : TypeId} {cs : List Value} (ho : Blk W k e cs) (h1 : e ≠ 81) (h2 : e ≠ 90) : Blk W' k e cs := by
  obtain ⟨L, _, hS⟩ := h.ex
  refine (hT.block k ho.lt (fun e => ?_) (fun e => ?_)).trans ho
  · subst e
    have := hS.box.eq; rw [ho.eq] at this; injection this with this; injection this with _ this _; exact h1 this
  · exact own_blk_ne hS.rows ho (fun e => h2 e.symm) e.symm
theorem Sto.turned (h : Sto w0 g v D W) (hT : TurnS g v W W') : Below w0.heap.size W W' := hT.below h.gs h.vs h.bel.size
/-- Another store stays as it is. -/
theorem Sto.other {w1 : World} {g1 : Nat} {v1 : Value} {D1 : List SK} (h : Sto w0 g v D W) (hT : TurnS g v W W') (h2 : Sto w1 g1 v1 D1 W) (hg : g1 ≠ g) (hv : ∀ k, v1.ownBlock = some k → v.ownBlock ≠ some k) (hb : Below w1.heap.size w1 W') : Sto w1 g1 v1 D1 W' := by
  obtain ⟨L, _, hS⟩ := h.ex
  obtain ⟨L1, hL1, hS1⟩ := h2.ex
  refine ⟨⟨L1, hL1, ?_, ?_, fun x hx => ⟨h.own hT (hS1.each x hx).set_ (by decide) (by decide), h.own hT (hS1.each x hx).smp_ (by decide) (by decide)⟩⟩, h2.dok, hb, h2.gs, h2.vs⟩
  · exact (hT.block g1 hS1.box.lt hg (fun e => own_blk_ne hS.rows hS1.box (by decide) e.symm)).trans hS1.box
  · exact own_same hS1.rows fun k hk hl => hT.block k hl (fun e => by subst e; exact own_blk_ne hS1.rows hS.box (by decide) hk) (fun e => hv k hk e.symm)
end
section
variable {w0 W : World} {g : Nat} {v : Value} {D : List SK}
theorem Sto.rows (h : Sto w0 g v D W) : ∃ L, keys L = D ∧ StAt g v L W ∧ L.length ≤ 32 ∧ ∀ x ∈ L, x.set.length ≤ 6 ∧ x.ss.length ≤ 200 ∧ ∀ y ∈ x.ss, 0 ≤ y.1 ∧ y.1 ≤ 1099511627776 := by
  obtain ⟨L, hL, hS⟩ := h.ex
  refine ⟨L, hL, hS, by rw [← keys_length, hL]; exact h.dok.len, fun x hx => ?_⟩
  have h1 := h.dok.row (x.set, x.ss) (by rw [← hL]; exact List.mem_map.2 ⟨x, hx, rfl⟩)
  exact ⟨rightS_len h1.1, h1.2⟩
theorem Sto.put (h : Sto w0 g v D W) (A0 : Option Addr) (n c0 : Nat) (l : List Lbl) (tm vl : Int) (hl : Sees W W.heap.size 2 A0 n (lbls l)) (hnl : n ≤ 9223372036854775807) :
    Calls Tryz.prog 9 #[.pointer (some ⟨g, 0, none⟩), .slice A0 n c0, .agg #[.int .i64 tm, .int .i64 vl]] W fun e W' => ∃ v', e = .returned (.int .i64 (putE D l (tm, vl))) ∧ Sto w0 g v' (putS D l (tm, vl)) W' ∧ TurnS g v W W' ∧ Where W v v' := by
  obtain ⟨L, rfl, hS, h1, h2⟩ := h.rows
  refine (put_any g v L A0 n c0 l tm vl W hS (by omega) hl hnl (fun x hx => by have := (h2 x hx).2.1; omega)).mono ?_
  rintro e W' ⟨v', L', rfl, hk, hS', hT, hwh, _⟩
  refine ⟨v', rfl, ⟨⟨L', hk, hS'⟩, h.dok.put l _, h.bel.trans (h.turned hT), h.gs, fun k hk => ?_⟩, hT, hwh⟩
  rcases hwh with e | e
  · exact h.vs k (e ▸ hk)
  · have := e k hk; have := h.bel.size; omega
theorem Sto.pick (h : Sto w0 g v D W) (t look : Int) (A2 : Option Addr) (n2 c2 : Nat) (ms : List Mtc) (h2 : Sees W W.heap.size 3 A2 n2 (mtcs ms)) (hn2 : n2 ≤ 9223372036854775807) (ht : -4611686018427387904 ≤ t ∧ t ≤ 4611686018427387903) (hlk : -4611686018427387904 ≤ look ∧ look ≤ 4611686018427387903) :
    Calls Tryz.prog 114 #[.pointer (some ⟨g, 0, none⟩), .int .i64 t, .int .i64 look, .slice A2 n2 c2] W (PtsAns (pickS D t look ms) W) := by
  obtain ⟨L, rfl, hS, h1, h3⟩ := h.rows
  exact spick_any g v L t look A2 n2 c2 ms W hS (by omega) (fun x hx => by have := h3 x hx; omega) h2 hn2 ht hlk
theorem Sto.changes (h : Sto w0 g v D W) (look f t : Int) (A2 : Option Addr) (n2 c2 : Nat) (ms : List Mtc) (h2 : Sees W W.heap.size 3 A2 n2 (mtcs ms)) (hn2 : n2 ≤ 9223372036854775807) (hlk : -1099511627776 ≤ look ∧ look ≤ 1099511627776) :
    Calls Tryz.prog 37 #[.pointer (some ⟨g, 0, none⟩), .int .i64 look, .int .i64 f, .int .i64 t, .slice A2 n2 c2] W (OwnAns 3 1 (chgS D look f t ms).length (ints (chgS D look f t ms)) W) := by
  obtain ⟨L, rfl, hS, h1, h3⟩ := h.rows
  exact schanges_any g v L look f t A2 n2 c2 ms W hS (by omega) (fun x hx => ⟨by have := h3 x hx; omega, by have := h3 x hx; omega, (h3 x hx).2.2⟩) h2 hn2 hlk
end
end Go.Proofs.YtlmakdclebbbkaaGreat

namespace Go.Proofs.YtlmakdclebbbkaaGreat
open Go.ChangeShapes Go.WideShapes Go.ChangeAt Go.RowKit
set_option linter.unusedVariables false
set_option maxRecDepth 100000
/-- A row of ints among rows. -/
structure IRow where
  A : Option Addr
  n : Nat
  c : Nat
  zs : List Int
def ARows (w : World) (B : Nat) (A : Option Addr) (rs : List IRow) : Prop :=
  ∀ i (h : i < rs.length), ∃ ad, A = some ad ∧ ad.block < B ∧ w.cell? (ad.add i) = some (.slice rs[i].A rs[i].n rs[i].c) ∧ Sees w B 1 rs[i].A rs[i].n (ints rs[i].zs) ∧ (∀ z ∈ rs[i].zs, I64 z) ∧ rs[i].n ≤ rs[i].c ∧ rs[i].c ≤ 9223372036854775807
theorem ARows.below {w w' : World} {B : Nat} {A : Option Addr} {rs : List IRow} (h : ARows w B A rs) (hb : Below B w w') : ARows w' B A rs := fun i hi => by
  obtain ⟨ad, e, hB, c0, hs, hr⟩ := h i hi
  exact ⟨ad, e, hB, (hb.cell (by rw [add_block]; exact hB)).trans c0, hs.below hb, hr⟩
def AKSetsF (w : World) (B : Nat) (A : Option Addr) (qs : List KSet) : Prop :=
  ∀ i (h : i < qs.length), ∃ ad, A = some ad ∧ ad.block < B ∧ w.cell? (ad.add (i * 2)) = some (.slice qs[i].A qs[i].n qs[i].c) ∧ w.cell? ⟨(ad.add (i * 2)).block, (ad.add (i * 2)).off + 1, none⟩ = some (.slice qs[i].A2 qs[i].n2 qs[i].c2) ∧ qs[i].ok B w
theorem AKSetsF.below {w w' : World} {B : Nat} {A : Option Addr} {qs : List KSet} (h : AKSetsF w B A qs) (hb : Below B w w') : AKSetsF w' B A qs := fun i hi => by
  obtain ⟨ad, e, hB, c0, c1, hk⟩ := h i hi
  have hb2 : ∀ o, w'.cell? ⟨(ad.add (i * 2)).block, o, none⟩ = w.cell? ⟨(ad.add (i * 2)).block, o, none⟩ := fun o => hb.cell (p := ⟨_, o, none⟩) (by rw [add_block]; exact hB)
  exact ⟨ad, e, hB, (hb.cell (by rw [add_block]; exact hB)).trans c0, (hb2 _).trans c1, hk.below hb⟩
/-- Numbers of which a store is made. -/
structure KStore where
  A : Option Addr
  c : Nat
  qs : List KSet
  A2 : Option Addr
  c2 : Nat
  rs : List IRow
def KStore.val (k : KStore) : Value := .agg #[.slice k.A k.qs.length k.c, .slice k.A2 k.rs.length k.c2]
structure KStore.ok (k : KStore) (B : Nat) (w : World) : Prop where
  sets : AKSetsF w B k.A k.qs
  rows : ARows w B k.A2 k.rs
  n1 : k.qs.length ≤ k.c ∧ k.c ≤ 9223372036854775807
  n2 : k.rs.length ≤ k.c2 ∧ k.c2 ≤ 9223372036854775807
theorem KStore.ok.below {k : KStore} {B : Nat} {w w' : World} (h : k.ok B w) (hb : Below B w w') : k.ok B w' := ⟨h.sets.below hb, h.rows.below hb, h.n1, h.n2⟩
end Go.Proofs.YtlmakdclebbbkaaGreat

namespace Go.Proofs.YtlmakdclebbbkaaGreat
open Go.ChangeShapes Go.WideShapes Go.ChangeAt Go.RowKit
set_option linter.unusedVariables false
set_option linter.unusedSimpArgs false
set_option maxRecDepth 100000
theorem TurnS.trans {g : Nat} {v v1 : Value} {W W1 W2 : World} (h : TurnS g v W W1) (hw : Where W v v1) (h2 : TurnS g v1 W1 W2) : TurnS g v W W2 :=
  ⟨h2.os.trans h.os, h2.tape.trans h.tape, h2.output.trans h.output, Nat.le_trans h.size h2.size, fun k hk hg hv => (h2.block k (Nat.lt_of_lt_of_le hk h.size) hg (fun e => by
    rcases hw with e2 | e2
    · exact hv (e.trans e2)
    · have := e2 k e.symm; omega)).trans (h.block k hk hg hv)⟩
section
variable {k : KStore} {w0 W0 W W' : World} {g kb mb i : Nat} {v v' v2 : Value} {M : List (List Lbl)} {D D2 : List SK}
end
end Go.Proofs.YtlmakdclebbbkaaGreat

namespace Go.Proofs.YtlmakdclebbbkaaGreat
open Go.ChangeShapes Go.WideShapes Go.ChangeAt Go.RowKit
set_option linter.unusedVariables false
set_option linter.unusedSimpArgs false
set_option maxRecDepth 100000
theorem sortP_mem {l : List Pt} {p : Pt} : p ∈ sortP l ↔ p ∈ l := sortK_mem _ l p
theorem sortP_len (l : List Pt) : (sortP l).length = l.length := sortK_length _ l
end Go.Proofs.YtlmakdclebbbkaaGreat

namespace Go.Proofs.YtlmakdclebbbkaaGreat
open Go.ChangeShapes Go.WideShapes Go.ChangeAt Go.RowKit
set_option linter.unusedVariables false
set_option maxRecDepth 100000
/-- A token: its kind, its number, its place, its text. -/
structure Tok where
  kd : Int
  n : Int
  at_ : Int
  tx : ByteArray
def Tok.val (t : Tok) : Value := .agg #[.int .i64 t.kd, .int .i64 t.n, .int .i64 t.at_, .string t.tx]
/-- Four cells of a box written anew. -/
def set4W (w : World) (b : Nat) (v0 v1 v2 v3 : Value) : World := (((w.setCell ⟨b, 0, none⟩ v0).setCell ⟨b, 1, none⟩ v1).setCell ⟨b, 2, none⟩ v2).setCell ⟨b, 3, none⟩ v3
end Go.Proofs.YtlmakdclebbbkaaGreat

namespace Go.Proofs.YtlmakdclebbbkaaGreat
open Go.ChangeShapes Go.WideShapes Go.ChangeAt Go.RowKit
set_option linter.unusedVariables false
set_option linter.unusedSimpArgs false
set_option maxRecDepth 100000
/-- Tokens as cells. -/
def tcells (l : List Tok) : List Value := l.flatMap fun t => [.int .i64 t.kd, .int .i64 t.n, .int .i64 t.at_, .string t.tx]
theorem tcells_append (l m : List Tok) : tcells (l ++ m) = tcells l ++ tcells m := by simp [tcells]
theorem tcells_length (l : List Tok) : (tcells l).length = l.length * 4 := by
  induction l with
  | nil => rfl
  | cons x l ih => simp only [tcells, List.flatMap_cons, List.length_append, List.length_cons, List.length_nil] at ih ⊢; omega
end Go.Proofs.YtlmakdclebbbkaaGreat
