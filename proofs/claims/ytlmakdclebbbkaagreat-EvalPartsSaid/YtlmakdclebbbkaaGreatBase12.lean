/- Texts, merged in one. -/
import Derived.Test.YtlmakdclebbbkaaGreatBase
import Derived.Test.YtlmakdclebbbkaaGreatShelf
import Derived.ChangeAt
import Derived.Sort.OwnSortedInts
import Derived.Lib.RowBridge
import Derived.Test.YtlmakdclebbbkaaGreatBase11
import Derived.Test.YtlmakdclebbbkaaGreatBase6
import Derived.Test.YtlmakdclebbbkaaGreatBase10
import Derived.Test.YtlmakdclebbbkaaGreatRows
namespace Go.Proofs.YtlmakdclebbbkaaGreat
open Go.ChangeShapes Go.WideShapes Go.ChangeAt Go.RowKit Go.Shelf Go.Sort Go.Lib
set_option linter.unusedVariables false
set_option maxRecDepth 100000
def insAt (x : Int) : List Int → List Int
  | [] => [x]
  | y :: ys => if x ≤ y then x :: y :: ys else y :: insAt x ys
def isort : List Int → List Int
  | [] => []
  | x :: xs => insAt x (isort xs)
theorem insAt_perm (x : Int) (l : List Int) : (insAt x l).Perm (x :: l) := by
  induction l with
  | nil => exact List.Perm.refl _
  | cons y ys ih =>
    unfold insAt
    split
    · exact List.Perm.refl _
    · exact (List.Perm.cons y ih).trans (List.Perm.swap x y ys)
theorem isort_perm (l : List Int) : (isort l).Perm l := by
  induction l with
  | nil => exact List.Perm.refl _
  | cons x xs ih => exact (insAt_perm x _).trans (List.Perm.cons x ih)
theorem insAt_rises (x : Int) (l : List Int) (h : l.Pairwise (· ≤ ·)) : (insAt x l).Pairwise (· ≤ ·) := by
  induction l with
  | nil => simp [insAt]
  | cons y ys ih =>
    have h1 := List.pairwise_cons.1 h
    unfold insAt
    split
    · rename_i hxy
      refine List.pairwise_cons.2 ⟨fun z hz => ?_, h⟩
      rcases List.mem_cons.1 hz with rfl | hz
      · exact hxy
      · exact Int.le_trans hxy (h1.1 z hz)
    · rename_i hxy
      refine List.pairwise_cons.2 ⟨fun z hz => ?_, ih h1.2⟩
      rcases List.mem_cons.1 ((insAt_perm x ys).mem_iff.1 hz) with rfl | hz
      · omega
      · exact h1.1 z hz
theorem isort_rises (l : List Int) : (isort l).Pairwise (· ≤ ·) := by
  induction l with
  | nil => exact List.Pairwise.nil
  | cons x xs ih => exact insAt_rises x _ ih
theorem mergeSort_is (l : List Int) : l.mergeSort (fun x y => decide (x ≤ y)) = isort l := by
  have h1 := List.pairwise_mergeSort (le := fun x y : Int => decide (x ≤ y)) (fun a b c h1 h2 => by simp at *; omega) (fun a b => by simp; omega) l
  refine List.Perm.eq_of_pairwise (le := (· ≤ ·)) (fun a b _ _ h1 h2 => Int.le_antisymm h1 h2) (h1.imp fun h => by simpa using h) (isort_rises l) ((List.mergeSort_perm l _).trans (isort_perm l).symm)
theorem isort_len (l : List Int) : (isort l).length = l.length := (isort_perm l).length_eq
theorem sort_own (base : Nat) (A : Option Addr) (n c : Nat) (zs : List Int) (w : World) (h : w.ownsRow base 3 1 (.slice A n c) n (ints zs)) (hn : n ≤ 1000000) :
    Calls Tryz.prog 38 #[.slice A n c] w fun e w' => e = .returned (.tuple #[]) ∧ w'.ownsRow base 3 1 (.slice A n c) n (ints (isort zs)) ∧ w.grownBy w' (Value.slice A n c).ownBlock := by
  have hl : zs.length = n := by have := h.1; rw [ints_length] at this; omega
  rcases h.2 with ⟨h1, h2⟩ | ⟨g, cap, cur, hv, hb, hh, hnc, hcm, hs, ht⟩
  · injection h1 with h1 _ h3
    subst h1; subst h2; subst h3
    obtain rfl : zs = [] := List.eq_nil_of_length_eq_zero hl
    refine (Tryz.slices_Sort_int_none none 0 w).mono ?_
    rintro e w' ⟨rfl, rfl⟩
    exact ⟨rfl, h, World.grownBy.refl _ _⟩
  · injection hv with h1 h2 h3
    subst h1; subst h3
    have hH : Go.Sort.Holds (Value.int .i64) w g 0 zs.toArray := holds_of_blockI hh (by rw [hl, ← Nat.mul_one n]; exact ht)
    have hg : g < w.heap.size := (Array.getElem?_eq_some_iff.1 hh).1
    have h2 := Tryz.slices_Sort_int g 0 c zs w hH hg (by omega)
    rw [hl] at h2
    refine h2.mono ?_
    rintro e w' ⟨rfl, m, os, rfl⟩
    rw [mergeSort_is]
    have h3 := ownsRow_sortedI (n := m) (os := os) (ss := zs) (ts := isort zs) (isort_len zs) hb hh (by omega) hcm hs
    rw [hl] at h3
    refine ⟨rfl, h3, ?_⟩
    exact grownBy_sortedI _
theorem own_cut {w : World} {base g n k c : Nat} {e : TypeId} {size : Nat} {xs : List Value} (h : w.ownsRow base e size (.slice (some ⟨g, 0, none⟩) n c) n xs) (hk : k ≤ n) : w.ownsRow base e size (.slice (some ⟨g, 0, none⟩) k c) k (xs.take (k * size)) := by
  refine ⟨by rw [List.length_take, h.1]; exact Nat.min_eq_left (Nat.mul_le_mul_right _ hk), ?_⟩
  rcases h.2 with ⟨h1, _⟩ | ⟨g1, cap, cur, hv, hb, hh, hnc, hcm, hs, ht⟩
  · cases h1
  · injection hv with h1 h2 h3
    injection h1 with h1; injection h1 with h1; subst h1; subst h3
    refine .inr ⟨g, c, cur, rfl, hb, hh, by omega, hcm, hs, ?_⟩
    rw [← ht, List.take_take, Nat.min_eq_left (Nat.mul_le_mul_right _ hk)]
theorem compact_ownI (base : Nat) (A : Option Addr) (n c : Nat) (zs : List Int) (w : World) (h : w.ownsRow base 3 1 (.slice A n c) n (ints zs)) (hn : n ≤ 1000000) :
    Calls Tryz.prog 39 #[.slice A n c] w fun e w' => e = .returned (.slice A (compact zs).length c) ∧ w'.ownsRow base 3 1 (.slice A (compact zs).length c) (compact zs).length (ints (compact zs)) ∧ w.grownBy w' (Value.slice A n c).ownBlock := by
  have hl : zs.length = n := by have := h.1; rw [ints_length] at this; omega
  have hcl := compact_length_le zs
  rcases h.2 with ⟨h1, h2⟩ | ⟨g, cap, cur, hv, hb, hh, hnc, hcm, hs, ht⟩
  · injection h1 with h1 _ h3
    subst h1; subst h2; subst h3
    obtain rfl : zs = [] := List.eq_nil_of_length_eq_zero hl
    refine (Tryz.slices_Compact_int_empty none 0 w).mono ?_
    rintro e w' ⟨rfl, rfl⟩
    exact ⟨rfl, by simpa [compact, compactUpTo] using h, World.grownBy.refl _ _⟩
  · injection hv with h1 h2 h3
    subst h1; subst h3
    have hH : Go.Sort.Holds (Value.int .i64) w g 0 zs.toArray := holds_of_blockI hh (by rw [hl, ← Nat.mul_one n]; exact ht)
    have h2 := Tryz.slices_Compact_int g 0 c zs w hH (by omega) (by omega)
    rw [hl] at h2
    refine h2.mono ?_
    rintro e w' ⟨rfl, m, rfl⟩
    have hg0 : ∀ W : World, grow W #[] = W := fun W => by simp [grow]
    have hlt : (compact zs ++ List.replicate (n - (compact zs).length) 0).length = zs.length := by rw [List.length_append, List.length_replicate]; omega
    have h3 := ownsRow_sortedI (n := m) (os := #[]) (ss := zs) (ts := compact zs ++ List.replicate (n - (compact zs).length) 0) hlt hb hh (by omega) hcm hs
    rw [hg0, hl] at h3
    have h4 := own_cut (k := (compact zs).length) h3 (by omega)
    rw [Nat.mul_one, List.map_append, List.take_append_of_le_length (by simp), List.take_of_length_le (by simp)] at h4
    have h5 := grownBy_sortedI (w := w) (g := g) (n := m) (os := #[]) (compact zs ++ List.replicate (n - (compact zs).length) 0).toArray
    rw [hg0] at h5
    exact ⟨rfl, h4, h5⟩
end Go.Proofs.YtlmakdclebbbkaaGreat

namespace Go.Proofs.YtlmakdclebbbkaaGreat
open Go.ChangeShapes Go.WideShapes Go.ChangeAt Go.RowKit
set_option linter.unusedVariables false
set_option maxRecDepth 100000
theorem StAt.new (w : World) : StAt w.heap.size (.slice none 0 0) [] (w.alloc (.cells #[.slice none 0 0] 81)) :=
  ⟨Blk.mk (heap_alloc_new w _), by simpa [srs] using World.ownsRow_nil (w.alloc (.cells #[.slice none 0 0] 81)) 0 90 3, fun x hx => absurd hx List.not_mem_nil⟩
end Go.Proofs.YtlmakdclebbbkaaGreat

namespace Go.Proofs.YtlmakdclebbbkaaGreat
open Go.ChangeShapes Go.WideShapes Go.ChangeAt Go.RowKit Go.Lib
set_option linter.unusedVariables false
set_option maxRecDepth 100000
theorem Tryz.infoPt : (Tryz.prog.info? 43).map (fun i => (i.zero, i.size, i.bytes)) = some (some (.agg #[.slice none 0 0, .int .i64 0]), 2, 32) := by kernel_rfl
structure PtR where
  sv : Value
  set : List Lbl
  val : Int
def PtR.cells (x : PtR) : List Value := [x.sv, .int .i64 x.val]
def pts (l : List PtR) : List Value := l.flatMap PtR.cells
theorem pts_length (l : List PtR) : (pts l).length = l.length * 2 := by
  induction l with
  | nil => rfl
  | cons x l ih => simp only [pts, List.flatMap_cons, List.length_append, List.length_cons, List.length_nil, PtR.cells] at ih ⊢; omega
theorem pts_append (l m : List PtR) : pts (l ++ m) = pts l ++ pts m := by simp [pts]
theorem pts_get (l : List PtR) (p : Nat) (h : p < l.length) : (pts l)[p * 2]? = some l[p].sv ∧ (pts l)[p * 2 + 1]? = some (.int .i64 l[p].val) := by
  have e : pts l = pts (l.take p) ++ (pts [l[p]] ++ pts (l.drop (p + 1))) := by
    rw [← pts_append, ← pts_append, List.singleton_append, ← List.drop_eq_getElem_cons h, List.take_append_drop]
  have hl : (pts (l.take p)).length = p * 2 := by rw [pts_length, List.length_take]; omega
  rw [e]
  refine ⟨?_, ?_⟩
  · rw [List.getElem?_append_right (by omega), hl, Nat.sub_self]; rfl
  · rw [List.getElem?_append_right (by omega), hl, show p * 2 + 1 - p * 2 = 1 by omega]; rfl
structure PtsAt (base : Nat) (v : Value) (rows : List PtR) (w : World) : Prop where
  own : w.ownsRow base 43 2 v rows.length (pts rows)
  each : ∀ x ∈ rows, OwnL w x.sv x.set
theorem PtsAt.below {base : Nat} {v : Value} {rows : List PtR} {w w' : World} (h : PtsAt base v rows w) (hb : Below w.heap.size w w') : PtsAt base v rows w' := ⟨own_below h.own hb (Nat.le_refl _), fun x hx => (h.each x hx).below hb⟩
theorem PtsAt.nil (base : Nat) (w : World) : PtsAt base (.slice none 0 0) [] w := ⟨by simpa [pts] using World.ownsRow_nil w base 43 2, (fun x hx => absurd hx List.not_mem_nil)⟩
theorem PtsAt.mono {base base' : Nat} {v : Value} {rows : List PtR} {w : World} (h : PtsAt base v rows w) (hb : base' ≤ base) : PtsAt base' v rows w := ⟨own_mono h.own hb, h.each⟩
theorem PtsAt.push {base : Nat} {v v' x : Value} {l : List Lbl} {z : Int} {rows : List PtR} {w w' : World} (h : PtsAt base v rows w) (hx : OwnL w x l) (hown : w'.ownsRow base 43 2 v' (rows.length + 1) (pts rows ++ [x, .int .i64 z])) (hg : w.grownBy w' v.ownBlock) : PtsAt base v' (rows ++ [⟨x, l, z⟩]) w' := by
  have key : ∀ y m, OwnL w y m → OwnL w' y m := by
    rintro y m ⟨A, c, rfl, h2⟩
    exact ⟨A, c, rfl, own_grown h2 hg (own_ne h2 h.own (by decide))⟩
  refine ⟨by rw [pts_append]; simpa [pts, PtR.cells] using hown, fun y hy => ?_⟩
  rcases List.mem_append.1 hy with hy | hy
  · exact key _ _ (h.each y hy)
  · rw [List.mem_singleton] at hy; subst hy; exact key _ _ hx
def ptsOf (rows : List PtR) : List (List Lbl × Int) := rows.map fun x => (x.set, x.val)
theorem ptsOf_push (rows : List PtR) (v : Value) (l : List Lbl) (z : Int) : ptsOf (rows ++ [⟨v, l, z⟩]) = ptsOf rows ++ [(l, z)] := by simp [ptsOf]
def PtsAns (ps : List (List Lbl × Int)) (w : World) (e : Ending) (w' : World) : Prop := ∃ A c rows, ptsOf rows = ps ∧ e = .returned (.slice A rows.length c) ∧ PtsAt w.heap.size (.slice A rows.length c) rows w' ∧ Below w.heap.size w w' ∧ rows.length ≤ c ∧ c ≤ 9223372036854775807
def pickOne (t look : Int) (ms : List Mtc) (x : SK) : List (List Lbl × Int) := if allF x.1 ms then (if (atF x.2 t look).2 then [(x.1, (atF x.2 t look).1)] else []) else []
def pickS (D : List SK) (t look : Int) (ms : List Mtc) : List (List Lbl × Int) := D.flatMap (pickOne t look ms)
theorem flatMap_more {α β : Type} {l : List α} {k : Nat} (f : α → List β) (h : k < l.length) : (l.take (k + 1)).flatMap f = (l.take k).flatMap f ++ f l[k] := by
  rw [List.take_succ_eq_append_getElem h, List.flatMap_append]; simp
set_option maxHeartbeats 4000000 in
theorem spick_any (g : Nat) (v : Value) (L : List SR) (t look : Int) (A2 : Option Addr) (n2 c2 : Nat) (ms : List Mtc) (w : World) (h : StAt g v L w) (hn : L.length ≤ 1000) (hsl : ∀ x ∈ L, x.set.length ≤ 1000 ∧ x.ss.length ≤ 1000000) (h2 : Sees w w.heap.size 3 A2 n2 (mtcs ms)) (hn2 : n2 ≤ 9223372036854775807) (ht : -4611686018427387904 ≤ t ∧ t ≤ 4611686018427387903) (hlk : -4611686018427387904 ≤ look ∧ look ≤ 4611686018427387903) :
    Calls Tryz.prog 114 #[.pointer (some ⟨g, 0, none⟩), .int .i64 t, .int .i64 look, .slice A2 n2 c2] w (PtsAns (pickS (keys L) t look ms) w) := by
  obtain ⟨i0, hi0, hz0, hz1, hz2⟩ := info_parts Tryz.infoPt
  obtain ⟨A, c, rfl, hc1, hc2⟩ := own_slice h.rows
  have hc0 : w.cell? ⟨g, 0, none⟩ = some (.slice A L.length c) := h.box.cell 0
  have hg := h.box.lt
  have HT : Hid (∀ V, Below w.heap.size w V → StAt g (.slice A L.length c) L V) := Lib.hid fun V hV => h.below hV
  have HM2 : Hid (∀ V, Below w.heap.size w V → Sees V V.heap.size 3 A2 n2 (mtcs ms)) := Lib.hid fun V hV => (h2.below hV).more hV.size
  clear h h2
  obtain ⟨m, hm⟩ : ∃ m, L.length = m := ⟨_, rfl⟩
  have HM := Lib.hid hm
  rw [hm] at hc0 hc1 hn HT
  clear hm
  have HC0 : Hid (∀ V, Below w.heap.size w V → V.cell? ⟨g, 0, none⟩ = some (.slice A m c)) := Lib.hid fun V hV => (HT.out V hV).box.cell 0
  have HTL := Lib.hid ht; have HLK := Lib.hid hlk
  clear ht hlk
  go_enter Tryz.func114, Tryz.ntmps114
  go_wp2_with fail
  go_loopg [9, 18] m (fun gg x9 x18 wr => ∃ (k : Nat) (X : Option Addr) (cx : Nat) (rows : List PtR), k + gg = m ∧ x18 = .int .i64 k ∧ x9 = .slice X rows.length cx ∧ PtsAt w.heap.size (.slice X rows.length cx) rows wr ∧ Below w.heap.size w wr ∧ rows.length ≤ k ∧ ptsOf rows = ((keys L).take k).flatMap (pickOne t look ms))
  case atStart => exact ⟨0, none, 0, [], by omega, rfl, rfl, PtsAt.nil _ _, Below.refl _ _, by simp, by simp [ptsOf]⟩
  case round =>
    obtain ⟨k, X, cx, rows, hkg, rfl, rfl, hrow, hbel, hrl, hrs⟩ := hrel
    have HR := Lib.hid hrow; have HB := Lib.hid hbel; have HS := Lib.hid hrs
    have hws := hbel.size
    have hd0 := HC0.out _ hbel
    have hgw : g < wr.heap.size := by omega
    clear hrow hbel hrs
    cases gk with
    | zero =>
      obtain rfl : k = m := by omega
      have HE := Lib.hid (show ptsOf rows = pickS (keys L) t look ms by rw [HS.out, List.take_of_length_le (by rw [keys_length, HM.out]; exact Nat.le_refl _)]; rfl)
      obtain ⟨X', cx', h1, h2, h3⟩ := own_slice HR.out.own
      injection h1 with h1 _ h4; subst h1; subst h4
      go_wp2_with fail
      go_ret
      exact ⟨X, cx, rows, HE.out, rfl, HR.out, HB.out, h2, h3⟩
    | succ gg =>
      have hlt : k < m := by omega
      have hkl : k < L.length := by rw [HM.out]; exact hlt
      have hrk : rows.length ≤ 1000 := by omega
      obtain ⟨ad, hA, hal, c0, c1, hser, hl⟩ := (HT.out _ HB.out).row hkl
      subst hA
      have hlen := hsl L[k] (List.getElem_mem _)
      have HF := Lib.hid (flatMap_more (pickOne t look ms) (show k < (keys L).length by rw [keys_length]; exact hkl))
      rw [keys_get hkl] at HF
      clear c0
      have HLT : Hid (∀ V, Below w.heap.size w V → Below wr.heap.size wr V → V.cell? ⟨g, 0, none⟩ = some (.slice (some ad) m c) ∧ V.cell? ⟨(ad.add (k * 3)).block, (ad.add (k * 3)).off + 1, none⟩ = some L[k].sv ∧ HasL V L[k].sv L[k].set) := Lib.hid fun V hV hV2 => ⟨HC0.out V hV, (hV2.cell (p := ⟨(ad.add (k * 3)).block, _, none⟩) hal).trans c1, hl.below hV2⟩
      have HSR : Hid (∀ V, Below wr.heap.size wr V → SerP L[k].ss V (ad.add (k * 3)).block ((ad.add (k * 3)).off + 2) L[k].xv) := Lib.hid fun V hV => hser.below hV
      clear hser
      generalize L[k].set = l at *
      generalize L[k].sv = sv at *
      generalize L[k].ss = ss at *
      generalize L[k].xv = xv at *
      obtain ⟨A0, c0, rfl⟩ := hl.form
      have HL := Lib.hid hl; clear hl
      have HAL := Lib.hid (all_any A0 l.length c0 _ l A2 n2 c2 _ ms wr HL.out.slice.1 (Nat.le_refl _) (by omega) (HM2.out _ HB.out) (Nat.le_refl _) hn2)
      cases hal2 : allF l ms with
      | false =>
        rw [hal2] at HAL
        have HN := Lib.hid (show ptsOf rows = ((keys L).take (k + 1)).flatMap (pickOne t look ms) by rw [HF.out, HS.out]; simp [pickOne, hal2])
        clear HF HS hal2
        go_wp2_with fail
        (with_reducible refine HAL.out.mono ?_); rintro e w1 ⟨rfl, hb1⟩
        have HB1 := Lib.hid (hb1.mono (Nat.le_refl _))
        have HBW := Lib.hid (HB.out.trans (hb1.mono hws))
        have HR1 := Lib.hid (HR.out.below hb1)
        clear hb1
        go_wp2_with fail
        go_roundg gg
        case measure => omega
        case rel => exact ⟨k + 1, X, cx, rows, by omega, by go_num, rfl, HR1.out, HBW.out, by omega, HN.out⟩
      | true =>
        rw [hal2] at HAL
        go_wp2_with fail
        (with_reducible refine HAL.out.mono ?_); rintro e w1 ⟨rfl, hb1⟩
        have HB1 := Lib.hid hb1
        have HBW := Lib.hid (HB.out.trans (hb1.mono hws))
        have HR1 := Lib.hid (HR.out.below hb1)
        have hs1 := hb1.size
        obtain ⟨hd1, hd2, hl1⟩ := HLT.out w1 HBW.out HB1.out
        have hal1 : (ad.add (k * 3)).block < w1.heap.size := by omega
        have hgw1 : g < w1.heap.size := by omega
        have HAT := Lib.hid (at_p ss (ad.add (k * 3)).block ((ad.add (k * 3)).off + 2) xv t look w1 (HSR.out w1 HB1.out) hlen.2 HTL.out HLK.out)
        have HL1 := Lib.hid hl1
        clear hb1 hl1 HAL HR HB hd0 hal hgw
        have HPO : Hid (pickOne t look ms (l, ss) = if (atF ss t look).2 then [(l, (atF ss t look).1)] else []) := Lib.hid (by simp [pickOne, hal2])
        clear hal2
        generalize atF ss t look = q at *
        obtain ⟨an, ab⟩ := q
        try simp only at HAT HPO
        cases ab with
        | false =>
          have HN := Lib.hid (show ptsOf rows = ((keys L).take (k + 1)).flatMap (pickOne t look ms) by rw [HF.out, HS.out, HPO.out]; simp)
          clear HF HS HPO
          go_wp2_with fail
          (with_reducible refine HAT.out.mono ?_); rintro e w2 ⟨rfl, rfl⟩
          go_wp2_with fail
          go_roundg gg
          case measure => omega
          case rel => exact ⟨k + 1, X, cx, rows, by omega, by go_num, rfl, HR1.out, HBW.out, by omega, HN.out⟩
        | true =>
          have HN := Lib.hid (show ptsOf rows ++ [(l, an)] = ((keys L).take (k + 1)).flatMap (pickOne t look ms) by rw [HF.out, HS.out, HPO.out]; simp)
          clear HF HS HPO
          go_wp2_with fail
          (with_reducible refine HAT.out.mono ?_); rintro e w2 ⟨rfl, rfl⟩
          clear HAT
          go_wp2_with fail
          (with_reducible refine (clone_lbl A0 l.length c0 _ l _ HL1.out.slice.1 (Nat.le_refl _) (by omega)).mono ?_); rintro e wq hcl
          obtain ⟨A5, c5, rfl, hol, hbq⟩ := ownL_of hcl
          have hsq := hbq.size
          have HBQ := Lib.hid (HBW.out.trans (hbq.mono (by omega)))
          have HRW := Lib.hid ((HR1.out.below hbq).below ((Below.refl _ wq).alloc (Nat.le_refl _) (.cells #[.slice A5 l.length c5, .int .i64 an] 43)))
          have HOL := Lib.hid (hol.below ((Below.refl _ wq).alloc (Nat.le_refl _) (.cells #[.slice A5 l.length c5, .int .i64 an] 43)))
          have HX := Lib.hid (show Sees (wq.alloc (.cells #[.slice A5 l.length c5, .int .i64 an] 43)) (wq.alloc (.cells #[.slice A5 l.length c5, .int .i64 an] 43)).heap.size 2 (some ⟨wq.heap.size, 0, none⟩) 1 [.slice A5 l.length c5, .int .i64 an] from (Blk.mk (heap_alloc_new wq _) : Blk _ wq.heap.size 43 [.slice A5 l.length c5, .int .i64 an]).sees rfl (List.prefix_refl _))
          have HBA := Lib.hid (HBQ.out.alloc (by omega) (.cells #[.slice A5 l.length c5, .int .i64 an] 43))
          have HBX : Hid (∀ g, (Value.slice X rows.length cx).ownBlock = some g → w.heap.size ≤ g) := Lib.hid fun g hg => (HRW.out.own.lt g hg).1
          clear hol hcl hbq HR1 HB1
          go_wp2_with (at_builtin; refine wpList_append_at rfl (.tmp 46) (.tmp 58) 38 rfl w.heap.size 43 i0 (.agg #[.slice none 0 0, .int .i64 0]) 2 32 Tryz.underlying38 hi0 hz0 hz1 hz2 rfl (by decide) (.slice X rows.length cx) rows.length (pts rows) rfl HRW.out.own _ _ 1 1 [.slice A5 l.length c5, .int .i64 an] rfl HX.out (by intro u hu; simp at hu; rcases hu with rfl | rfl <;> rfl) (by unfold maxLen; omega) (by omega) (by simp; omega) ?_)
          intro v3 w3 hown3 hgr3 hwh3
          obtain ⟨A6, c6, rfl, hc3, hc4⟩ := own_slice hown3
          have HRN := Lib.hid (HRW.out.push (l := l) (z := an) HOL.out hown3 hgr3)
          have HB3 := Lib.hid (HBA.out.grown hgr3 (by simp; omega) HBX.out)
          clear hown3 hgr3 hwh3 HX HBA HBX
          have HLN := Lib.hid (show (rows ++ [(⟨Value.slice A5 l.length c5, l, an⟩ : PtR)]).length = rows.length + 1 by simp)
          go_wp2_with fail
          go_roundg gg
          case measure => omega
          case rel => exact ⟨k + 1, A6, c6, rows ++ [⟨.slice A5 l.length c5, l, an⟩], by omega, by go_num, by rw [HLN.out], by rw [HLN.out]; exact HRN.out, HB3.out, by rw [HLN.out]; omega, by rw [ptsOf_push]; exact HN.out⟩
end Go.Proofs.YtlmakdclebbbkaaGreat

namespace Go.Proofs.YtlmakdclebbbkaaGreat
open Go.ChangeShapes Go.WideShapes Go.ChangeAt Go.RowKit
set_option linter.unusedVariables false
set_option linter.unusedSimpArgs false
set_option maxRecDepth 100000
def cmpI (a b : List UInt8) : Int := if Op.bytesLess a b = true then -1 else if Op.bytesLess b a = true then 1 else 0
theorem cmpI_neg (a b : List UInt8) : (decide (cmpI a b < 0)) = Op.bytesLess a b := by
  unfold cmpI
  cases e : Op.bytesLess a b with
  | true => simp
  | false => by_cases h : Op.bytesLess b a = true <;> simp [h]
theorem isNaN_any (x : ByteArray) (w : World) : Calls Tryz.prog 141 #[.string x] w fun e w' => e = .returned (.bool false) ∧ w = w' := by
  have h : (x.toList == x.toList) = true := by simp
  have h2 : (x.toList != x.toList) = false := by simp
  go_enter Tryz.func141, Tryz.ntmps141
  go_wp2_with fail
  go_ret
  exact ⟨by first | rfl | simp, rfl⟩
set_option maxHeartbeats 2000000 in
theorem cmpS_any (x y : ByteArray) (w : World) : Calls Tryz.prog 106 #[.string x, .string y] w fun e w' => e = .returned (.int .i64 (cmpI x.toList y.toList)) ∧ w = w' := by
  have H1 := Lib.hid (isNaN_any x w)
  have H2 := Lib.hid (isNaN_any y w)
  have HD : Hid (cmpI x.toList y.toList = if Op.bytesLess x.toList y.toList = true then -1 else if Op.bytesLess y.toList x.toList = true then 1 else 0) := Lib.hid rfl
  obtain ⟨r, hr⟩ : ∃ r, cmpI x.toList y.toList = r := ⟨_, rfl⟩
  rw [hr] at HD ⊢
  clear hr
  go_enter Tryz.func106, Tryz.ntmps106
  obtain ⟨p, hp⟩ : ∃ p, Op.bytesLess x.toList y.toList = p := ⟨_, rfl⟩
  obtain ⟨q, hq⟩ : ∃ q, Op.bytesLess y.toList x.toList = q := ⟨_, rfl⟩
  rw [hp, hq] at HD
  go_wp2_with fail
  (with_reducible refine H1.out.mono ?_); rintro e w1 ⟨rfl, rfl⟩
  go_wp2_with fail
  (with_reducible refine H2.out.mono ?_); rintro e w2 ⟨rfl, rfl⟩
  cases p with
  | true =>
    have HR : Hid (r = -1) := Lib.hid (by rw [HD.out]; rfl)
    go_wp2_with fail
    go_ret
    exact ⟨by rw [HR.out]; rfl, rfl⟩
  | false =>
    cases q with
    | true =>
      have HR : Hid (r = 1) := Lib.hid (by rw [HD.out]; rfl)
      have hxy : (x.toList == y.toList) = false := by
        cases e : (x.toList == y.toList) with
        | false => rfl
        | true => rw [beq_iff_eq] at e; rw [e, less_irrefl] at hq; cases hq
      go_wp2_with fail
      go_ret
      exact ⟨by rw [HR.out]; rfl, rfl⟩
    | false =>
      have HR : Hid (r = 0) := Lib.hid (by rw [HD.out]; rfl)
      have hxy : (x.toList == y.toList) = true := by
        rw [beq_iff_eq]
        by_cases e : x.toList = y.toList
        · exact e
        · rcases cmp_ne e with h | h
          · rw [hp] at h; cases h
          · rw [hq] at h; cases h
      go_wp2_with fail
      go_ret
      exact ⟨by rw [HR.out]; rfl, rfl⟩
set_option maxHeartbeats 2000000 in
theorem sort1_any (x y : ByteArray) (xs ys : Value) (xv yv : Int) (w : World) (h1 : xs.oneCell' = true) (h2 : ys.oneCell' = true) :
    Calls Tryz.prog 105 #[.agg #[.string x, xs, .int .i64 xv], .agg #[.string y, ys, .int .i64 yv]] w fun e w' => e = .returned (.int .i64 (cmpI x.toList y.toList)) ∧ w' = (w.alloc (.cells #[.string x, xs, .int .i64 xv] 163)).alloc (.cells #[.string y, ys, .int .i64 yv] 163) := by
  have HC := Lib.hid (fun V => cmpS_any x y V)
  go_enter Tryz.func105, Tryz.ntmps105
  go_upto_region 1 with fail
  have z1 : ((w.alloc (.cells #[.string x, xs, .int .i64 xv] 163)).alloc (.cells #[.string y, ys, .int .i64 yv] 163)).cell? ⟨w.heap.size, 0, none⟩ = some (.string x) := by
    rw [World.cell?_alloc_lt _ _ _ (by simp)]; rw [World.cell?_alloc_at _ _ _ _ (by simp)]; rfl
  have z2 : ((w.alloc (.cells #[.string x, xs, .int .i64 xv] 163)).alloc (.cells #[.string y, ys, .int .i64 yv] 163)).cell? ⟨w.heap.size + 1, 0, none⟩ = some (.string y) := by
    rw [World.cell?_alloc_at _ _ _ _ (by simp)]; rfl
  obtain ⟨W2, hW2⟩ : ∃ W, (w.alloc (.cells #[.string x, xs, .int .i64 xv] 163)).alloc (.cells #[.string y, ys, .int .i64 yv] 163) = W := ⟨_, rfl⟩
  rw [hW2] at z1 z2 ⊢
  have HW := Lib.hid hW2
  clear hW2
  go_wp2_with fail
  (with_reducible refine (HC.out _).mono ?_); rintro e w1 ⟨rfl, rfl⟩
  go_wp2_with fail
  go_ret
  exact ⟨rfl, HW.out.symm⟩
end Go.Proofs.YtlmakdclebbbkaaGreat
