/- GroupTells: what lies in memory: the group, the reference's box, what was told. -/
import Derived.Test.YtjcbigkmmjcmdaaGroupTells
import Derived.Test.YtjcbigkmmjcmdaaGroupCopies2
import Derived.Test.YtjcbigkmmjcmdaaGroupWaits2
import Derived.Test.YtjcbigkmmjcmdaaBookStr
namespace Go.Proofs.Ytjcbigkmmjcmdaa
open Go.ChangeShapes Go.WideShapes Go.ChangeAt Go.RowKit
set_option linter.unusedVariables false
set_option linter.unusedSimpArgs false
set_option maxRecDepth 100000
/-- A group lies at block g, and neither it nor what it told last lies in the row. -/
def GFar (w : World) (g : Nat) (s : GS) (row : Option Nat) : Prop := ∃ A c, Blk w g 51 (s.cells A c) ∧ Sees w w.heap.size 1 A s.last.length (strs s.last) ∧ Typed w 9 A s.last.length ∧ (s.last.length ≤ c ∧ c ≤ 9223372036854775807) ∧ row ≠ some g ∧ ∀ ad, A = some ad → 0 < s.last.length → row ≠ some ad.block
theorem GFar.at_ {w : World} {g : Nat} {s : GS} {row : Option Nat} (h : GFar w g s row) : GAt w g s := by
  obtain ⟨A, c, h1, h2, h3, h4, _⟩ := h
  exact ⟨A, c, h1, h2, h3, h4⟩
theorem GAt.far {w : World} {g : Nat} {s : GS} (h : GAt w g s) : GFar w g s none := by
  obtain ⟨A, c, h1, h2, h3, h4⟩ := h
  exact ⟨A, c, h1, h2, h3, h4, (fun e => by cases e), (fun _ _ _ e => by cases e)⟩
theorem GFar.below {w w' : World} {g : Nat} {s : GS} {row : Option Nat} (h : GFar w g s row) (hb : Below w.heap.size w w') : GFar w' g s row := by
  obtain ⟨A, c, hk, hs, ha, hc, hr⟩ := h
  exact ⟨A, c, hk.below hb hk.lt, (hs.below hb).more hb.size, ha.below hb (sees_lt hs), hc, hr⟩
/-- What writes but one block that is none of these. -/
theorem GFar.write {w w' : World} {g x : Nat} {s : GS} {row : Option Nat} {t : TypeId} {cs : List Value} (h : GFar w g s row) (ho : w.grownBy w' (some x)) (hx : Blk w x t cs) (ht1 : t ≠ 51) (ht2 : t ≠ 9) : GFar w' g s row := by
  obtain ⟨A, c, hk, hs, ha, hc, hr⟩ := h
  have hne : ∀ ad, A = some ad → 0 < s.last.length → ad.block ≠ x := ha.ne hx ht2
  refine ⟨A, c, hk.grown ho (fun e => ?_), hs.grownX hne (Nat.le_refl _) ho, fun ad he hn => ?_, hc, hr⟩
  · injection e with e; subst e
    have := hk.eq.symm.trans hx.eq
    injection this with this; injection this with _ this _
    exact ht1 this.symm
  · obtain ⟨cs, f, e⟩ := ha ad he hn
    exact ⟨cs, f, (ho.block ad.block (sees_lt hs ad he hn) (fun e2 => hne ad he hn (by injection e2))).trans e⟩
/-- What writes the row. -/
theorem GFar.told {w w' : World} {g : Nat} {s : GS} {row : Option Nat} (h : GFar w g s row) (ho : w.grownBy w' row) : GFar w' g s row := by
  obtain ⟨A, c, hk, hs, ha, hc, hr1, hr2⟩ := h
  have key : ∀ ad, A = some ad → 0 < s.last.length → w'.heap[ad.block]? = w.heap[ad.block]? := fun ad he hn => ho.block ad.block (sees_lt hs ad he hn) (fun e => hr2 ad he hn e.symm)
  refine ⟨A, c, hk.grown ho (fun e => hr1 e.symm), ⟨hs.len, fun hn => ?_⟩, fun ad he hn => by rw [key ad he hn]; exact ha ad he hn, hc, hr1, hr2⟩
  obtain ⟨ad, e, hb, hcell⟩ := hs.at_ hn
  have hz := ho.size
  refine ⟨ad, e, by omega, fun j v hv => (World.cell?_of_block (w := w) (a := ad.add j) ?_).trans (hcell j v hv)⟩
  rw [add_block]
  exact key ad e hn
theorem far_of {w : World} {g : Nat} {s : GS} {row : Option Nat} (h : ∀ w2, w.grownBy w2 row → GAt w2 g s) : GFar w g s row := by
  have h0 : GAt w g s := h w (World.grownBy.refl _ _)
  cases row with
  | none => exact h0.far
  | some k =>
    by_cases hk : k < w.heap.size
    · have ho : w.grownBy { w with heap := w.heap.set k (.cells #[] 3) hk } (some k) := ⟨rfl, rfl, rfl, by simp, fun i hi hne => by
        have hne' : k ≠ i := fun e => hne (by rw [e])
        simp [hne']⟩
      have h2 := h _ ho
      obtain ⟨A, c, hb, hs, ha, hc⟩ := h2
      have hkk : ({ w with heap := w.heap.set k (.cells #[] 3) hk } : World).heap[k]? = some (.cells #[] 3) := by simp
      have hg : k ≠ g := fun e => by
        subst e
        have := hkk.symm.trans hb.eq
        injection this with this; injection this with _ this _
        exact absurd this (by decide)
      have hl : ∀ ad, A = some ad → 0 < s.last.length → k ≠ ad.block := fun ad he hn e => by
        obtain ⟨cs, f, e2⟩ := ha ad he hn
        rw [← e] at e2
        have := hkk.symm.trans e2
        injection this with this; injection this with _ this _
        exact absurd this (by decide)
      have same : ∀ i, i ≠ k → ({ w with heap := w.heap.set k (.cells #[] 3) hk } : World).heap[i]? = w.heap[i]? := fun i hi => by
        have : k ≠ i := fun e => hi e.symm
        simp [this]
      refine ⟨A, c, (same g (fun e => hg e.symm)).symm.trans hb.eq, ⟨hs.len, fun hn => ?_⟩, fun ad he hn => ?_, hc, (fun e => by injection e with e; exact hg e), (fun ad he hn e => by injection e with e; exact hl ad he hn e)⟩
      · obtain ⟨ad, e, hlt, hcell⟩ := hs.at_ hn
        refine ⟨ad, e, by simpa using hlt, fun j v hv => (World.cell?_of_block (w := { w with heap := w.heap.set k (.cells #[] 3) hk }) (a := ad.add j) ?_).trans (hcell j v hv)⟩
        rw [add_block]
        exact (same _ (fun e2 => hl ad e hn e2.symm)).symm
      · obtain ⟨cs, f, e⟩ := ha ad he hn
        exact ⟨cs, f, (same _ (fun e2 => hl ad he hn e2.symm)).symm.trans e⟩
    · obtain ⟨A, c, h1, h2, h3, h4⟩ := h0
      exact ⟨A, c, h1, h2, h3, h4, (fun e => by injection e with e; have := h1.lt; omega), (fun ad he hn e => by injection e with e; have := sees_lt h2 ad he hn; omega)⟩
theorem ref_ne_group : (35 : TypeId) ≠ 51 := by decide
theorem ref_ne_string : (35 : TypeId) ≠ 9 := by decide
/-- The group, the reference's box, what the reference sent last. -/
structure TL (w0 : World) (B g bg : Nat) (s : GS) (r : RV) (row : Option Nat) (w : World) : Prop where
  a : GFar w g s row
  ga : w0.heap.size ≤ g
  box : Blk w bg 35 r.cells
  gb : w0.heap.size ≤ bg ∧ bg < B
  last : Sees w B 1 r.lA r.last.length (strs r.last)
  ltyp : Typed w 9 r.lA r.last.length
  bel : Below w0.heap.size w0 w
  b : w0.heap.size ≤ B ∧ B ≤ w.heap.size
section
variable {w0 w w' : World} {B g bg : Nat} {s s' : GS} {r r' : RV} {row : Option Nat}
theorem TL.below (h : TL w0 B g bg s r row w) (hb : Below w.heap.size w w') : TL w0 B g bg s r row w' :=
  ⟨h.a.below hb, h.ga, h.box.below hb h.box.lt, h.gb, h.last.below (hb.mono h.b.2), h.ltyp.below hb (fun ad ha hn => Nat.lt_of_lt_of_le (sees_lt h.last ad ha hn) h.b.2), h.bel.trans (hb.mono h.bel.size), h.b.1, Nat.le_trans h.b.2 hb.size⟩
theorem TL.drewN (h : TL w0 B g bg s r row w) (n : Nat) : TL w0 B g bg s r row (w.drewN n) := h.below (belowD (Below.refl _ _) n)
theorem TL.up (h : TL w0 B g bg s r row w) {B' : Nat} (hB : B ≤ B') (hB' : B' ≤ w.heap.size) : TL w0 B' g bg s r row w :=
  ⟨h.a, h.ga, h.box, ⟨h.gb.1, Nat.lt_of_lt_of_le h.gb.2 hB⟩, h.last.more hB, h.ltyp, h.bel, Nat.le_trans h.b.1 hB, hB'⟩
/-- A tick. -/
theorem TL.tick (h : TL w0 B g bg s r none w) (ho : w.grownBy w' (some g)) (hg : GFar w' g s' row) : TL w0 w.heap.size g bg s' r row w' := by
  have h0 := h.up h.b.2 (Nat.le_refl _)
  have hne : ∀ ad, r.lA = some ad → 0 < r.last.length → ad.block ≠ g := by obtain ⟨A', c', hk, _⟩ := h.a.at_; exact h.ltyp.ne hk group_ne_string
  refine ⟨hg, h.ga, h0.box.grown ho (fun e => h.box.notG h.a.at_ ref_ne_group (by injection e)), h0.gb, ⟨h0.last.len, fun hn => ?_⟩, fun ad he hn => ?_, h.bel.grown ho h.bel.size (fun k hk => by injection hk with hk; have := h.ga; omega), h0.b.1, ho.size⟩
  · obtain ⟨ad, e, hlt, hcell⟩ := h0.last.at_ hn
    refine ⟨ad, e, hlt, fun j v hv => (World.cell?_of_block (w := w) (a := ad.add j) ?_).trans (hcell j v hv)⟩
    rw [add_block]
    exact ho.block ad.block hlt (fun e2 => hne ad e hn (by injection e2))
  · obtain ⟨cs, f, e⟩ := h.ltyp ad he hn
    exact ⟨cs, f, (ho.block ad.block (sees_lt h0.last ad he hn) (fun e2 => hne ad he hn (by injection e2))).trans e⟩
/-- The told row is written. -/
theorem TL.told (h : TL w0 B g bg s r row w) (ho : w.grownBy w' row) (hr : ∀ k, row = some k → B ≤ k) : TL w0 B g bg s r row w' := by
  have hz := ho.size
  have hb : Below B w w' := (Below.refl B w).grown ho h.b.2 hr
  exact ⟨h.a.told ho, h.ga, h.box.below hb h.gb.2, h.gb, h.last.below hb, h.ltyp.below hb (fun ad ha hn => sees_lt h.last ad ha hn), h.bel.trans (hb.mono h.b.1), h.b.1, Nat.le_trans h.b.2 hz⟩
/-- Another group, which lies apart. -/
theorem TL.group (h : TL w0 B g bg s r row w) {g' : Nat} (hg : GAt w g' s') (hg' : w0.heap.size ≤ g') : TL w0 B g' bg s' r none w :=
  ⟨hg.far, hg', h.box, h.gb, h.last, h.ltyp, h.bel, h.b⟩
/-- A tick of the old group behind a copy. -/
theorem TL.tick2 (h : TL w0 B g bg s r none w) {g2 : Nat} {s2 : GS} (h2 : GAt w g2 s2) (hn2 : w0.heap.size ≤ g2) (hne : g ≠ g2) (ho : w.grownBy w' (some g2)) : TL w0 w.heap.size g bg s r none w' := by
  have hG := (h.a.at_.other h2 ho hne).far
  have h0 := h.up h.b.2 (Nat.le_refl _)
  have hne : ∀ ad, r.lA = some ad → 0 < r.last.length → ad.block ≠ g2 := by obtain ⟨A', c', hk, _⟩ := h2; exact h.ltyp.ne hk group_ne_string
  refine ⟨hG, h.ga, h0.box.grown ho (fun e => h.box.notG h2 ref_ne_group (by injection e)), h0.gb, ⟨h0.last.len, fun hn => ?_⟩, fun ad he hn => ?_, h.bel.grown ho h.bel.size (fun k hk => by injection hk with hk; omega), h0.b.1, ho.size⟩
  · obtain ⟨ad, e, hlt, hcell⟩ := h0.last.at_ hn
    refine ⟨ad, e, hlt, fun j v hv => (World.cell?_of_block (w := w) (a := ad.add j) ?_).trans (hcell j v hv)⟩
    rw [add_block]
    exact ho.block ad.block hlt (fun e2 => hne ad e hn (by injection e2))
  · obtain ⟨cs, f, e⟩ := h.ltyp ad he hn
    exact ⟨cs, f, (ho.block ad.block (sees_lt h0.last ad he hn) (fun e2 => hne ad he hn (by injection e2))).trans e⟩
end
/-- The reference's cells are written. -/
def put8 (w : World) (b : Nat) (r : RV) : World :=
  (((((((w.setCell ⟨b, 0, none⟩ (.int .i64 r.wt)).setCell ⟨b, 1, none⟩ (.int .i64 r.iv)).setCell ⟨b, 2, none⟩ (.int .i64 r.rp)).setCell ⟨b, 3, none⟩ (.int .i64 r.bg)).setCell ⟨b, 4, none⟩ (.int .i64 r.nx)).setCell ⟨b, 5, none⟩ (.int .i64 r.sn)).setCell ⟨b, 6, none⟩ (.slice r.lA r.last.length r.lc)).setCell ⟨b, 7, none⟩ (.slice r.nA r.nn r.nc)
theorem put8_only (w : World) (b : Nat) (r : RV) : w.grownBy (put8 w b r) (some b) := only_set (only_set (only_set (only_set (only_set (only_set (only_set (only_set (World.grownBy.refl _ _) 0 _) 1 _) 2 _) 3 _) 4 _) 5 _) 6 _) 7 _
theorem put8_blk {w : World} {b : Nat} {t : TypeId} {cs : List Value} (r : RV) (h : Blk w b t cs) (hl : cs.length = 8) : Blk (put8 w b r) b t r.cells := by
  match cs, hl with
  | [c0, c1, c2, c3, c4, c5, c6, c7], _ => exact (((((((h.set 0 _).set 1 _).set 2 _).set 3 _).set 4 _).set 5 _).set 6 _).set 7 _
theorem rcells_length (r : RV) : r.cells.length = 8 := rfl
theorem put8_below {w0 w : World} {b : Nat} (r : RV) (h : Below w0.heap.size w0 w) (hb : w0.heap.size ≤ b) : Below w0.heap.size w0 (put8 w b r) := h.grown (put8_only w b r) h.size (fun k hk => by injection hk with hk; omega)
theorem TL.put {w0 w : World} {B g bg : Nat} {s : GS} {r : RV} {row : Option Nat} (h : TL w0 B g bg s r row w) (r' : RV) (hl : Sees w B 1 r'.lA r'.last.length (strs r'.last)) (ht : Typed w 9 r'.lA r'.last.length) : TL w0 B g bg s r' row (put8 w bg r') := by
  have ho := put8_only w bg r'
  have hne := ht.ne h.box ref_ne_string.symm.symm
  refine ⟨h.a.write ho h.box ref_ne_group ref_ne_string, h.ga, put8_blk r' h.box (rcells_length r), h.gb, ⟨hl.len, fun hn => ?_⟩, fun ad he hn => ?_, put8_below r' h.bel h.gb.1, h.b.1, Nat.le_trans h.b.2 ho.size⟩
  · obtain ⟨ad, e, hlt, hcell⟩ := hl.at_ hn
    refine ⟨ad, e, hlt, fun j v hv => (World.cell?_of_block (w := w) (a := ad.add j) ?_).trans (hcell j v hv)⟩
    rw [add_block]
    exact ho.block ad.block (Nat.lt_of_lt_of_le hlt h.b.2) (fun e2 => hne ad e hn (by injection e2))
  · obtain ⟨cs, f, e⟩ := ht ad he hn
    exact ⟨cs, f, (ho.block ad.block (Nat.lt_of_lt_of_le (sees_lt hl ad he hn) h.b.2) (fun e2 => hne ad he hn (by injection e2))).trans e⟩
/-- A list with room behind it. -/
structure FullAt (fb : Nat) (al : List ByteArray) (w : World) : Prop where
  sees : Sees w w.heap.size 1 (some ⟨fb, 0, none⟩) (al.length + 80) (strs (al ++ List.replicate 80 ⟨#[113]⟩))
  typed : Typed w 9 (some ⟨fb, 0, none⟩) (al.length + 80)
theorem FullAt.below {fb : Nat} {al : List ByteArray} {w w' : World} (h : FullAt fb al w) (hb : Below w.heap.size w w') : FullAt fb al w' := ⟨(h.sees.below hb).more hb.size, h.typed.below hb (sees_lt h.sees)⟩
theorem FullAt.ne {fb g : Nat} {al : List ByteArray} {w : World} {s : GS} (h : FullAt fb al w) (hg : GAt w g s) : fb ≠ g := by
  obtain ⟨A', c', hk, _⟩ := hg
  exact h.typed.ne hk group_ne_string _ rfl (by omega)
theorem FullAt.tick {fb g : Nat} {al : List ByteArray} {w w' : World} {s : GS} (h : FullAt fb al w) (hg : GAt w g s) (ho : w.grownBy w' (some g)) : FullAt fb al w' := by
  have hne := h.ne hg
  refine ⟨h.sees.grownX (fun ad ha _ => by injection ha with ha; subst ha; exact hne) (Nat.le_refl _) ho, fun ad ha hn => ?_⟩
  obtain ⟨cs, f, e⟩ := h.typed ad ha hn
  refine ⟨cs, f, (ho.block ad.block (sees_lt h.sees ad ha hn) (fun e2 => ?_)).trans e⟩
  injection ha with ha; subst ha
  exact hne (by injection e2)
theorem FullAt.write {fb x : Nat} {al : List ByteArray} {w w' : World} {t : TypeId} {cs : List Value} (h : FullAt fb al w) (ho : w.grownBy w' (some x)) (hx : Blk w x t cs) (ht : t ≠ 9) : FullAt fb al w' := by
  have hne : fb ≠ x := h.typed.ne hx ht _ rfl (by omega)
  refine ⟨h.sees.grownX (fun ad ha _ => by injection ha with ha; subst ha; exact hne) (Nat.le_refl _) ho, fun ad ha hn => ?_⟩
  obtain ⟨cs, f, e⟩ := h.typed ad ha hn
  refine ⟨cs, f, (ho.block ad.block (sees_lt h.sees ad ha hn) (fun e2 => ?_)).trans e⟩
  injection ha with ha; subst ha
  exact hne (by injection e2)
theorem FullAt.pre {fb : Nat} {al : List ByteArray} {w : World} (h : FullAt fb al w) : Sees w w.heap.size 1 (some ⟨fb, 0, none⟩) al.length (strs al) := by
  have := h.sees.take (k := al.length) (by omega)
  rw [strs_take] at this
  simpa using this
theorem TxAt.write {v : Value} {al : List ByteArray} {w w' : World} {x : Nat} {t : TypeId} {cs : List Value} (h : TxAt v al w) (ho : w.grownBy w' (some x)) (hx : Blk w x t cs) (ht : t ≠ 9) : TxAt v al w' := by
  obtain ⟨A, c, h1, h2, h3, h4⟩ := h.h
  have hne : ∀ ad, A = some ad → 0 < al.length → ad.block ≠ x := h3.ne hx ht
  exact ⟨⟨A, c, h1, h2.grownX hne (Nat.le_refl _) ho, fun ad ha hn => by
    obtain ⟨cs, f, e⟩ := h3 ad ha hn
    exact ⟨cs, f, (ho.block ad.block (sees_lt h2 ad ha hn) (fun e2 => hne ad ha hn (by injection e2))).trans e⟩, h4⟩⟩
/-- An own row of small elements that isn't empty is a block. -/
theorem own_blk {w : World} {base n c : Nat} {t : TypeId} {A : Option Addr} {xs : List Value} (h : w.ownsRow base t 1 (.slice A n c) n xs) (hn : 0 < n) : ∃ gk cs, A = some ⟨gk, 0, none⟩ ∧ Blk w gk t cs ∧ n ≤ cs.length ∧ base ≤ gk := by
  rcases h.2 with ⟨_, h1⟩ | ⟨gk, cap, cur, hv, hb, hh, hc, _, hs, _⟩
  · omega
  · injection hv with hv
    exact ⟨gk, cur.toList, hv, Blk.mk (by simpa using hh), by simp; omega, hb⟩
/-- What the reference keeps is what was there or what it was given. -/
theorem rtick_last {P : Option Addr → List ByteArray → Prop} (r : RV) (t : Int) (A : Option Addr) (c : Nat) (al : List ByteArray) (h1 : P r.lA r.last) (h2 : P A al) (h3 : P none []) : P (r.tick t A c al).1.lA (r.tick t A c al).1.last := by
  have hw : P (r.wakes t A c al).lA (r.wakes t A c al).last := by unfold RV.wakes; split <;> assumption
  unfold RV.tick
  repeat' split
  all_goals first | assumption | exact hw | exact h3 | exact h2
theorem raw_cases (x y z : Int) : (0 ≤ x ∧ x ≤ 1048576 ∧ 1 ≤ y ∧ y ≤ 1048576 ∧ 1 ≤ z ∧ z ≤ 1048576 ∧ timingOk x y z = true) ∨ (¬ 0 ≤ x ∧ timingOk x y z = false) ∨ (0 ≤ x ∧ ¬ x ≤ 1048576 ∧ timingOk x y z = false) ∨ (0 ≤ x ∧ x ≤ 1048576 ∧ ¬ 1 ≤ y ∧ timingOk x y z = false) ∨ (0 ≤ x ∧ x ≤ 1048576 ∧ 1 ≤ y ∧ ¬ y ≤ 1048576 ∧ timingOk x y z = false) ∨ (0 ≤ x ∧ x ≤ 1048576 ∧ 1 ≤ y ∧ y ≤ 1048576 ∧ ¬ 1 ≤ z ∧ timingOk x y z = false) ∨ (0 ≤ x ∧ x ≤ 1048576 ∧ 1 ≤ y ∧ y ≤ 1048576 ∧ 1 ≤ z ∧ ¬ z ≤ 1048576 ∧ timingOk x y z = false) := by
  unfold timingOk inB
  simp only [Bool.and_eq_true, Bool.and_eq_false_iff, decide_eq_true_eq, decide_eq_false_iff_not]
  omega
end Go.Proofs.Ytjcbigkmmjcmdaa
