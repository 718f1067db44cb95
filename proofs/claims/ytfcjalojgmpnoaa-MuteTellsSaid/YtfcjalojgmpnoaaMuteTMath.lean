/- Mathematics of MuteTells: own rows of silences and inhibitions, cut in place. -/
import Derived.Test.YtfcjalojgmpnoaaRefMute
import Derived.Test.YtfcjalojgmpnoaaMuteMoreMath
namespace Go.Proofs.Ytfcjalojgmpnoaa
open Go.ChangeShapes Go.WideShapes Go.ChangeAt Go.RowKit
set_option linter.unusedVariables false
set_option linter.unusedSimpArgs false
set_option maxRecDepth 100000
/-- A slice's first seven. -/
def cutV : Value → Value
  | .slice A n c => .slice A (min n 7) c
  | v => v
def cutS (s : Sil) : Sil := ⟨cutV s.v, s.ms.take 7, s.f, s.t⟩
def cutI (h : Inh) : Inh := ⟨cutV h.vs, h.src.take 7, cutV h.vd, h.dst.take 7, cutV h.ve, h.eq.take 7⟩
theorem HasM.cut {w : World} {v : Value} {l : List Mtc} (h : HasM w v l) : HasM w (cutV v) (l.take 7) := by
  obtain ⟨A, c, rfl, h2, h3, h4⟩ := h
  have e : (l.take 7).length = min l.length 7 := by rw [List.length_take, Nat.min_comm]
  refine ⟨A, c, by rw [e]; rfl, ?_, by rw [e]; omega, h4⟩
  have h5 := h2.take (k := min l.length 7) (Nat.min_le_left _ _)
  rw [mtcs_take] at h5
  rw [e]
  have h6 : l.take (min l.length 7) = l.take 7 := by
    by_cases hl : l.length ≤ 7
    · rw [Nat.min_eq_left hl, List.take_of_length_le (Nat.le_refl _), List.take_of_length_le hl]
    · rw [Nat.min_eq_right (by omega)]
  rwa [h6] at h5
theorem HasS.cut {w : World} {v : Value} {l : List ByteArray} (h : HasS w v l) : HasS w (cutV v) (l.take 7) := by
  obtain ⟨A, c, rfl, h2, h3, h4⟩ := h
  have e : (l.take 7).length = min l.length 7 := by rw [List.length_take, Nat.min_comm]
  refine ⟨A, c, by rw [e]; rfl, ?_, by rw [e]; omega, h4⟩
  have h5 := h2.take (k := min l.length 7) (Nat.min_le_left _ _)
  rw [Nat.mul_one, show (strs l).take (min l.length 7) = strs (l.take (min l.length 7)) by simp [strs, List.map_take]] at h5
  rw [e]
  have h6 : l.take (min l.length 7) = l.take 7 := by
    by_cases hl : l.length ≤ 7
    · rw [Nat.min_eq_left hl, List.take_of_length_le (Nat.le_refl _), List.take_of_length_le hl]
    · rw [Nat.min_eq_right (by omega)]
  rwa [h6] at h5
/-- The first i of a list cut. -/
def cutN {α : Type} (f : α → α) (i : Nat) (L : List α) : List α := (L.take i).map f ++ L.drop i
section
variable {α : Type} {f : α → α} {L : List α} {i : Nat}
theorem cutN_len : (cutN f i L).length = L.length := by unfold cutN; rw [List.length_append, List.length_map, List.length_take, List.length_drop]; omega
theorem cutN_zero : cutN f 0 L = L := by simp [cutN]
theorem cutN_all (h : L.length ≤ i) : cutN f i L = L.map f := by unfold cutN; rw [List.take_of_length_le h, List.drop_eq_nil_of_le h, List.append_nil]
theorem cutN_next (h : i < L.length) : cutN f (i + 1) L = (cutN f i L).set i (f L[i]) := by
  unfold cutN
  rw [List.take_succ_eq_append_getElem h, List.map_append, List.drop_eq_getElem_cons h, List.append_assoc]
  have hl : ((L.take i).map f).length = i := by rw [List.length_map, List.length_take]; omega
  rw [List.set_append_right _ _ (by omega), hl, Nat.sub_self]
  rfl
theorem cutN_get (h : i < L.length) : (cutN f i L)[i]'(by rw [cutN_len]; exact h) = L[i] := by
  have hl : ((L.take i).map f).length = i := by rw [List.length_map, List.length_take]; omega
  unfold cutN
  rw [List.getElem_append_right (by omega)]
  simp only [hl, Nat.sub_self, List.getElem_drop, Nat.add_zero]
theorem cutN_mem {P : α → Prop} (h1 : ∀ x ∈ L, P x) (h2 : ∀ x ∈ L, P (f x)) : ∀ x ∈ cutN f i L, P x := by
  intro x hx
  rcases List.mem_append.1 hx with hx | hx
  · obtain ⟨y, hy, rfl⟩ := List.mem_map.1 hx
    exact h2 y (List.mem_of_mem_take hy)
  · exact h1 x (List.mem_of_mem_drop hx)
end
theorem tri_parts {l : List (Value × Value × Value)} {i : Nat} (h : i < l.length) (x : Value × Value × Value) : ∃ a b : List Value, a.length = i * 3 ∧ tri l = a ++ ([l[i].1, l[i].2.1, l[i].2.2] ++ b) ∧ tri (l.set i x) = a ++ ([x.1, x.2.1, x.2.2] ++ b) := by
  have e : l = l.take i ++ l[i] :: l.drop (i + 1) := by rw [← List.drop_eq_getElem_cons h, List.take_append_drop]
  have hl2 : (l.take i).length = i := by rw [List.length_take]; omega
  refine ⟨tri (l.take i), tri (l.drop (i + 1)), by rw [tri_length, hl2], ?_, ?_⟩
  · conv => lhs; rw [e]
    rw [tri_append]; rfl
  · have e2 : l.set i x = l.take i ++ x :: l.drop (i + 1) := by
      conv => lhs; rw [e]
      rw [List.set_append_right _ _ (by omega), hl2, Nat.sub_self, List.set_cons_zero]
    rw [e2, tri_append]; rfl
theorem tri_set1 {l : List (Value × Value × Value)} {i : Nat} (h : i < l.length) (v : Value) : (tri l).set (i * 3) v = tri (l.set i (v, l[i].2.1, l[i].2.2)) := by
  obtain ⟨a, b, h1, h2, h3⟩ := tri_parts h (v, l[i].2.1, l[i].2.2)
  rw [h2, h3, List.set_append_right _ _ (by omega), h1, Nat.sub_self]; rfl
theorem tri_set3 {l : List (Value × Value × Value)} {i : Nat} (h : i < l.length) (x y z : Value) : (((tri l).set (i * 3) x).set (i * 3 + 1) y).set (i * 3 + 2) z = tri (l.set i (x, y, z)) := by
  obtain ⟨a, b, h1, h2, h3⟩ := tri_parts h (x, y, z)
  rw [h2, h3, List.set_append_right _ _ (by omega), h1, Nat.sub_self]
  rw [List.set_append_right _ _ (by omega), h1, show i * 3 + 1 - i * 3 = 1 by omega]
  rw [List.set_append_right _ _ (by omega), h1, show i * 3 + 2 - i * 3 = 2 by omega]
  rfl
theorem own_setR {w : World} {base g i : Nat} {e : TypeId} {size n c : Nat} {xs : List Value} (h : w.ownsRow base e size (.slice (some ⟨g, 0, none⟩) n c) n xs) (hi : i < xs.length) (u : Value) :
    (w.setCell ⟨g, i, none⟩ u).ownsRow base e size (.slice (some ⟨g, 0, none⟩) n c) n (xs.set i u) := by
  refine ⟨by rw [List.length_set]; exact h.1, ?_⟩
  rcases h.2 with ⟨he, _⟩ | ⟨g', cap, cur, hv, hbg, hh, hnc, hcm, hcs, htake⟩
  · cases he
  · injection hv with h1 h2 h3
    injection h1 with h1; injection h1 with h1; subst h1; subst h3
    refine .inr ⟨g, c, cur.setIfInBounds i u, rfl, hbg, ?_, hnc, hcm, by simpa using hcs, ?_⟩
    · simp [World.setCell, Array.getElem?_modify, hh]
    · have hl : i < n * size := by rw [← h.1]; exact hi
      rw [Array.toList_setIfInBounds, List.take_set, htake]
theorem own_formR {w : World} {base : Nat} {e : TypeId} {size n : Nat} {v : Value} {xs : List Value} (h : w.ownsRow base e size v n xs) (hn : 0 < n) (hs : 0 < size) : ∃ g c, v = .slice (some ⟨g, 0, none⟩) n c ∧ base ≤ g ∧ g < w.heap.size ∧ ∀ o, w.frozen? ⟨g, o, none⟩ = false := by
  rcases h.2 with ⟨rfl, hx⟩ | ⟨g, cap, cur, hv, hbg, hh, hnc, hcm, hcs, htake⟩
  · have := h.1; rw [hx] at this; simp at this; omega
  · exact ⟨g, cap, hv, hbg, (Array.getElem?_eq_some_iff.1 hh).1, fun o => by simp [World.frozen?, hh]⟩
theorem own_cellR {w : World} {base g : Nat} {e : TypeId} {size n c : Nat} {xs : List Value} (h : w.ownsRow base e size (.slice (some ⟨g, 0, none⟩) n c) n xs) {j : Nat} (hj : j < xs.length) : w.cell? ⟨g, j, none⟩ = some xs[j] := by
  have h1 := h.cells (g := g) rfl j xs[j] (List.getElem?_eq_getElem hj)
  have ea : (⟨g, 0, none⟩ : Addr).add j = ⟨g, j, none⟩ := by unfold Addr.add; split <;> simp_all
  rwa [ea] at h1
/-- The law's own silences and inhibitions; all else as it was. -/
structure ShAt (w0 : World) (S : Option Addr) (k1 cs : Nat) (sl : List Sil) (H : Option Addr) (k2 ch : Nat) (hl : List Inh) (V : World) : Prop where
  bel : Below w0.heap.size w0 V
  s : V.ownsRow w0.heap.size 31 3 (.slice S k1 cs) k1 (tri (sl.map Sil.cells))
  h : V.ownsRow w0.heap.size 29 3 (.slice H k2 ch) k2 (tri (hl.map Inh.cells))
  sm : ∀ x ∈ sl, HasM w0 x.v x.ms
  hm : ∀ x ∈ hl, HasM w0 x.vs x.src ∧ HasM w0 x.vd x.dst ∧ HasS w0 x.ve x.eq
section
variable {w0 V V' : World} {S H : Option Addr} {k1 cs k2 ch : Nat} {sl : List Sil} {hl : List Inh}
theorem ShAt.below (h : ShAt w0 S k1 cs sl H k2 ch hl V) (hb : Below V.heap.size V V') : ShAt w0 S k1 cs sl H k2 ch hl V' :=
  ⟨h.bel.trans (hb.mono h.bel.size), own_below h.s hb (Nat.le_refl _), own_below h.h hb (Nat.le_refl _), h.sm, h.hm⟩
theorem ShAt.alloc (h : ShAt w0 S k1 cs sl H k2 ch hl V) (o : Obj) : ShAt w0 S k1 cs sl H k2 ch hl (V.alloc o) := h.below ((Below.refl _ _).alloc (Nat.le_refl _) o)
theorem ShAt.drewN (h : ShAt w0 S k1 cs sl H k2 ch hl V) (m : Nat) : ShAt w0 S k1 cs sl H k2 ch hl (V.drewN m) := by
  refine h.below ?_
  induction m with
  | zero => exact Below.refl _ _
  | succ m ih => exact ih.drew
theorem ShAt.sils (h : ShAt w0 S k1 cs sl H k2 ch hl V) : SilsAt V S k1 sl := ⟨Sees.of_own h.s, fun x hx => (h.sm x hx).below h.bel⟩
theorem ShAt.inhs (h : ShAt w0 S k1 cs sl H k2 ch hl V) : InhsAt V H k2 hl := ⟨Sees.of_own h.h, fun x hx => (h.hm x hx).1.below h.bel, fun x hx => (h.hm x hx).2.1.below h.bel, fun x hx => (h.hm x hx).2.2.below h.bel⟩
theorem ShAt.lenS (h : ShAt w0 S k1 cs sl H k2 ch hl V) : sl.length = k1 := h.sils.len
theorem ShAt.lenH (h : ShAt w0 S k1 cs sl H k2 ch hl V) : hl.length = k2 := h.inhs.len
/-- Another own row grown. -/
theorem ShAt.grown {e : TypeId} {size n : Nat} {v : Value} {xs : List Value} (h : ShAt w0 S k1 cs sl H k2 ch hl V) (hx : V.ownsRow w0.heap.size e size v n xs) (h1 : 31 ≠ e) (h2 : 29 ≠ e) (hg : V.grownBy V' v.ownBlock) : ShAt w0 S k1 cs sl H k2 ch hl V' :=
  ⟨h.bel.grown hg h.bel.size (fun g hg => (hx.lt g hg).1), own_grown h.s hg (own_ne h.s hx h1), own_grown h.h hg (own_ne h.h hx h2), h.sm, h.hm⟩
end
theorem ShAt.cutS' {w0 V : World} {g i k1 cs k2 ch : Nat} {H : Option Addr} {sa : List Sil} {hl : List Inh} (h : ShAt w0 (some ⟨g, 0, none⟩) k1 cs (cutN cutS i sa) H k2 ch hl V) (hi : i < sa.length) (hx : HasM w0 sa[i].v sa[i].ms) :
    ShAt w0 (some ⟨g, 0, none⟩) k1 cs (cutN cutS (i + 1) sa) H k2 ch hl (V.setCell ⟨g, i * 3, none⟩ (cutV sa[i].v)) := by
  have hil : i < ((cutN cutS i sa).map Sil.cells).length := by rw [List.length_map, cutN_len]; exact hi
  have hk : 0 < k1 := by have := h.lenS; rw [cutN_len] at this; omega
  obtain ⟨g2, _, hX2, hgb, hgl, _⟩ := own_formR h.s hk (by omega)
  injection hX2 with hX2 _ _
  injection hX2 with hX2; injection hX2 with hX2
  subst hX2
  have hset := own_setR h.s (i := i * 3) (by rw [tri_length]; omega) (cutV sa[i].v)
  rw [tri_set1 hil, List.getElem_map, cutN_get hi] at hset
  refine ⟨h.bel.setCell (p := ⟨g, i * 3, none⟩) hgb _, ?_, ?_, ?_, h.hm⟩
  · have e : ((cutN cutS i sa).map Sil.cells).set i (cutV sa[i].v, sa[i].cells.2.1, sa[i].cells.2.2) = (cutN cutS (i + 1) sa).map Sil.cells := by
      rw [cutN_next hi, List.map_set]; rfl
    rw [e] at hset
    exact hset
  · exact own_grown h.h (only_setCell (World.grownBy.refl V (some g)) (p := ⟨g, i * 3, none⟩) (.inl rfl) _) (own_ne h.h h.s (by decide))
  · intro x hx2
    rw [cutN_next hi] at hx2
    rcases List.mem_or_eq_of_mem_set hx2 with hx2 | rfl
    · exact h.sm x hx2
    · exact hx.cut
theorem ShAt.cutI' {w0 V : World} {g i k1 cs k2 ch : Nat} {S : Option Addr} {sl : List Sil} {ha : List Inh} (h : ShAt w0 S k1 cs sl (some ⟨g, 0, none⟩) k2 ch (cutN cutI i ha) V) (hi : i < ha.length) (hx : HasM w0 ha[i].vs ha[i].src ∧ HasM w0 ha[i].vd ha[i].dst ∧ HasS w0 ha[i].ve ha[i].eq) :
    ShAt w0 S k1 cs sl (some ⟨g, 0, none⟩) k2 ch (cutN cutI (i + 1) ha) (((V.setCell ⟨g, i * 3, none⟩ (cutV ha[i].vs)).setCell ⟨g, i * 3 + 1, none⟩ (cutV ha[i].vd)).setCell ⟨g, i * 3 + 2, none⟩ (cutV ha[i].ve)) := by
  have hil : i < ((cutN cutI i ha).map Inh.cells).length := by rw [List.length_map, cutN_len]; exact hi
  have hk : 0 < k2 := by have := h.lenH; rw [cutN_len] at this; omega
  obtain ⟨g2, _, hX2, hgb, hgl, _⟩ := own_formR h.h hk (by omega)
  injection hX2 with hX2 _ _
  injection hX2 with hX2; injection hX2 with hX2
  subst hX2
  have hln : (tri ((cutN cutI i ha).map Inh.cells)).length = k2 * 3 := h.h.1
  have hik : i < k2 := by have := h.lenH; rw [cutN_len] at this; omega
  have hset := own_setR (own_setR (own_setR h.h (i := i * 3) (by omega) (cutV ha[i].vs)) (i := i * 3 + 1) (by rw [List.length_set]; omega) (cutV ha[i].vd)) (i := i * 3 + 2) (by rw [List.length_set, List.length_set]; omega) (cutV ha[i].ve)
  rw [tri_set3 hil] at hset
  have hgr : V.grownBy (((V.setCell ⟨g, i * 3, none⟩ (cutV ha[i].vs)).setCell ⟨g, i * 3 + 1, none⟩ (cutV ha[i].vd)).setCell ⟨g, i * 3 + 2, none⟩ (cutV ha[i].ve)) (some g) :=
    only_setCell (only_setCell (only_setCell (World.grownBy.refl V (some g)) (p := ⟨g, i * 3, none⟩) (.inl rfl) _) (p := ⟨g, i * 3 + 1, none⟩) (.inl rfl) _) (p := ⟨g, i * 3 + 2, none⟩) (.inl rfl) _
  refine ⟨h.bel.grown hgr h.bel.size (fun q hq => by injection hq with hq; omega), own_grown h.s hgr (own_ne h.s h.h (by decide)), ?_, h.sm, ?_⟩
  · have e : ((cutN cutI i ha).map Inh.cells).set i (cutV ha[i].vs, cutV ha[i].vd, cutV ha[i].ve) = (cutN cutI (i + 1) ha).map Inh.cells := by
      rw [cutN_next hi, List.map_set]; rfl
    rw [e] at hset
    exact hset
  · intro x hx2
    rw [cutN_next hi] at hx2
    rcases List.mem_or_eq_of_mem_set hx2 with hx2 | rfl
    · exact h.hm x hx2
    · exact ⟨hx.1.cut, hx.2.1.cut, hx.2.2.cut⟩
theorem right_one18 (x : ByteArray) : rightS [(x, ⟨#[120]⟩)] = wordF x := by
  have h1 : (⟨#[120]⟩ : ByteArray).size = 1 := rfl
  simp only [rightS, rightK, riseAt, lblAt, List.length_cons, List.length_nil]
  simp [lblOk, h1]
end Go.Proofs.Ytfcjalojgmpnoaa
