/- Package span's calls on right spans: what their ticks are. -/
import Derived.Test.YtogdollfndpleaaSpanJoin
import Derived.Test.YtogdollfndpleaaSpanTurns
namespace Go.Proofs.Ytogdollfndpleaa
open Go.ChangeShapes Go.WideShapes Go.ChangeAt Go.RowKit
set_option linter.unusedVariables false
set_option maxRecDepth 100000
/-- Right spans. -/
structure SpL (l : List (Int × Int)) : Prop where
  rise : Rise 0 l
  le : ∀ y ∈ l, y.2 ≤ 199
theorem SpL.bnd {l : List (Int × Int)} (h : SpL l) : ∀ y ∈ l, 0 ≤ y.1 ∧ y.1 ≤ y.2 ∧ y.2 ≤ 199 := fun y hy => by
  have := rise_mem h.rise hy; have := h.le y hy; omega
theorem SpL.clip {l : List (Int × Int)} (h : SpL l) : clip l = l := clip_id h.bnd
theorem SpL.len {l : List (Int × Int)} (h : SpL l) : l.length ≤ 1000 := by
  rcases rise_len h.rise (hi := 199) h.le with e | e
  · rw [e]; simp
  · omega
theorem SpL.tick {l : List (Int × Int)} (h : SpL l) {t : Int} (ht : InL l t) : 0 ≤ t ∧ t ≤ 199 := by
  obtain ⟨y, hy, h1, h2⟩ := (inL_ex l t).1 ht
  have := h.bnd y hy; omega
theorem SpL.of {l : List (Int × Int)} (h : Rise 0 l) (hh : ∀ t, InL l t → t ≤ 199) : SpL l := ⟨h, fun y hy => hh y.2 (inL_mem hy (rise_mem h hy).2 (Int.le_refl _))⟩
theorem SpL.eq {a b : List (Int × Int)} (ha : SpL a) (hb : SpL b) (h : ∀ t, InL a t ↔ InL b t) : a = b := rise_eq a b 0 0 ha.rise hb.rise h
theorem SpL.nil : SpL [] := ⟨trivial, fun y hy => by cases hy⟩
theorem SpL.void {a : List (Int × Int)} (ha : SpL a) (h : ∀ t, ¬ InL a t) : a = [] := ha.eq SpL.nil fun t => ⟨fun g => (h t g).elim, fun g => g.elim⟩
theorem spK_spl (bs : List Bool) : SpL (spK bs 60) := ⟨(spK_spec bs 60).2.1, fun y hy => (spK_bnd bs (by omega) y hy).2.2⟩
/-- A call answers right spans in new memory, whose ticks are these. -/
def SetAns (f : Int → Prop) (w : World) (e : Ending) (w' : World) : Prop :=
  ∃ r A c, e = .returned (.slice A (r : List (Int × Int)).length c) ∧ SpL r ∧ (∀ t, InL r t ↔ f t) ∧ Sees w' w'.heap.size 2 A r.length (smps r) ∧ Below w.heap.size w w' ∧ r.length ≤ c ∧ c ≤ 9223372036854775807
theorem less_two (A A2 : Option Addr) (n c n2 c2 : Nat) (a b : List (Int × Int)) (w : World) (ha : Sees w w.heap.size 2 A n (smps a)) (hb : Sees w w.heap.size 2 A2 n2 (smps b)) (sa : SpL a) (sb : SpL b) :
    Calls Try.prog 12 #[.slice A n c, .slice A2 n2 c2] w (SetAns (fun t => InL a t ∧ ¬ InL b t) w) := by
  have h1 := sa.len; have h2 := sb.len
  refine (less_any A A2 n c n2 c2 a b _ w ha hb (Nat.le_refl _) (by rw [← ha.smp_len]; omega) (by rw [← hb.smp_len]; omega)).mono ?_
  rintro e w' ⟨A', c', rfl, hown, hbel, hc, hm⟩
  have e1 : lessT a b = lessF a b := by unfold lessT; rw [sa.clip, sb.clip]
  rw [e1] at hown hc ⊢
  obtain ⟨g1, g2⟩ := lessF_spec a 0 sa.rise b 0 sb.rise
  exact ⟨lessF a b, A', c', rfl, SpL.of g2 fun t ht => (sa.tick ((g1 t).1 ht).1).2, g1, Sees.of_own hown, hbel, hc, hm⟩
theorem both_two (A A2 : Option Addr) (n c n2 c2 : Nat) (a b : List (Int × Int)) (w : World) (ha : Sees w w.heap.size 2 A n (smps a)) (hb : Sees w w.heap.size 2 A2 n2 (smps b)) (sa : SpL a) (sb : SpL b) :
    Calls Try.prog 11 #[.slice A n c, .slice A2 n2 c2] w (SetAns (fun t => InL a t ∧ InL b t) w) := by
  have h1 := sa.len; have h2 := sb.len
  refine (both_any A A2 n c n2 c2 a b _ w ha hb (Nat.le_refl _) (by rw [← ha.smp_len]; omega) (by rw [← hb.smp_len]; omega)).mono ?_
  rintro e w' ⟨A', c', rfl, hown, hbel, hc, hm⟩
  have e1 : bothT a b = bothF a b := by unfold bothT; rw [sa.clip, sb.clip]
  rw [e1] at hown hc ⊢
  obtain ⟨g1, g2⟩ := bothF_spec a 0 sa.rise b 0 sb.rise
  exact ⟨bothF a b, A', c', rfl, SpL.of g2 fun t ht => (sa.tick ((g1 t).1 ht).1).2, g1, Sees.of_own hown, hbel, hc, hm⟩
theorem clip_append (l m : List (Int × Int)) : clip (l ++ m) = clip l ++ clip m := by simp [clip]
theorem parts_pair {w : World} {A A2 : Option Addr} {n c n2 c2 : Nat} {l l2 : List (Int × Int)} {t : TypeId} (h : Sees w w.heap.size 2 A n (smps l)) (h2 : Sees w w.heap.size 2 A2 n2 (smps l2))
    (hc : n ≤ c) (hm : c ≤ 9223372036854775807) (hc2 : n2 ≤ c2) (hm2 : c2 ≤ 9223372036854775807) :
    PartsSpn (w.alloc (.cells #[.slice A n c, .slice A2 n2 c2] t)) (w.alloc (.cells #[.slice A n c, .slice A2 n2 c2] t)).heap.size (some ⟨w.heap.size, 0, none⟩) 2 [l, l2] := by
  have hk : Blk (w.alloc (.cells #[.slice A n c, .slice A2 n2 c2] t)) w.heap.size t [.slice A n c, .slice A2 n2 c2] := Blk.mk (heap_alloc_new w _)
  have hs : w.heap.size ≤ (w.alloc (.cells #[.slice A n c, .slice A2 n2 c2] t)).heap.size := by simp
  refine ⟨rfl, fun j l' hj => ?_⟩
  match j, hj with
  | 0, hj =>
    injection hj with hj; subst hj
    exact ⟨_, A, n, c, rfl, hk.lt, by rw [add_zero']; exact hk.cell 0, (h.alloc (Nat.le_refl _) _).more hs, h.smp_len.symm, hc, hm⟩
  | 1, hj =>
    injection hj with hj; subst hj
    exact ⟨_, A2, n2, c2, rfl, hk.lt, hk.cell 1, (h2.alloc (Nat.le_refl _) _).more hs, h2.smp_len.symm, hc2, hm2⟩
theorem parts_three {w : World} {A A2 A3 : Option Addr} {n c n2 c2 n3 c3 : Nat} {l l2 l3 : List (Int × Int)} {t : TypeId} (h : Sees w w.heap.size 2 A n (smps l)) (h2 : Sees w w.heap.size 2 A2 n2 (smps l2)) (h3 : Sees w w.heap.size 2 A3 n3 (smps l3))
    (hc : n ≤ c) (hm : c ≤ 9223372036854775807) (hc2 : n2 ≤ c2) (hm2 : c2 ≤ 9223372036854775807) (hc3 : n3 ≤ c3) (hm3 : c3 ≤ 9223372036854775807) :
    PartsSpn (w.alloc (.cells #[.slice A n c, .slice A2 n2 c2, .slice A3 n3 c3] t)) (w.alloc (.cells #[.slice A n c, .slice A2 n2 c2, .slice A3 n3 c3] t)).heap.size (some ⟨w.heap.size, 0, none⟩) 3 [l, l2, l3] := by
  have hk : Blk (w.alloc (.cells #[.slice A n c, .slice A2 n2 c2, .slice A3 n3 c3] t)) w.heap.size t [.slice A n c, .slice A2 n2 c2, .slice A3 n3 c3] := Blk.mk (heap_alloc_new w _)
  have hs : w.heap.size ≤ (w.alloc (.cells #[.slice A n c, .slice A2 n2 c2, .slice A3 n3 c3] t)).heap.size := by simp
  refine ⟨rfl, fun j l' hj => ?_⟩
  match j, hj with
  | 0, hj =>
    injection hj with hj; subst hj
    exact ⟨_, A, n, c, rfl, hk.lt, by rw [add_zero']; exact hk.cell 0, (h.alloc (Nat.le_refl _) _).more hs, h.smp_len.symm, hc, hm⟩
  | 1, hj =>
    injection hj with hj; subst hj
    exact ⟨_, A2, n2, c2, rfl, hk.lt, hk.cell 1, (h2.alloc (Nat.le_refl _) _).more hs, h2.smp_len.symm, hc2, hm2⟩
  | 2, hj =>
    injection hj with hj; subst hj
    exact ⟨_, A3, n3, c3, rfl, hk.lt, hk.cell 2, (h3.alloc (Nat.le_refl _) _).more hs, h3.smp_len.symm, hc3, hm3⟩
theorem join_set {l : List (Int × Int)} {w0 w : World} {f : Int → Prop} (hw : Below w0.heap.size w0 w) (hf : ∀ t, InL (clip l) t ↔ f t) {e : Ending} {w' : World} (h : JoinAns l w e w') : SetAns f w0 e w' := by
  obtain ⟨r, A, c, rfl, ⟨h1, h2, h3⟩, hown, hbel, hc, hm, _⟩ := h
  exact ⟨r, A, c, rfl, ⟨h1, fun y hy => (h2 y hy).2.2.2⟩, fun t => (h3 t).trans (hf t), Sees.of_own hown, hw.trans (hbel.mono hw.size), hc, hm⟩
theorem join_two (A A2 : Option Addr) (n c n2 c2 : Nat) (a b : List (Int × Int)) (w : World) (ha : Sees w w.heap.size 2 A n (smps a)) (hb : Sees w w.heap.size 2 A2 n2 (smps b)) (sa : SpL a) (sb : SpL b)
    (hc : n ≤ c) (hm : c ≤ 9223372036854775807) (hc2 : n2 ≤ c2) (hm2 : c2 ≤ 9223372036854775807) :
    Calls Try.prog 7 #[.slice (some ⟨w.heap.size, 0, none⟩) 2 2] (w.alloc (.cells #[.slice A n c, .slice A2 n2 c2] 24)) (SetAns (fun t => InL a t ∨ InL b t) w) := by
  have h1 := sa.len; have h2 := sb.len
  refine (join_any _ 2 2 [a, b] _ (parts_pair ha hb hc hm hc2 hm2) (by omega) (by simp; omega)).mono ?_
  intro e w' h
  refine join_set ((Below.refl _ _).alloc (Nat.le_refl _) _) (fun t => ?_) h
  rw [show ([a, b] : List (List (Int × Int))).flatten = a ++ b by simp, clip_append, sa.clip, sb.clip, inL_append]
theorem join_three (A A2 A3 : Option Addr) (n c n2 c2 n3 c3 : Nat) (a b d : List (Int × Int)) (w : World) (ha : Sees w w.heap.size 2 A n (smps a)) (hb : Sees w w.heap.size 2 A2 n2 (smps b)) (hd : Sees w w.heap.size 2 A3 n3 (smps d)) (sa : SpL a) (sb : SpL b) (sd : SpL d)
    (hc : n ≤ c) (hm : c ≤ 9223372036854775807) (hc2 : n2 ≤ c2) (hm2 : c2 ≤ 9223372036854775807) (hc3 : n3 ≤ c3) (hm3 : c3 ≤ 9223372036854775807) :
    Calls Try.prog 7 #[.slice (some ⟨w.heap.size, 0, none⟩) 3 3] (w.alloc (.cells #[.slice A n c, .slice A2 n2 c2, .slice A3 n3 c3] 24)) (SetAns (fun t => InL a t ∨ InL b t ∨ InL d t) w) := by
  have h1 := sa.len; have h2 := sb.len; have h3 := sd.len
  refine (join_any _ 3 3 [a, b, d] _ (parts_three ha hb hd hc hm hc2 hm2 hc3 hm3) (by omega) (by simp; omega)).mono ?_
  intro e w' h
  refine join_set ((Below.refl _ _).alloc (Nat.le_refl _) _) (fun t => ?_) h
  rw [show ([a, b, d] : List (List (Int × Int))).flatten = a ++ (b ++ d) by simp, clip_append, clip_append, sa.clip, sb.clip, sd.clip, inL_append, inL_append]
theorem join_none (w : World) : Calls Try.prog 7 #[.slice none 0 0] w (SetAns (fun t => False) w) := by
  refine (join_any none 0 0 [] w ⟨rfl, fun j l h => by simp at h⟩ (by omega) (by simp)).mono ?_
  intro e w' h
  exact join_set (Below.refl _ _) (fun t => by simp [clip, InL]) h
theorem right_spl : ∀ (l : List (Int × Int)) (p : Option Int) (lo : Int), Rise lo l → 0 ≤ lo → (∀ e, p = some e → e + 2 ≤ lo) → (∀ y ∈ l, y.2 ≤ 199) → rightF p l = true
  | [], _, _, _, _, _, _ => by simp [rightF]
  | x :: r, p, lo, h, h0, hp, hb => by
    have h1 := h.1; have h2 := h.2.1
    have h3 := hb x (by simp)
    have ih := right_spl r (some x.2) (x.2 + 2) h.2.2 (by omega) (fun e he => by injection he; omega) (fun y hy => hb y (by simp [hy]))
    have hx : rightAt p x = true := by
      obtain ⟨f, t⟩ := x
      simp only at h1 h2 h3
      cases p with
      | none => exact rightAt_none ⟨by omega, h2, by omega⟩
      | some e => rw [rightAt_some ⟨by omega, h2, by omega⟩]; have := hp e rfl; exact decide_eq_true (by omega)
    rw [rightF, hx, ih]; rfl
theorem SpL.right {l : List (Int × Int)} (h : SpL l) : rightF none l = true := right_spl l none 0 h.rise (Int.le_refl _) (fun e he => by cases he) h.le
theorem rightF_snoc : ∀ (l : List (Int × Int)) (p : Option Int) (x : Int × Int), rightF p (l ++ [x]) = (rightF p l && rightAt (match l.getLast? with | none => p | some y => some y.2) x)
  | [], p, x => by simp [rightF]
  | y :: l, p, x => by
    rw [List.cons_append, rightF, rightF, rightF_snoc l (some y.2) x, Bool.and_assoc]
    congr 2
    cases l with
    | nil => rfl
    | cons z l =>
      rw [List.getLast?_cons_cons]
      rcases List.eq_nil_or_concat (z :: l) with e | ⟨us, q, e⟩
      · cases e
      · rw [e, List.concat_eq_append]; simp
end Go.Proofs.Ytogdollfndpleaa
