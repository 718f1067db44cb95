/- Texts, merged in one. -/
import Derived.Test.YtlmakdclebbbkaaGreatBase36
import Derived.Test.YtlmakdclebbbkaaGreatBase37
import Derived.Test.YtlmakdclebbbkaaGreatBase39
import Derived.Test.YtlmakdclebbbkaaGreatBase34
import Derived.Test.YtlmakdclebbbkaaGreatBase7
import Derived.Deep.RegionHeld3
import Derived.Test.YtlmakdclebbbkaaGreatBase2
import Derived.Test.YtlmakdclebbbkaaGreatBase3
import Derived.Test.YtlmakdclebbbkaaGreatShelf
import Derived.Test.YtlmakdclebbbkaaGreatBase
import Derived.Test.YtlmakdclebbbkaaGreatBase4
import Derived.Laws.IdiomStrings
import Derived.Laws.BytesArg
import Derived.Deep.CutBlock
import Derived.Deep.DeepCutAuto
import Derived.Test.YtlmakdclebbbkaaGreatBase33
import Derived.Lib.ItoaLen
import Derived.Test.YtlmakdclebbbkaaGreatBase35
import Derived.Test.YtlmakdclebbbkaaGreatBase5
import Derived.Test.YtlmakdclebbbkaaGreatBase13
import Derived.Deep.RegionLaw
import Derived.Deep.QuietTactic
import Derived.BigQuiet
import Derived.Test.YtlmakdclebbbkaaGreatBase45
import Derived.Lib.Hide
import Derived.Test.YtlmakdclebbbkaaGreatBase44
namespace Go.Proofs.YtlmakdclebbbkaaGreat
open Go.ChangeShapes Go.WideShapes Go.ChangeAt Go.RowKit
set_option linter.unusedVariables false
set_option linter.unusedSimpArgs false
set_option maxRecDepth 100000
theorem vector_v (k : KSet) (b B i d : Nat) (w : World) (hB : B ≤ b) (hd : d = 5) (hk : k.ok B w) (hb : Blk w b 3 [.int .i64 (i : Nat)]) (hi : i ≤ 900) :
    Calls Tryz.prog 44 #[.agg #[.slice k.A k.n k.c, .slice k.A2 k.n2 k.c2], .pointer (some ⟨b, 0, none⟩), .int .i64 0] w (VecAns 5 b i (keepV 5) w) :=
  vector_any k b B hB 5 (by omega) 0 i w rfl hk hb (by omega) (by omega)
/-- What Expr answers. -/
def ExprAns (w : World) (e : Ending) (w' : World) : Prop := ∃ x : XE, e = .returned x.val ∧ keepV 5 x ∧ okX 5 x w' ∧ Below w.heap.size w w'
set_option maxHeartbeats 2000000 in
theorem expr_any (k : KSet) (w : World) (hk : k.ok w.heap.size w) : Calls Tryz.prog 16 #[k.val] w (ExprAns w) := by
  obtain ⟨W1, hW1⟩ : ∃ W, ((w.alloc (.cells #[.slice k.A k.n k.c, .slice k.A2 k.n2 k.c2] 53)).alloc (.cells #[.int .i64 0, .int .i64 0, .slice none 0 0, .slice none 0 0, .slice none 0 0] 37)).alloc (.cells #[.int .i64 0] 3) = W := ⟨_, rfl⟩
  have hs1 : (w.alloc (.cells #[.slice k.A k.n k.c, .slice k.A2 k.n2 k.c2] 53)).heap.size = w.heap.size + 1 := by simp
  have hs2 : ((w.alloc (.cells #[.slice k.A k.n k.c, .slice k.A2 k.n2 k.c2] 53)).alloc (.cells #[.int .i64 0, .int .i64 0, .slice none 0 0, .slice none 0 0, .slice none 0 0] 37)).heap.size = w.heap.size + 2 := by simp
  have HBL := Lib.hid (show Below w.heap.size w W1 by rw [← hW1]; exact (((Below.refl _ w).alloc (Nat.le_refl _) _).alloc (by omega) _).alloc (by omega) _)
  have HB1 := Lib.hid (show Blk W1 w.heap.size 53 [.slice k.A k.n k.c, .slice k.A2 k.n2 k.c2] by rw [← hW1]; exact ((Blk.mk (heap_alloc_new w (.cells #[.slice k.A k.n k.c, .slice k.A2 k.n2 k.c2] 53))).alloc _).alloc _)
  have HB2 := Lib.hid (show Blk W1 (w.heap.size + 1) 37 [.int .i64 0, .int .i64 0, .slice none 0 0, .slice none 0 0, .slice none 0 0] by
    rw [← hW1]
    have h := heap_alloc_new (w.alloc (.cells #[.slice k.A k.n k.c, .slice k.A2 k.n2 k.c2] 53)) (.cells #[.int .i64 0, .int .i64 0, .slice none 0 0, .slice none 0 0, .slice none 0 0] 37)
    rw [hs1] at h
    exact (Blk.mk h).alloc _)
  have HB3 := Lib.hid (show Blk W1 (w.heap.size + 1 + 1) 3 [.int .i64 ((0 : Nat) : Int)] by
    rw [← hW1]
    have h := heap_alloc_new ((w.alloc (.cells #[.slice k.A k.n k.c, .slice k.A2 k.n2 k.c2] 53)).alloc (.cells #[.int .i64 0, .int .i64 0, .slice none 0 0, .slice none 0 0, .slice none 0 0] 37)) (.cells #[.int .i64 0] 3)
    rw [hs2] at h
    exact Blk.mk h)
  have HK := Lib.hid (hk.below HBL.out)
  have HW1 := Lib.hid hW1
  have HV := Lib.hid (vector_v k (w.heap.size + 1 + 1) w.heap.size 0 5 W1 (by omega) rfl HK.out HB3.out (by omega))
  clear hW1 hs1 hs2 hk
  show Calls _ _ #[.agg #[.slice k.A k.n k.c, .slice k.A2 k.n2 k.c2]] _ _
  go_enter Tryz.func16, Tryz.ntmps16
  go_upto_region 2 with fail
  rw [HW1.out]
  have c0 := HB1.out.cell 0
  have c1 := HB1.out.cell 1
  simp only [List.getElem?_cons_zero, List.getElem?_cons_succ] at c0 c1
  generalize hb : w.heap.size + 1 + 1 = b at *
  have HBB := Lib.hid (show w.heap.size < b by omega)
  have HBE := Lib.hid (show w.heap.size + 1 < b by omega)
  clear hb
  generalize hb2 : w.heap.size + 1 = b2 at *
  have HB2E := Lib.hid hb2
  generalize hb1 : w.heap.size = b1 at *
  have HB1E := Lib.hid hb1
  have hbb : b1 < b2 := by omega
  clear hb2 hb1
  go_wp2_with fail
  (with_reducible refine HV.out.mono ?_); rintro e wq ⟨⟨xk, xn, xmv, xms, xnv, xns, xkv, xks⟩, j, he, hkx, hfx, hatq, hjq, hgq⟩
  obtain ⟨A1, c1', A2, c2, A3, c3, e1, e2, e3⟩ := okX_forms hfx.now
  simp only [XE.mv, XE.nv, XE.kv, XE.ms, XE.ns, XE.kids] at e1 e2 e3
  subst e1; subst e2; subst e3
  have he2 : e = .returned (.agg #[.int .i64 xk, .int .i64 xn, .slice A1 xms.length c1', .slice A2 xns.length c2, .slice A3 xks.length c3]) := he
  subst he2
  have hbl := HB3.out.lt
  have hs1 : b1 ≤ W1.heap.size := by have := HB2.out.lt; omega
  have HBQ := Lib.hid (HBL.out.grown hgq hs1 (fun g hg => by injection hg with hg; have := HBB.out; have := HB1E.out; omega))
  have hne : b2 < W1.heap.size := HB2.out.lt
  have HR := Lib.hid (show Blk wq b2 37 [.int .i64 0, .int .i64 0, .slice none 0 0, .slice none 0 0, .slice none 0 0] from HB2.out.grown hgq (fun e => by injection e with e; have := HBB.out; have := HB2E.out; have := HBE.out; omega))
  have HQ := Lib.hid (set5W_blk HR.out (.int .i64 xk) (.int .i64 xn) (.slice A1 xms.length c1') (.slice A2 xns.length c2) (.slice A3 xks.length c3))
  have HFX := Lib.hid ((hfx.grown (set5W_grown wq b2 (.int .i64 xk) (.int .i64 xn) (.slice A1 xms.length c1') (.slice A2 xns.length c2) (.slice A3 xks.length c3)) (fun c e => by injection e with e; omega)).now)
  have HBZ := Lib.hid (show Below w.heap.size w (set5W wq b2 (.int .i64 xk) (.int .i64 xn) (.slice A1 xms.length c1') (.slice A2 xns.length c2) (.slice A3 xks.length c3)) from by
    rw [HB1E.out]
    have h2 : b1 ≤ b2 := by omega
    exact ((((HBQ.out.setCell (p := ⟨b2, 0, none⟩) h2 _).setCell (p := ⟨b2, 1, none⟩) h2 _).setCell (p := ⟨b2, 2, none⟩) h2 _).setCell (p := ⟨b2, 3, none⟩) h2 _).setCell (p := ⟨b2, 4, none⟩) h2 _)
  have HKX := Lib.hid hkx
  obtain ⟨y0, y1, y2, y3, y4⟩ := blk_cells5 HR.out
  obtain ⟨z0, z1, z2, z3, z4⟩ := blk_fr5 HR.out
  clear he hkx hfx hatq hjq hgq hs1 hbl hne
  go_wp2_with fail
  obtain ⟨q0, q1, q2, q3, q4⟩ := blk_cells5 HQ.out
  unfold set5W at q0 q1 q2 q3 q4
  refine bodyPost_ret (v := (XE.mk xk xn (.slice A1 xms.length c1') xms (.slice A2 xns.length c2) xns (.slice A3 xks.length c3) xks).val) (by simp [XE.val, XE.kd, XE.n, XE.mv, XE.nv, XE.kv, results, Tryz.results16, go_sem, q0, q1, q2, q3, q4]) rfl ?_
  exact ⟨_, rfl, HKX.out, HFX.out, HBZ.out⟩
end Go.Proofs.YtlmakdclebbbkaaGreat

namespace Go.Proofs.YtlmakdclebbbkaaGreat
open Go.ChangeShapes Go.WideShapes Go.ChangeAt Go.RowKit
set_option linter.unusedVariables false
set_option linter.unusedSimpArgs false
set_option maxRecDepth 100000
theorem signF_k {k : Int} (h : ¬ signF k = ⟨#[]⟩) : 1 ≤ k ∧ k ≤ 4 := by
  by_cases hk : 1 ≤ k ∧ k ≤ 4
  · exact hk
  · exfalso; apply h
    unfold signF
    simp only [show ¬ k = 1 by omega, show ¬ k = 2 by omega, show ¬ k = 3 by omega, show ¬ k = 4 by omega, if_false]
theorem mtcOk_facts {x : Mtc} (h : mtcOk x = true) : wordF x.1 = true ∧ x.2.1.size ≤ 24 ∧ 1 ≤ x.2.2 ∧ x.2.2 ≤ 4 := by
  simp only [mtcOk, Bool.and_eq_true, decide_eq_true_eq, Bool.not_eq_true', decide_eq_false_iff_not] at h
  exact ⟨h.1, h.2.1, signF_k h.2.2⟩
theorem rightM_facts {l : List Mtc} (h : rightM l = true) : l.length ≤ 6 ∧ ∀ x ∈ l, wordF x.1 = true ∧ x.2.1.size ≤ 24 ∧ 1 ≤ x.2.2 ∧ x.2.2 ≤ 4 := by
  simp only [rightM, Bool.and_eq_true, decide_eq_true_eq] at h
  exact ⟨h.1, fun x hx => mtcOk_facts (List.all_eq_true.1 h.2 x hx)⟩
end Go.Proofs.YtlmakdclebbbkaaGreat

namespace Go.Proofs.YtlmakdclebbbkaaGreat
open Go.ChangeShapes Go.WideShapes Go.ChangeAt Go.RowKit
set_option linter.unusedVariables false
set_option linter.unusedSimpArgs false
set_option maxRecDepth 100000
/-- From place p on tokens alike these stand. -/
def At (ts : List Tok) (p : Nat) (us : List Tok) : Prop := ∀ i (h : i < us.length), ∃ t, ts[p + i]? = some t ∧ alike t us[i]
theorem At.nil (ts : List Tok) (p : Nat) : At ts p [] := fun i h => absurd h (by simp)
theorem At.left {ts : List Tok} {p : Nat} {us vs : List Tok} (h : At ts p (us ++ vs)) : At ts p us := fun i hi => by
  obtain ⟨t, h1, h2⟩ := h i (by rw [List.length_append]; omega)
  rw [List.getElem_append_left hi] at h2
  exact ⟨t, h1, h2⟩
theorem At.right {ts : List Tok} {p : Nat} {us vs : List Tok} (h : At ts p (us ++ vs)) : At ts (p + us.length) vs := fun i hi => by
  obtain ⟨t, h1, h2⟩ := h (us.length + i) (by rw [List.length_append]; omega)
  rw [List.getElem_append_right (by omega)] at h2
  simp only [Nat.add_sub_cancel_left] at h2
  exact ⟨t, by rw [Nat.add_assoc]; exact h1, h2⟩
theorem At.app {ts : List Tok} {p : Nat} {us vs : List Tok} (h : At ts p us) (k : At ts (p + us.length) vs) : At ts p (us ++ vs) := fun i hi => by
  by_cases hl : i < us.length
  · obtain ⟨t, h1, h2⟩ := h i hl
    exact ⟨t, h1, by rw [List.getElem_append_left hl]; exact h2⟩
  · rw [List.length_append] at hi
    obtain ⟨t, h1, h2⟩ := k (i - us.length) (by omega)
    exact ⟨t, by rw [← h1]; congr 1; omega, by rw [List.getElem_append_right (by omega)]; exact h2⟩
theorem At.tail {ts : List Tok} {p : Nat} {u : Tok} {vs : List Tok} (h : At ts p (u :: vs)) : At ts (p + 1) vs := At.right (us := [u]) h
theorem At.cons {ts : List Tok} {p : Nat} {u : Tok} {vs : List Tok} (h : ∃ t, ts[p]? = some t ∧ alike t u) (k : At ts (p + 1) vs) : At ts p (u :: vs) := At.app (us := [u]) (fun i hi => by
  have : i = 0 := by simpa using hi
  subst this; exact h) k
theorem At.lt {ts : List Tok} {p : Nat} {us : List Tok} (h : At ts p us) : us = [] ∨ p + us.length ≤ ts.length := by
  cases us with
  | nil => exact .inl rfl
  | cons u us =>
    refine .inr ?_
    obtain ⟨t, h1, _⟩ := h us.length (by simp)
    have := (List.getElem?_eq_some_iff.1 h1).1
    rw [List.length_cons]; omega
section
variable {ts : List Tok} {en : Int} {p : Nat} {fa : Int} {u : Tok} {vs : List Tok}
end
end Go.Proofs.YtlmakdclebbbkaaGreat

namespace Go.Proofs.YtlmakdclebbbkaaGreat
open Go.ChangeShapes Go.WideShapes Go.ChangeAt Go.RowKit
set_option linter.unusedVariables false
set_option linter.unusedSimpArgs false
set_option maxRecDepth 100000
theorem bat_below {w w' : World} {B b : Nat} {p : Value} {l : List Value} (h : Lib.BuilderAtF 130 5 B b p l w) (hb : Below w.heap.size w w') : Lib.BuilderAtF 130 5 B b p l w' := by
  obtain ⟨hB, v, hbk, hown, hne⟩ := h
  have hlt : b < w.heap.size := by
    rcases Nat.lt_or_ge b w.heap.size with h' | h'
    · exact h'
    · simp [Array.getElem?_eq_none h'] at hbk
  refine ⟨hB, v, (hb.block b hlt).trans hbk, ⟨hown.1, ?_⟩, hne⟩
  rcases hown.2 with h | ⟨g, cap, cur, fz, hv, hg, hh, rest⟩
  · exact .inl h
  · refine .inr ⟨g, cap, cur, fz, hv, hg, ?_, rest⟩
    have : g < w.heap.size := (Array.getElem?_eq_some_iff.1 hh).1
    exact (hb.block g this).trans hh
theorem Bld.below {w w' : World} {B b : Nat} {l : List Value} (h : Bld w B b l) (hb : Below w.heap.size w w') : Bld w' B b l := h.elim (fun x => .inl (bat_below x hb)) (fun x => .inr (bat_below x hb))
section
variable {wB w0 w w' : World} {bb xb : Nat} {cs : List Value} {l l' : List UInt8}
end
/-- The kinds of a typed expression in memory. -/
theorem xe_typed {kk nn : Int} {mv nv kv : Value} {ms : List Mtc} {ns : List ByteArray} {ks : List XE} (h : (XE.mk kk nn mv ms nv ns kv ks).pe.ty ≠ 0) :
    (kk = 1 ∧ ms = [] ∧ ns = [] ∧ ks = []) ∨ (kk = 2 ∧ rightM ms = true ∧ 1 ≤ nn ∧ nn ≤ 1048576 ∧ ns = [] ∧ ks = []) ∨ (17 ≤ kk ∧ kk ≤ 20 ∧ nn = 0 ∧ ms = [] ∧ namesF ns = true ∧ ∃ a, ks = [a] ∧ a.pe.ty = 2) ∨ (3 ≤ kk ∧ kk ≤ 16 ∧ nn = 0 ∧ ms = [] ∧ ns = [] ∧ ∃ a b, ks = [a, b] ∧ a.pe.ty ≠ 0 ∧ b.pe.ty ≠ 0) := by
  have hp := ty_typed h
  obtain ⟨p, hpe⟩ : ∃ p, (XE.mk kk nn mv ms nv ns kv ks).pe = p := ⟨_, rfl⟩
  rw [hpe] at hp
  have hpe : PE.mk kk nn ms ns (pesX ks) = p := hpe
  have hnil : ∀ l : List XE, pesX l = [] → l = [] := fun l h => List.eq_nil_of_length_eq_zero (by rw [← pesX_length l, h]; rfl)
  cases hp with
  | num n => injection hpe with e1 e2 e3 e4 e5; exact .inl ⟨e1, e3, e4, hnil _ e5⟩
  | pick n ms' h h1 h2 => injection hpe with e1 e2 e3 e4 e5; subst e2; subst e3; exact .inr (.inl ⟨e1, h, h1, h2, e4, hnil _ e5⟩)
  | one k ns' a h1 h2 hn ha =>
    injection hpe with e1 e2 e3 e4 e5
    subst e1; subst e4
    refine .inr (.inr (.inl ⟨h1, h2, e2, e3, hn, ?_⟩))
    match ks, e5 with
    | [x], e5 => simp only [pesX] at e5; injection e5 with e5 _; exact ⟨x, rfl, by rw [e5]; exact ha⟩
    | [], e5 => simp [pesX] at e5
    | x :: y :: r, e5 => simp [pesX] at e5
  | two k a b h1 h2 ha hb =>
    injection hpe with e1 e2 e3 e4 e5
    subst e1
    refine .inr (.inr (.inr ⟨h1, h2, e2, e3, e4, ?_⟩))
    match ks, e5 with
    | [x, y], e5 => simp only [pesX] at e5; injection e5 with e5 e6; injection e6 with e6 _; exact ⟨x, y, rfl, by rw [e5]; exact ha, by rw [e6]; exact hb⟩
    | [], e5 => simp [pesX] at e5
    | [x], e5 => simp [pesX] at e5
    | x :: y :: z :: r, e5 => simp [pesX] at e5
end Go.Proofs.YtlmakdclebbbkaaGreat

namespace Go.Proofs.YtlmakdclebbbkaaGreat
open Go.ChangeShapes Go.WideShapes Go.ChangeAt Go.RowKit
set_option linter.unusedVariables false
set_option linter.unusedSimpArgs false
set_option maxRecDepth 100000
theorem FarS.sees {S : Nat → Prop} {w : World} {size n : Nat} {A : Option Addr} {xs : List Value} (h : Sees w w.heap.size size A n xs) (hA : ∀ ad, A = some ad → ¬ S ad.block) : FarS S (fun W => Sees W W.heap.size size A n xs) w := fun V hs hk =>
  ⟨h.len, fun hp => by
    obtain ⟨ad, e, hb, hc⟩ := h.at_ hp
    refine ⟨ad, e, by omega, fun j u hj => ?_⟩
    have hcc := hc j u hj
    have hh := hk ad.block hb (hA ad e)
    unfold World.cell? at hcc ⊢
    rw [add_block] at hcc ⊢
    rw [hh]; exact hcc⟩
theorem blk_fr {w : World} {b : Nat} {t : TypeId} {cs : List Value} (h : Blk w b t cs) : w.frozen? ⟨b, 0, none⟩ = false ∧ w.frozen? ⟨b, 1, none⟩ = false ∧ w.frozen? ⟨b, 2, none⟩ = false ∧ w.frozen? ⟨b, 3, none⟩ = false ∧ w.frozen? ⟨b, 4, none⟩ = false := ⟨h.frozen 0, h.frozen 1, h.frozen 2, h.frozen 3, h.frozen 4⟩
end Go.Proofs.YtlmakdclebbbkaaGreat

namespace Go.Proofs.YtlmakdclebbbkaaGreat
open Go.ChangeShapes Go.WideShapes Go.ChangeAt Go.RowKit
set_option linter.unusedVariables false
set_option linter.unusedSimpArgs false
set_option maxRecDepth 100000
theorem typed_kids {x : XE} (h : x.pe.ty ≠ 0) : ∀ k ∈ x.kids, k.pe.ty ≠ 0 := by
  obtain ⟨kk, nn, mv, ms, nv, ns, kv, ks⟩ := x
  intro k hk
  have hk : k ∈ ks := hk
  rcases xe_typed h with ⟨_, _, _, rfl⟩ | ⟨_, _, _, _, _, rfl⟩ | ⟨_, _, _, _, _, a, rfl, ha⟩ | ⟨_, _, _, _, _, a, b, rfl, ha, hb⟩
  · cases hk
  · cases hk
  · rw [List.mem_singleton] at hk; subst hk; rw [ha]; decide
  · rw [List.mem_cons, List.mem_singleton] at hk
    rcases hk with rfl | rfl
    · exact ha
    · exact hb
section
variable {w0 W W' : World} {k1 k2 : KSet} {g1 g2 : Nat} {L : Nat → Bool} {vs : Nat → Value}
end
end Go.Proofs.YtlmakdclebbbkaaGreat

namespace Go.Proofs.YtlmakdclebbbkaaGreat
open Go.ChangeShapes Go.WideShapes Go.ChangeAt Go.RowKit
set_option linter.unusedVariables false
set_option linter.unusedSimpArgs false
set_option maxRecDepth 100000
/-- slices.Clone at matchers. -/
theorem clone_mtc (A : Option Addr) (n c B : Nat) (zs : List Mtc) (w : World) (h : Sees w B 3 A n (mtcs zs)) (hB : B ≤ w.heap.size) (hn : n ≤ 1000000) :
    Calls Tryz.prog 153 #[.slice A n c] w (OwnAns 32 3 n (mtcs zs) w) := by
  have HL := Lib.hid h.mtc_len
  have H := Lib.hid h; clear h
  obtain ⟨i0, hi, hz0, hz1, hz2⟩ := info_parts Tryz.infoMtc5
  have hnil := fun w => Lib.run_eql_slice_nil (P := Tryz.prog) w 33 32 A n c 0 0 Tryz.underlying33
  cases A with
  | none =>
    have hn0 : n = 0 := by
      rcases Nat.eq_zero_or_pos n with h | h
      · exact h
      · obtain ⟨ad, h, _⟩ := H.out.at_ h; cases h
    subst hn0
    have hl0 : zs = [] := List.eq_nil_of_length_eq_zero HL.out
    subst hl0
    have hr := Lib.hid (show w.ownsRow w.heap.size 32 3 (.slice none 0 0) 0 (mtcs []) by simpa [mtcs] using World.ownsRow_nil w w.heap.size 32 3)
    go_enter Tryz.func153, Tryz.ntmps153
    go_wp2_with fail
    go_ret
    exact ownAns hr.out (Below.refl _ _) rfl (Nat.le_refl _) (by omega)
  | some ad =>
    have hown0 : (w.alloc (.cells #[] 32)).ownsRow w.heap.size 32 3 (.slice (some ⟨w.heap.size, 0, none⟩) 0 0) 0 [] := World.ownsRow_made w #[] 0 (Nat.le_refl _) (by unfold maxLen; omega) rfl
    have HO := Lib.hid hown0; clear hown0
    have HS := Lib.hid (H.out.below (((Below.refl B w).alloc hB (.cells #[] 32)))); clear H
    go_enter Tryz.func153, Tryz.ntmps153
    go_wp2_with (at_builtin; refine wpList_append_sees rfl (.tmp 5) (.tmp 6) 33 rfl w.heap.size 32 i0 (.agg #[.string ⟨#[]⟩, .string ⟨#[]⟩, .int .i64 0]) 3 40 Tryz.underlying33 hi hz0 hz1 hz2 rfl (by decide) _ 0 [] rfl HO.out B (some ad) n _ (mtcs zs) rfl HS.out (mtcs_one _) (by unfold maxLen; omega) (by omega) (by simp) ?_)
    intro v' w1 hown hg
    have hb := ((Below.refl w.heap.size w).alloc (Nat.le_refl _) _).grown hg (by simp) (by simp [Value.ownBlock])
    try simp only [Nat.zero_add, List.nil_append] at hown
    obtain ⟨A2, c2, rfl, hc3, hc4⟩ := own_slice hown
    have H1 := Lib.hid hown; have H2 := Lib.hid hb; clear hown hb hg
    go_wp2_with fail
    go_ret
    exact ownAns H1.out H2.out rfl hc3 hc4
theorem Tryz.infoExprC : (Tryz.prog.info? 37).map (fun i => (i.zero, i.size, i.bytes)) = some (some (.agg #[.int .i64 0, .int .i64 0, .slice none 0 0, .slice none 0 0, .slice none 0 0]), 5, 88) := by kernel_rfl
/-- clone.each of none. -/
theorem each_none (A : Option Addr) (c : Nat) (w : World) : Calls Tryz.prog 155 #[.slice A 0 c, .func (.func 118) #[] #[]] w fun e w' => e = .returned (.slice (some ⟨w.heap.size, 0, none⟩) 0 0) ∧ Below w.heap.size w w' := by
  obtain ⟨i0, hi, hz0, hz1, hz2⟩ := info_parts Tryz.infoExprC
  have HR := Lib.hid (Below.refl w.heap.size w)
  go_enter Tryz.func155, Tryz.ntmps155
  go_wp2_with (at_make; refine wpList_make_own _ rfl _ _ 35 rfl w.heap.size 37 i0 (.agg #[.int .i64 0, .int .i64 0, .slice none 0 0, .slice none 0 0, .slice none 0 0]) 5 Tryz.underlying35 hi hz0 hz1 _ _ _ 0 rfl rfl rfl (by omega) (by unfold maxLen; omega) (Nat.le_refl _) ?_)
  intro w1 hown hg
  have HB := Lib.hid (HR.out.grown hg (Nat.le_refl _) (fun k h => by cases h))
  clear hown hg
  go_wp2_with fail
  go_loopg [5, 7, 13] 0 (fun g x5 x7 x13 wr => x5 = .slice (some ⟨w.heap.size, 0, none⟩) 0 0 ∧ x13 = .int .i64 0 ∧ wr = w1)
  case atStart => exact ⟨rfl, rfl, rfl⟩
  case round =>
    obtain ⟨rfl, rfl, rfl⟩ := hrel
    go_wp2_with fail
    go_ret
    exact ⟨rfl, HB.out⟩
/-- A pick in memory of its own: its matchers' row may be written. -/
structure Pick (B : Nat) (q : XE) (W : World) : Prop where
  kd : q.kd = 2
  ns : q.ns = []
  kids : q.kids = []
  mv : W.ownsRow B 32 3 q.mv q.ms.length (mtcs q.ms)
  nv : ∃ A c, q.nv = .slice A 0 c ∧ c ≤ 9223372036854775807
  kv : ∃ A c, q.kv = .slice A 0 c ∧ c ≤ 9223372036854775807
section
variable {B : Nat} {q : XE} {W W' : World}
theorem Pick.below (h : Pick B q W) (hb : Below W.heap.size W W') : Pick B q W' := ⟨h.kd, h.ns, h.kids, own_below h.mv hb (Nat.le_refl _), h.nv, h.kv⟩
theorem Pick.mono {B' : Nat} (h : Pick B q W) (hb : B' ≤ B) : Pick B' q W := ⟨h.kd, h.ns, h.kids, own_mono h.mv hb, h.nv, h.kv⟩
theorem slc_none (W : World) (size : Nat) {v : Value} (h : ∃ A c, v = .slice A 0 c ∧ c ≤ 9223372036854775807) : Slc W size v 0 [] := by
  obtain ⟨A, c, rfl, hc⟩ := h
  exact ⟨A, c, rfl, ⟨by simp, fun hp => absurd hp (by omega)⟩, Nat.zero_le _, hc⟩
theorem Pick.ok (h : Pick B q W) (d : Nat) : okX (d + 1) q W := by
  obtain ⟨A, c, e, h1, h2⟩ := own_slice h.mv
  have hm := h.mv
  rw [e] at hm
  refine ⟨⟨A, c, e, Sees.of_own hm, h1, h2⟩, ?_, ?_, fun k hk => ?_⟩
  · rw [h.ns]; exact slc_none W 1 h.nv
  · rw [h.kids]; exact slc_none W 5 h.kv
  · rw [h.kids] at hk; cases hk
end
/-- Within the copying: the box, the answer's box. -/
structure ClAt (w0 : World) (b1 b2 : Nat) (k n : Int) (mv nv kv : Value) (W : World) : Prop where
  bel : Below w0.heap.size w0 W
  bx : Blk W b1 37 [.int .i64 k, .int .i64 n, mv, nv, kv]
  bz : Blk W b2 37 [.int .i64 0, .int .i64 0, .slice none 0 0, .slice none 0 0, .slice none 0 0]
  l1 : w0.heap.size ≤ b1
  l2 : w0.heap.size ≤ b2
  ne : b1 ≠ b2
section
variable {w0 W W' : World} {b1 b2 : Nat} {k n : Int} {mv nv kv : Value}
theorem ClAt.below (h : ClAt w0 b1 b2 k n mv nv kv W) (hb : Below W.heap.size W W') : ClAt w0 b1 b2 k n mv nv kv W' :=
  ⟨h.bel.trans (hb.mono h.bel.size), h.bx.below hb h.bx.lt, h.bz.below hb h.bz.lt, h.l1, h.l2, h.ne⟩
theorem ClAt.set2 (h : ClAt w0 b1 b2 k n mv nv kv W) (u : Value) : ClAt w0 b1 b2 k n u nv kv (W.setCell ⟨b1, 2, none⟩ u) :=
  ⟨h.bel.setCell (p := ⟨b1, 2, none⟩) h.l1 u, h.bx.set 2 u, h.bz.far (p := ⟨b1, 2, none⟩) h.ne.symm u, h.l1, h.l2, h.ne⟩
theorem ClAt.set3 (h : ClAt w0 b1 b2 k n mv nv kv W) (u : Value) : ClAt w0 b1 b2 k n mv u kv (W.setCell ⟨b1, 3, none⟩ u) :=
  ⟨h.bel.setCell (p := ⟨b1, 3, none⟩) h.l1 u, h.bx.set 3 u, h.bz.far (p := ⟨b1, 3, none⟩) h.ne.symm u, h.l1, h.l2, h.ne⟩
theorem ClAt.set4 (h : ClAt w0 b1 b2 k n mv nv kv W) (u : Value) : ClAt w0 b1 b2 k n mv nv u (W.setCell ⟨b1, 4, none⟩ u) :=
  ⟨h.bel.setCell (p := ⟨b1, 4, none⟩) h.l1 u, h.bx.set 4 u, h.bz.far (p := ⟨b1, 4, none⟩) h.ne.symm u, h.l1, h.l2, h.ne⟩
end
set_option maxHeartbeats 4000000 in
theorem clone_pick (n : Int) (A1 : Option Addr) (c1 : Nat) (ms : List Mtc) (A2 : Option Addr) (c2 : Nat) (A3 : Option Addr) (c3 : Nat) (w : World) (h : Slc w 3 (.slice A1 ms.length c1) ms.length (mtcs ms)) (hl : ms.length ≤ 1000) :
    Calls Tryz.prog 118 #[.agg #[.int .i64 2, .int .i64 n, .slice A1 ms.length c1, .slice A2 0 c2, .slice A3 0 c3]] w fun e w' => ∃ q : XE, e = .returned q.val ∧ q.pe = .mk 2 n ms [] [] ∧ Pick w.heap.size q w' ∧ Below w.heap.size w w' := by
  have hsz : (w.alloc (.cells #[.int .i64 2, .int .i64 n, .slice A1 ms.length c1, .slice A2 0 c2, .slice A3 0 c3] 37)).heap.size = w.heap.size + 1 := by simp
  have hb : Below w.heap.size w ((w.alloc (.cells #[.int .i64 2, .int .i64 n, .slice A1 ms.length c1, .slice A2 0 c2, .slice A3 0 c3] 37)).alloc (.cells #[.int .i64 0, .int .i64 0, .slice none 0 0, .slice none 0 0, .slice none 0 0] 37)) := ((Below.refl _ _).alloc (Nat.le_refl _) _).alloc (by simp) _
  have HC0 : Hid (ClAt w w.heap.size (w.heap.size + 1) 2 n (.slice A1 ms.length c1) (.slice A2 0 c2) (.slice A3 0 c3) ((w.alloc (.cells #[.int .i64 2, .int .i64 n, .slice A1 ms.length c1, .slice A2 0 c2, .slice A3 0 c3] 37)).alloc (.cells #[.int .i64 0, .int .i64 0, .slice none 0 0, .slice none 0 0, .slice none 0 0] 37))) := Lib.hid ⟨hb, (Blk.mk (heap_alloc_new w _)).alloc _, (by have hh := (Blk.mk (heap_alloc_new (w.alloc (.cells #[.int .i64 2, .int .i64 n, .slice A1 ms.length c1, .slice A2 0 c2, .slice A3 0 c3] 37)) (.cells #[.int .i64 0, .int .i64 0, .slice none 0 0, .slice none 0 0, .slice none 0 0] 37)) : Blk _ (w.alloc (.cells #[.int .i64 2, .int .i64 n, .slice A1 ms.length c1, .slice A2 0 c2, .slice A3 0 c3] 37)).heap.size 37 [.int .i64 0, .int .i64 0, .slice none 0 0, .slice none 0 0, .slice none 0 0]); rw [hsz] at hh; exact hh), Nat.le_refl _, Nat.le_succ _, by omega⟩
  have HS := Lib.hid (Slc.slice (h.below hb)).1
  have HL := Lib.hid hl
  obtain ⟨m, hm⟩ : ∃ m, ms.length = m := ⟨_, rfl⟩
  have HM := Lib.hid hm
  rw [hm] at HC0 HS HL ⊢
  have HG := Lib.hid (show ∃ g, w.heap.size = g from ⟨_, rfl⟩)
  have HG1 := Lib.hid (show ∃ g, w.heap.size + 1 = g from ⟨_, rfl⟩)
  have HWS : Hid (∃ W, ((w.alloc (.cells #[.int .i64 2, .int .i64 n, .slice A1 m c1, .slice A2 0 c2, .slice A3 0 c3] 37)).alloc (.cells #[.int .i64 0, .int .i64 0, .slice none 0 0, .slice none 0 0, .slice none 0 0] 37)) = W) := Lib.hid ⟨_, rfl⟩
  clear hb h hl hm hsz
  go_enter Tryz.func118, Tryz.ntmps118
  go_upto_region 1 with fail
  obtain ⟨b2, hb2⟩ := HG1.out
  obtain ⟨b1, hb1⟩ := HG.out
  obtain ⟨W1, hW1⟩ := HWS.out
  have HB1 := Lib.hid hb1
  have HC := HC0
  rw [hb2, hb1, hW1] at HC
  rw [hW1] at HS
  rw [hW1, hb2, hb1]
  clear HG HG1 HWS HC0 hb1 hb2 hW1
  have HCL := Lib.hid (clone_mtc A1 m c1 W1.heap.size ms W1 HS.out (Nat.le_refl _) (by have := HL.out; omega))
  obtain ⟨x0, x1, x2, x3, x4⟩ := blk_cells5 HC.out.bx
  obtain ⟨f0, f1, f2, f3, f4⟩ := blk_fr HC.out.bx
  go_wp2_with fail
  (with_reducible refine HCL.out.mono ?_); rintro e w2 ⟨E1, e1, rfl, hown, hb, hc1, hc2⟩
  have HO := Lib.hid hown
  have HLT := Lib.hid (show b1 < W1.heap.size ∧ b2 < W1.heap.size from ⟨HC.out.bx.lt, HC.out.bz.lt⟩)
  have HC_n := Lib.hid (HC.out.below hb); clear HC; have HC := HC_n; clear HC_n
  clear hown hb HCL HS x0 x1 x2 x3 x4 f0 f1 f2 f3 f4
  obtain ⟨x0, x1, x2, x3, x4⟩ := blk_cells5 HC.out.bx
  obtain ⟨f0, f1, f2, f3, f4⟩ := blk_fr HC.out.bx
  have HO2 := Lib.hid (own_far HO.out (p := ⟨b1, 2, none⟩) HLT.out.1 (.slice E1 m e1))
  have HC2 := Lib.hid (HC.out.set2 (.slice E1 m e1))
  go_upto_region 2 with fail
  obtain ⟨W3, hW3⟩ : ∃ W, w2.setCell ⟨b1, 2, none⟩ (.slice E1 m e1) = W := ⟨_, rfl⟩
  rw [hW3] at HO2 HC2 ⊢
  clear hW3 HO HC x0 x1 x2 x3 x4 f0 f1 f2 f3 f4
  have HCL := Lib.hid (clone_str A2 0 c2 W3.heap.size [] W3 ⟨by simp [strs], fun hp => absurd hp (by omega)⟩ (Nat.le_refl _) (by omega))
  obtain ⟨x0, x1, x2, x3, x4⟩ := blk_cells5 HC2.out.bx
  obtain ⟨f0, f1, f2, f3, f4⟩ := blk_fr HC2.out.bx
  go_wp2_with fail
  (with_reducible refine HCL.out.mono ?_); rintro e w4 ⟨E2, e2, rfl, hown, hb, hd1, hd2⟩
  have HO4 := Lib.hid (own_below HO2.out hb (Nat.le_refl _))
  have HC2_n := Lib.hid (HC2.out.below hb); clear HC2; have HC2 := HC2_n; clear HC2_n
  clear hown hb HCL HO2 x0 x1 x2 x3 x4 f0 f1 f2 f3 f4
  obtain ⟨x0, x1, x2, x3, x4⟩ := blk_cells5 HC2.out.bx
  obtain ⟨f0, f1, f2, f3, f4⟩ := blk_fr HC2.out.bx
  have HO5 := Lib.hid (own_far HO4.out (p := ⟨b1, 3, none⟩) HLT.out.1 (.slice E2 0 e2))
  have HC5 := Lib.hid (HC2.out.set3 (.slice E2 0 e2))
  go_upto_region 3 with fail
  obtain ⟨W5, hW5⟩ : ∃ W, w4.setCell ⟨b1, 3, none⟩ (.slice E2 0 e2) = W := ⟨_, rfl⟩
  rw [hW5] at HO5 HC5 ⊢
  clear hW5 HO4 HC2 x0 x1 x2 x3 x4 f0 f1 f2 f3 f4
  have HCL := Lib.hid (each_none A3 c3 W5)
  obtain ⟨x0, x1, x2, x3, x4⟩ := blk_cells5 HC5.out.bx
  obtain ⟨f0, f1, f2, f3, f4⟩ := blk_fr HC5.out.bx
  go_wp2_with fail
  (with_reducible refine HCL.out.mono ?_); rintro e w6 ⟨rfl, hb⟩
  obtain ⟨g3, hg3⟩ : ∃ g, W5.heap.size = g := ⟨_, rfl⟩
  have HO6 := Lib.hid (own_below HO5.out hb (Nat.le_refl _))
  have HC5_n := Lib.hid (HC5.out.below hb); clear HC5; have HC5 := HC5_n; clear HC5_n
  rw [hg3]
  clear hg3 hb HCL HO5 x0 x1 x2 x3 x4 f0 f1 f2 f3 f4
  obtain ⟨x0, x1, x2, x3, x4⟩ := blk_cells5 HC5.out.bx
  obtain ⟨f0, f1, f2, f3, f4⟩ := blk_fr HC5.out.bx
  have HO7 := Lib.hid (own_far HO6.out (p := ⟨b1, 4, none⟩) HLT.out.1 (.slice (some ⟨g3, 0, none⟩) 0 0))
  have HC7 := Lib.hid (HC5.out.set4 (.slice (some ⟨g3, 0, none⟩) 0 0))
  go_upto_region 4 with fail
  obtain ⟨W7, hW7⟩ : ∃ W, w6.setCell ⟨b1, 4, none⟩ (.slice (some ⟨g3, 0, none⟩) 0 0) = W := ⟨_, rfl⟩
  rw [hW7] at HO7 HC7 ⊢
  clear hW7 HO6 HC5 x0 x1 x2 x3 x4 f0 f1 f2 f3 f4
  obtain ⟨x0, x1, x2, x3, x4⟩ := blk_cells5 HC7.out.bx
  obtain ⟨y0, y1, y2, y3, y4⟩ := blk_cells5 HC7.out.bz
  obtain ⟨f0, f1, f2, f3, f4⟩ := blk_fr HC7.out.bz
  have HQ := Lib.hid (set5W_blk HC7.out.bz (.int .i64 2) (.int .i64 n) (.slice E1 m e1) (.slice E2 0 e2) (.slice (some ⟨g3, 0, none⟩) 0 0))
  have hg := set5W_grown W7 b2 (.int .i64 2) (.int .i64 n) (.slice E1 m e1) (.slice E2 0 e2) (.slice (some ⟨g3, 0, none⟩) 0 0)
  have HO8 := Lib.hid (own_grown HO7.out hg (fun g hg2 e => by injection e with e; have := (HO7.out.lt g hg2).1; have := HLT.out.2; omega))
  have HB8 := Lib.hid (HC7.out.bel.grown hg HC7.out.bel.size (fun g e => by injection e with e; have := HC7.out.l2; omega))
  have HBL := Lib.hid (show w.heap.size ≤ W1.heap.size from by have h1 := HC7.out.l1; have := HLT.out.1; omega)
  clear hg
  go_wp2_with fail
  obtain ⟨q0, q1, q2, q3, q4⟩ := blk_cells5 HQ.out
  unfold set5W at q0 q1 q2 q3 q4
  refine bodyPost_ret (v := .agg #[.int .i64 2, .int .i64 n, .slice E1 m e1, .slice E2 0 e2, .slice (some ⟨g3, 0, none⟩) 0 0]) (by simp [results, Tryz.results118, go_sem, q0, q1, q2, q3, q4]) rfl ?_
  refine ⟨.mk 2 n (.slice E1 m e1) ms (.slice E2 0 e2) [] (.slice (some ⟨g3, 0, none⟩) 0 0) [], rfl, rfl, ⟨rfl, rfl, rfl, ?_, ⟨_, _, rfl, hd2⟩, ⟨_, _, rfl, by omega⟩⟩, HB8.out⟩
  show World.ownsRow _ _ _ _ _ ms.length _
  rw [HM.out]
  exact own_mono HO8.out HBL.out
end Go.Proofs.YtlmakdclebbbkaaGreat
