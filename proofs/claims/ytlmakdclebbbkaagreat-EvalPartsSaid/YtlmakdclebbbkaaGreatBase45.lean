/- Texts, merged in one. -/
import Derived.Test.YtlmakdclebbbkaaGreatBase35
import Derived.Test.YtlmakdclebbbkaaGreatBase36
import Derived.Test.YtlmakdclebbbkaaGreatBase38
import Derived.Test.YtlmakdclebbbkaaGreatBase33
import Derived.Test.YtlmakdclebbbkaaGreatBase7
import Derived.Deep.RegionHeld3
import Derived.Test.YtlmakdclebbbkaaGreatBase2
import Derived.Test.YtlmakdclebbbkaaGreatBase3
import Derived.Test.YtlmakdclebbbkaaGreatShelf
import Derived.Test.YtlmakdclebbbkaaGreatBase
import Derived.Test.YtlmakdclebbbkaaGreatBase4
import Derived.Laws.IdiomStrings
import Derived.Laws.BytesArg
import Derived.Deep.CutBlock
import Derived.Deep.DeepCutAuto
import Derived.Test.YtlmakdclebbbkaaGreatBase32
import Derived.Lib.ItoaLen
import Derived.Test.YtlmakdclebbbkaaGreatBase34
import Derived.Test.YtlmakdclebbbkaaGreatBase13
import Derived.Deep.RegionLaw
import Derived.Test.YtlmakdclebbbkaaGreatBase37
import Derived.Deep.QuietTactic
import Derived.BigQuiet
namespace Go.Proofs.YtlmakdclebbbkaaGreat
open Go.ChangeShapes Go.WideShapes Go.ChangeAt Go.RowKit
set_option linter.unusedVariables false
set_option linter.unusedSimpArgs false
set_option maxRecDepth 100000
theorem vector_v (k : KSet) (b B i d : Nat) (w : World) (hB : B ≤ b) (hd : d = 5) (hk : k.ok B w) (hb : Blk w b 3 [.int .i64 (i : Nat)]) (hi : i ≤ 900) :
    Calls Tryz.prog 44 #[.agg #[.slice k.A k.n k.c, .slice k.A2 k.n2 k.c2], .pointer (some ⟨b, 0, none⟩), .int .i64 0] w (VecAns 5 b i (keepV 5) w) :=
  vector_any k b B hB 5 (by omega) 0 i w rfl hk hb (by omega) (by omega)
def ExprAns (w : World) (e : Ending) (w' : World) : Prop := ∃ x : XE, e = .returned x.val ∧ keepV 5 x ∧ okX 5 x w' ∧ Below w.heap.size w w'
set_option maxHeartbeats 2000000 in
theorem expr_any (k : KSet) (w : World) (hk : k.ok w.heap.size w) : Calls Tryz.prog 16 #[k.val] w (ExprAns w) := by
  obtain ⟨W1, hW1⟩ : ∃ W, ((w.alloc (.cells #[.slice k.A k.n k.c, .slice k.A2 k.n2 k.c2] 53)).alloc (.cells #[.int .i64 0, .int .i64 0, .slice none 0 0, .slice none 0 0, .slice none 0 0] 37)).alloc (.cells #[.int .i64 0] 3) = W := ⟨_, rfl⟩
  have hs1 : (w.alloc (.cells #[.slice k.A k.n k.c, .slice k.A2 k.n2 k.c2] 53)).heap.size = w.heap.size + 1 := by simp
  have hs2 : ((w.alloc (.cells #[.slice k.A k.n k.c, .slice k.A2 k.n2 k.c2] 53)).alloc (.cells #[.int .i64 0, .int .i64 0, .slice none 0 0, .slice none 0 0, .slice none 0 0] 37)).heap.size = w.heap.size + 2 := by simp
  have HBL := Lib.hid (show Below w.heap.size w W1 by rw [← hW1]; exact (((Below.refl _ w).alloc (Nat.le_refl _) _).alloc (by omega) _).alloc (by omega) _)
  have HB1 := Lib.hid (show Blk W1 w.heap.size 53 [.slice k.A k.n k.c, .slice k.A2 k.n2 k.c2] by rw [← hW1]; exact ((Blk.mk (heap_alloc_new w (.cells #[.slice k.A k.n k.c, .slice k.A2 k.n2 k.c2] 53))).alloc _).alloc _)
  have HB2 := Lib.hid (show Blk W1 (w.heap.size + 1) 37 [.int .i64 0, .int .i64 0, .slice none 0 0, .slice none 0 0, .slice none 0 0] by
    rw [← hW1]
    have h := heap_alloc_new (w.alloc (.cells #[.slice k.A k.n k.c, .slice k.A2 k.n2 k.c2] 53)) (.cells #[.int .i64 0, .int .i64 0, .slice none 0 0, .slice none 0 0, .slice none 0 0] 37)
    rw [hs1] at h
    exact (Blk.mk h).alloc _)
  have HB3 := Lib.hid (show Blk W1 (w.heap.size + 1 + 1) 3 [.int .i64 ((0 : Nat) : Int)] by
    rw [← hW1]
    have h := heap_alloc_new ((w.alloc (.cells #[.slice k.A k.n k.c, .slice k.A2 k.n2 k.c2] 53)).alloc (.cells #[.int .i64 0, .int .i64 0, .slice none 0 0, .slice none 0 0, .slice none 0 0] 37)) (.cells #[.int .i64 0] 3)
    rw [hs2] at h
    exact Blk.mk h)
  have HK := Lib.hid (hk.below HBL.out)
  have HW1 := Lib.hid hW1
  have HV := Lib.hid (vector_v k (w.heap.size + 1 + 1) w.heap.size 0 5 W1 (by omega) rfl HK.out HB3.out (by omega))
  clear hW1 hs1 hs2 hk
  show Calls _ _ #[.agg #[.slice k.A k.n k.c, .slice k.A2 k.n2 k.c2]] _ _
  go_enter Tryz.func16, Tryz.ntmps16
  go_upto_region 2 with fail
  rw [HW1.out]
  have c0 := HB1.out.cell 0
  have c1 := HB1.out.cell 1
  simp only [List.getElem?_cons_zero, List.getElem?_cons_succ] at c0 c1
  generalize hb : w.heap.size + 1 + 1 = b at *
  have HBB := Lib.hid (show w.heap.size < b by omega)
  have HBE := Lib.hid (show w.heap.size + 1 < b by omega)
  clear hb
  generalize hb2 : w.heap.size + 1 = b2 at *
  have HB2E := Lib.hid hb2
  generalize hb1 : w.heap.size = b1 at *
  have HB1E := Lib.hid hb1
  have hbb : b1 < b2 := by omega
  clear hb2 hb1
  go_wp2_with fail
  (with_reducible refine HV.out.mono ?_); rintro e wq ⟨⟨xk, xn, xmv, xms, xnv, xns, xkv, xks⟩, j, he, hkx, hfx, hatq, hjq, hgq⟩
  obtain ⟨A1, c1', A2, c2, A3, c3, e1, e2, e3⟩ := okX_forms hfx.now
  simp only [XE.mv, XE.nv, XE.kv, XE.ms, XE.ns, XE.kids] at e1 e2 e3
  subst e1; subst e2; subst e3
  have he2 : e = .returned (.agg #[.int .i64 xk, .int .i64 xn, .slice A1 xms.length c1', .slice A2 xns.length c2, .slice A3 xks.length c3]) := he
  subst he2
  have hbl := HB3.out.lt
  have hs1 : b1 ≤ W1.heap.size := by have := HB2.out.lt; omega
  have HBQ := Lib.hid (HBL.out.grown hgq hs1 (fun g hg => by injection hg with hg; have := HBB.out; have := HB1E.out; omega))
  have hne : b2 < W1.heap.size := HB2.out.lt
  have HR := Lib.hid (show Blk wq b2 37 [.int .i64 0, .int .i64 0, .slice none 0 0, .slice none 0 0, .slice none 0 0] from HB2.out.grown hgq (fun e => by injection e with e; have := HBB.out; have := HB2E.out; have := HBE.out; omega))
  have HQ := Lib.hid (set5W_blk HR.out (.int .i64 xk) (.int .i64 xn) (.slice A1 xms.length c1') (.slice A2 xns.length c2) (.slice A3 xks.length c3))
  have HFX := Lib.hid ((hfx.grown (set5W_grown wq b2 (.int .i64 xk) (.int .i64 xn) (.slice A1 xms.length c1') (.slice A2 xns.length c2) (.slice A3 xks.length c3)) (fun c e => by injection e with e; omega)).now)
  have HBZ := Lib.hid (show Below w.heap.size w (set5W wq b2 (.int .i64 xk) (.int .i64 xn) (.slice A1 xms.length c1') (.slice A2 xns.length c2) (.slice A3 xks.length c3)) from by
    rw [HB1E.out]
    have h2 : b1 ≤ b2 := by omega
    exact ((((HBQ.out.setCell (p := ⟨b2, 0, none⟩) h2 _).setCell (p := ⟨b2, 1, none⟩) h2 _).setCell (p := ⟨b2, 2, none⟩) h2 _).setCell (p := ⟨b2, 3, none⟩) h2 _).setCell (p := ⟨b2, 4, none⟩) h2 _)
  have HKX := Lib.hid hkx
  obtain ⟨y0, y1, y2, y3, y4⟩ := blk_cells5 HR.out
  obtain ⟨z0, z1, z2, z3, z4⟩ := blk_fr5 HR.out
  clear he hkx hfx hatq hjq hgq hs1 hbl hne
  go_wp2_with fail
  obtain ⟨q0, q1, q2, q3, q4⟩ := blk_cells5 HQ.out
  unfold set5W at q0 q1 q2 q3 q4
  refine bodyPost_ret (v := (XE.mk xk xn (.slice A1 xms.length c1') xms (.slice A2 xns.length c2) xns (.slice A3 xks.length c3) xks).val) (by simp [XE.val, XE.kd, XE.n, XE.mv, XE.nv, XE.kv, results, Tryz.results16, go_sem, q0, q1, q2, q3, q4]) rfl ?_
  exact ⟨_, rfl, HKX.out, HFX.out, HBZ.out⟩
end Go.Proofs.YtlmakdclebbbkaaGreat

namespace Go.Proofs.YtlmakdclebbbkaaGreat
open Go.ChangeShapes Go.WideShapes Go.ChangeAt Go.RowKit
set_option linter.unusedVariables false
set_option linter.unusedSimpArgs false
set_option maxRecDepth 100000
theorem signF_k {k : Int} (h : ¬ signF k = ⟨#[]⟩) : 1 ≤ k ∧ k ≤ 4 := by
  by_cases hk : 1 ≤ k ∧ k ≤ 4
  · exact hk
  · exfalso; apply h
    unfold signF
    simp only [show ¬ k = 1 by omega, show ¬ k = 2 by omega, show ¬ k = 3 by omega, show ¬ k = 4 by omega, if_false]
theorem mtcOk_facts {x : Mtc} (h : mtcOk x = true) : wordF x.1 = true ∧ x.2.1.size ≤ 24 ∧ 1 ≤ x.2.2 ∧ x.2.2 ≤ 4 := by
  simp only [mtcOk, Bool.and_eq_true, decide_eq_true_eq, Bool.not_eq_true', decide_eq_false_iff_not] at h
  exact ⟨h.1, h.2.1, signF_k h.2.2⟩
theorem rightM_facts {l : List Mtc} (h : rightM l = true) : l.length ≤ 6 ∧ ∀ x ∈ l, wordF x.1 = true ∧ x.2.1.size ≤ 24 ∧ 1 ≤ x.2.2 ∧ x.2.2 ≤ 4 := by
  simp only [rightM, Bool.and_eq_true, decide_eq_true_eq] at h
  exact ⟨h.1, fun x hx => mtcOk_facts (List.all_eq_true.1 h.2 x hx)⟩
end Go.Proofs.YtlmakdclebbbkaaGreat

namespace Go.Proofs.YtlmakdclebbbkaaGreat
open Go.ChangeShapes Go.WideShapes Go.ChangeAt Go.RowKit
set_option linter.unusedVariables false
set_option linter.unusedSimpArgs false
set_option maxRecDepth 100000
def At (ts : List Tok) (p : Nat) (us : List Tok) : Prop := ∀ i (h : i < us.length), ∃ t, ts[p + i]? = some t ∧ alike t us[i]
theorem At.nil (ts : List Tok) (p : Nat) : At ts p [] := fun i h => absurd h (by simp)
theorem At.left {ts : List Tok} {p : Nat} {us vs : List Tok} (h : At ts p (us ++ vs)) : At ts p us := fun i hi => by
  obtain ⟨t, h1, h2⟩ := h i (by rw [List.length_append]; omega)
  rw [List.getElem_append_left hi] at h2
  exact ⟨t, h1, h2⟩
theorem At.right {ts : List Tok} {p : Nat} {us vs : List Tok} (h : At ts p (us ++ vs)) : At ts (p + us.length) vs := fun i hi => by
  obtain ⟨t, h1, h2⟩ := h (us.length + i) (by rw [List.length_append]; omega)
  rw [List.getElem_append_right (by omega)] at h2
  simp only [Nat.add_sub_cancel_left] at h2
  exact ⟨t, by rw [Nat.add_assoc]; exact h1, h2⟩
theorem At.app {ts : List Tok} {p : Nat} {us vs : List Tok} (h : At ts p us) (k : At ts (p + us.length) vs) : At ts p (us ++ vs) := fun i hi => by
  by_cases hl : i < us.length
  · obtain ⟨t, h1, h2⟩ := h i hl
    exact ⟨t, h1, by rw [List.getElem_append_left hl]; exact h2⟩
  · rw [List.length_append] at hi
    obtain ⟨t, h1, h2⟩ := k (i - us.length) (by omega)
    exact ⟨t, by rw [← h1]; congr 1; omega, by rw [List.getElem_append_right (by omega)]; exact h2⟩
theorem At.tail {ts : List Tok} {p : Nat} {u : Tok} {vs : List Tok} (h : At ts p (u :: vs)) : At ts (p + 1) vs := At.right (us := [u]) h
theorem At.cons {ts : List Tok} {p : Nat} {u : Tok} {vs : List Tok} (h : ∃ t, ts[p]? = some t ∧ alike t u) (k : At ts (p + 1) vs) : At ts p (u :: vs) := At.app (us := [u]) (fun i hi => by
  have : i = 0 := by simpa using hi
  subst this; exact h) k
theorem At.lt {ts : List Tok} {p : Nat} {us : List Tok} (h : At ts p us) : us = [] ∨ p + us.length ≤ ts.length := by
  cases us with
  | nil => exact .inl rfl
  | cons u us =>
    refine .inr ?_
    obtain ⟨t, h1, _⟩ := h us.length (by simp)
    have := (List.getElem?_eq_some_iff.1 h1).1
    rw [List.length_cons]; omega
section
variable {ts : List Tok} {en : Int} {p : Nat} {fa : Int} {u : Tok} {vs : List Tok}
end
end Go.Proofs.YtlmakdclebbbkaaGreat

namespace Go.Proofs.YtlmakdclebbbkaaGreat
open Go.ChangeShapes Go.WideShapes Go.ChangeAt Go.RowKit
set_option linter.unusedVariables false
set_option linter.unusedSimpArgs false
set_option maxRecDepth 100000
theorem bat_below {w w' : World} {B b : Nat} {p : Value} {l : List Value} (h : Lib.BuilderAtF 130 5 B b p l w) (hb : Below w.heap.size w w') : Lib.BuilderAtF 130 5 B b p l w' := by
  obtain ⟨hB, v, hbk, hown, hne⟩ := h
  have hlt : b < w.heap.size := by
    rcases Nat.lt_or_ge b w.heap.size with h' | h'
    · exact h'
    · simp [Array.getElem?_eq_none h'] at hbk
  refine ⟨hB, v, (hb.block b hlt).trans hbk, ⟨hown.1, ?_⟩, hne⟩
  rcases hown.2 with h | ⟨g, cap, cur, fz, hv, hg, hh, rest⟩
  · exact .inl h
  · refine .inr ⟨g, cap, cur, fz, hv, hg, ?_, rest⟩
    have : g < w.heap.size := (Array.getElem?_eq_some_iff.1 hh).1
    exact (hb.block g this).trans hh
theorem Bld.below {w w' : World} {B b : Nat} {l : List Value} (h : Bld w B b l) (hb : Below w.heap.size w w') : Bld w' B b l := h.elim (fun x => .inl (bat_below x hb)) (fun x => .inr (bat_below x hb))
section
variable {wB w0 w w' : World} {bb xb : Nat} {cs : List Value} {l l' : List UInt8}
end
theorem xe_typed {kk nn : Int} {mv nv kv : Value} {ms : List Mtc} {ns : List ByteArray} {ks : List XE} (h : (XE.mk kk nn mv ms nv ns kv ks).pe.ty ≠ 0) :
    (kk = 1 ∧ ms = [] ∧ ns = [] ∧ ks = []) ∨ (kk = 2 ∧ rightM ms = true ∧ 1 ≤ nn ∧ nn ≤ 1048576 ∧ ns = [] ∧ ks = []) ∨ (17 ≤ kk ∧ kk ≤ 20 ∧ nn = 0 ∧ ms = [] ∧ namesF ns = true ∧ ∃ a, ks = [a] ∧ a.pe.ty = 2) ∨ (3 ≤ kk ∧ kk ≤ 16 ∧ nn = 0 ∧ ms = [] ∧ ns = [] ∧ ∃ a b, ks = [a, b] ∧ a.pe.ty ≠ 0 ∧ b.pe.ty ≠ 0) := by
  have hp := ty_typed h
  obtain ⟨p, hpe⟩ : ∃ p, (XE.mk kk nn mv ms nv ns kv ks).pe = p := ⟨_, rfl⟩
  rw [hpe] at hp
  have hpe : PE.mk kk nn ms ns (pesX ks) = p := hpe
  have hnil : ∀ l : List XE, pesX l = [] → l = [] := fun l h => List.eq_nil_of_length_eq_zero (by rw [← pesX_length l, h]; rfl)
  cases hp with
  | num n => injection hpe with e1 e2 e3 e4 e5; exact .inl ⟨e1, e3, e4, hnil _ e5⟩
  | pick n ms' h h1 h2 => injection hpe with e1 e2 e3 e4 e5; subst e2; subst e3; exact .inr (.inl ⟨e1, h, h1, h2, e4, hnil _ e5⟩)
  | one k ns' a h1 h2 hn ha =>
    injection hpe with e1 e2 e3 e4 e5
    subst e1; subst e4
    refine .inr (.inr (.inl ⟨h1, h2, e2, e3, hn, ?_⟩))
    match ks, e5 with
    | [x], e5 => simp only [pesX] at e5; injection e5 with e5 _; exact ⟨x, rfl, by rw [e5]; exact ha⟩
    | [], e5 => simp [pesX] at e5
    | x :: y :: r, e5 => simp [pesX] at e5
  | two k a b h1 h2 ha hb =>
    injection hpe with e1 e2 e3 e4 e5
    subst e1
    refine .inr (.inr (.inr ⟨h1, h2, e2, e3, e4, ?_⟩))
    match ks, e5 with
    | [x, y], e5 => simp only [pesX] at e5; injection e5 with e5 e6; injection e6 with e6 _; exact ⟨x, y, rfl, by rw [e5]; exact ha, by rw [e6]; exact hb⟩
    | [], e5 => simp [pesX] at e5
    | [x], e5 => simp [pesX] at e5
    | x :: y :: z :: r, e5 => simp [pesX] at e5
end Go.Proofs.YtlmakdclebbbkaaGreat

namespace Go.Proofs.YtlmakdclebbbkaaGreat
open Go.ChangeShapes Go.WideShapes Go.ChangeAt Go.RowKit
set_option linter.unusedVariables false
set_option linter.unusedSimpArgs false
set_option maxRecDepth 100000
theorem FarS.sees {S : Nat → Prop} {w : World} {size n : Nat} {A : Option Addr} {xs : List Value} (h : Sees w w.heap.size size A n xs) (hA : ∀ ad, A = some ad → ¬ S ad.block) : FarS S (fun W => Sees W W.heap.size size A n xs) w := fun V hs hk =>
  ⟨h.len, fun hp => by
    obtain ⟨ad, e, hb, hc⟩ := h.at_ hp
    refine ⟨ad, e, by omega, fun j u hj => ?_⟩
    have hcc := hc j u hj
    have hh := hk ad.block hb (hA ad e)
    unfold World.cell? at hcc ⊢
    rw [add_block] at hcc ⊢
    rw [hh]; exact hcc⟩
theorem below_only {b B : Nat} {w0 w w' : World} (h0 : Below B w0 w) (ho : Only b w w') (hB : B ≤ b) (hs : B ≤ w.heap.size) : Below B w0 w' := by
  exact h0.trans { size := ho.size, os := ho.os, tape := ho.tape, output := ho.output, block := fun q hq => ho.block q (by omega) (by omega) }
theorem blk_fr {w : World} {b : Nat} {t : TypeId} {cs : List Value} (h : Blk w b t cs) : w.frozen? ⟨b, 0, none⟩ = false ∧ w.frozen? ⟨b, 1, none⟩ = false ∧ w.frozen? ⟨b, 2, none⟩ = false ∧ w.frozen? ⟨b, 3, none⟩ = false ∧ w.frozen? ⟨b, 4, none⟩ = false := ⟨h.frozen 0, h.frozen 1, h.frozen 2, h.frozen 3, h.frozen 4⟩
end Go.Proofs.YtlmakdclebbbkaaGreat

namespace Go.Proofs.YtlmakdclebbbkaaGreat
open Go.ChangeShapes Go.WideShapes Go.ChangeAt Go.RowKit
set_option linter.unusedVariables false
set_option linter.unusedSimpArgs false
set_option maxRecDepth 100000
theorem xe_pe (x : XE) : x.pe = .mk x.kd x.n x.ms x.ns (pesX x.kids) := by cases x; rfl
theorem keepName_wordF {s : ByteArray} (h : s ∈ keepNames) : wordF s = true := by
  simp only [keepNames, List.mem_cons, List.not_mem_nil, or_false] at h
  rcases h with rfl | rfl | rfl | rfl <;> rfl
theorem keepNs_namesF {ns : List ByteArray} (h : keepNs ns) : namesF ns = true := by
  unfold keepNs keepNames at h
  simp only [List.sublist_cons_iff, List.sublist_nil] at h
  rcases h with ((((rfl | ⟨r, rfl, rfl⟩) | ⟨r, rfl, (rfl | ⟨r2, rfl, rfl⟩)⟩) | ⟨r, rfl, ((rfl | ⟨r2, rfl, rfl⟩) | ⟨r2, rfl, (rfl | ⟨r3, rfl, rfl⟩)⟩)⟩) | ⟨r, rfl, (((rfl | ⟨r2, rfl, rfl⟩) | ⟨r2, rfl, (rfl | ⟨r3, rfl, rfl⟩)⟩) | ⟨r2, rfl, ((rfl | ⟨r3, rfl, rfl⟩) | ⟨r3, rfl, (rfl | ⟨r4, rfl, rfl⟩)⟩)⟩)⟩) <;> decide
theorem signF_full {k : Int} (h1 : 1 ≤ k) (h4 : k ≤ 4) : ¬ signF k = ⟨#[]⟩ := by
  have hk : k = 1 ∨ k = 2 ∨ k = 3 ∨ k = 4 := by omega
  rcases hk with rfl | rfl | rfl | rfl <;> decide
theorem mtcOk_of {x : Mtc} (h1 : wordF x.1 = true) (h2 : x.2.1.size ≤ 24) (h3 : 1 ≤ x.2.2) (h4 : x.2.2 ≤ 4) : mtcOk x = true := by
  unfold mtcOk
  rw [h1, decide_eq_true h2, decide_eq_false (signF_full h3 h4)]; rfl
theorem keepMs_right {ms : List Mtc} (h : keepMs ms) : rightM ms = true ∧ (msToks ms).length ≤ 7 := by
  obtain ⟨c, _, h⟩ := h
  have h1 : (⟨#[c]⟩ : ByteArray).size ≤ 24 := by show #[c].size ≤ 24; simp
  have e1 : mtcOk (⟨#[110, 97, 109, 101]⟩, ⟨#[c]⟩, 1) = true := mtcOk_of (by rfl) h1 (by show (1 : Int) ≤ 1; decide) (by show (1 : Int) ≤ 4; decide)
  rcases h with rfl | ⟨a, q, kd, ha, hq, hk1, hk4, rfl⟩
  · exact ⟨by unfold rightM; simp [e1], by simp [msToks, mtoks, msMore]⟩
  · have h3 := keepValue_size q (by omega)
    have e2 : mtcOk (keepNames.getD a ⟨#[]⟩, keepValues.getD q ⟨#[]⟩, kd) = true := mtcOk_of (keepName_wordF (keepNames_mem ha)) (by show (keepValues.getD q ⟨#[]⟩).size ≤ 24; omega) hk1 hk4
    refine ⟨?_, by simp [msToks, mtoks, msMore]⟩
    unfold rightM
    rw [List.all_cons, List.all_cons, e1, e2]; rfl
structure KeepFacts (d : Nat) (t : Int) (x : PE) : Prop where
  ty : x.ty = t
  fits : x.fits
  small : x.small
  deep : x.deep ≤ d
  toks : 2 * (x.toks.length + 3) ≤ 15 * 2 ^ d
theorem toks_one (kk nn : Int) (h : 17 ≤ kk) (ms : List Mtc) (ns : List ByteArray) (a : PE) : (PE.mk kk nn ms ns [a]).toks = wdT (wordX kk) :: wdT ⟨#[98, 121]⟩ :: sgT ⟨#[40]⟩ :: (nsToks ns ++ (sgT ⟨#[41]⟩ :: sgT ⟨#[40]⟩ :: (a.toks ++ [sgT ⟨#[41]⟩]))) := by
  conv => lhs; unfold PE.toks
  rw [if_neg (by omega), if_neg (by omega), if_pos h]; rfl
theorem toks_two (kk nn : Int) (h1 : 3 ≤ kk) (h2 : kk ≤ 16) (ms : List Mtc) (ns : List ByteArray) (a b : PE) : (PE.mk kk nn ms ns [a, b]).toks = sgT ⟨#[40]⟩ :: (a.toks ++ (opT kk :: (b.toks ++ [sgT ⟨#[41]⟩]))) := by
  conv => lhs; unfold PE.toks
  rw [if_neg (by omega), if_neg (by omega), if_neg (by omega)]; rfl
theorem num_facts (d : Nat) {n : Int} (h : I64 n) : KeepFacts (d + 1) 1 (.mk 1 n [] [] []) := by
  have hp : 1 ≤ 2 ^ d := Nat.one_le_two_pow
  have hp1 : 2 ^ (d + 1) = 2 ^ d + 2 ^ d := by rw [Nat.pow_succ]; omega
  refine ⟨rfl, by unfold PE.fits fitsP; exact ⟨h, trivial⟩, by unfold PE.small smallP; exact ⟨by simp, by simp, by simp, trivial⟩, by unfold PE.deep deepsP; omega, ?_⟩
  have e : (PE.mk 1 n [] [] []).toks.length = 1 := rfl
  rw [e]; omega
theorem two_facts {d n m : Nat} {k t ta tb : Int} {a b : PE} (h1 : 3 ≤ k) (h2 : k ≤ 16) (ha : KeepFacts d ta a) (hb : KeepFacts d tb b) (ht : twoT k [] [ta, tb] = t) : KeepFacts (d + 1) t (.mk k 0 [] [] [a, b]) := by
  have hp1 : 2 ^ (d + 1) = 2 ^ d + 2 ^ d := by rw [Nat.pow_succ]; omega
  refine ⟨?_, ?_, ?_, ?_, ?_⟩
  · unfold PE.ty
    rw [if_neg (by omega), if_neg (by omega), if_neg (by simp), word_none (by omega), if_neg (by simp), if_pos (sign_is h1 h2)]
    simp only [tysP]; rw [ha.ty, hb.ty]; exact ht
  · unfold PE.fits fitsP fitsP fitsP; exact ⟨by unfold I64; omega, ha.fits, hb.fits, trivial⟩
  · unfold PE.small smallP smallP smallP; exact ⟨by simp, by simp, by simp, ha.small, hb.small, trivial⟩
  · have := ha.deep; have := hb.deep
    unfold PE.deep deepsP deepsP deepsP; omega
  · have := ha.toks; have := hb.toks
    rw [toks_two _ _ h1 h2]
    simp only [List.length_cons, List.length_append, List.length_nil]; omega
theorem keepN_facts : ∀ (d : Nat) (x : XE), keepN d x → KeepFacts d 1 x.pe
  | 0, _, h => h.elim
  | d + 1, x, h => by
    rcases h with ⟨h1, h2, h3, h4, h5, h6⟩ | ⟨h1, h2, h3, h4, h5, a, b, hk, ⟨a1, a2, a3, a4, a5, a6⟩, hb⟩
    · rw [xe_pe, h1, h4, h5, h6]; exact num_facts d (by unfold I64; omega)
    · have hd := keepN_pos hb
      obtain ⟨d', rfl⟩ : ∃ d', d = d' + 1 := ⟨d - 1, by omega⟩
      rw [xe_pe, h3, h4, h5, hk]
      show KeepFacts _ 1 (.mk x.kd 0 [] [] [a.pe, b.pe])
      have ha : KeepFacts (d' + 1) 1 a.pe := by rw [xe_pe, a1, a4, a5, a6]; exact num_facts d' (by unfold I64; omega)
      refine two_facts (n := 0) (m := 0) h1 (by omega) ha (keepN_facts _ b hb) ?_
      unfold twoT
      simp only
      rw [if_neg (by decide), if_pos (by refine ⟨by omega, ?_, ?_⟩ <;> trivial)]
theorem keepV_facts : ∀ (d : Nat) (x : XE), keepV d x → KeepFacts d 2 x.pe
  | 0, _, h => h.elim
  | d + 1, x, h => by
    rcases h with ⟨h1, h2, h3, h4, h5, h6⟩ | ⟨h1, h2, h3, h4, h5, a, b, hk, ha, ⟨b1, b2, b3, b4, b5, b6⟩⟩ | ⟨h1, h2, h3, h4, h5, a, b, hk, ha, hb⟩ | ⟨h1, h2, h3, h4, h5, a, b, hk, ha, hb⟩ | ⟨h1, h2, h3, h4, h5, a, hk, ha⟩
    · rw [xe_pe, h1, h5, h6]
      show KeepFacts _ 2 (.mk 2 x.n x.ms [] [])
      obtain ⟨hr, hl⟩ := keepMs_right h4
      have h6' := (rightM_facts hr).1
      have hp : 1 ≤ 2 ^ d := Nat.one_le_two_pow
      have hp1 : 2 ^ (d + 1) = 2 ^ d + 2 ^ d := by rw [Nat.pow_succ]; omega
      refine ⟨?_, by unfold PE.fits fitsP; exact ⟨by unfold I64; omega, trivial⟩, by unfold PE.small smallP; exact ⟨by omega, by simp, by simp, trivial⟩, by unfold PE.deep deepsP; omega, ?_⟩
      · unfold PE.ty
        rw [if_neg (by decide), if_pos rfl, if_pos ⟨by simp, hr, h2, by omega⟩]
      · unfold PE.toks
        rw [if_neg (by decide), if_pos rfl]
        simp only [List.length_cons, List.length_append, List.length_nil]; omega
    · have hd := keepV_pos ha
      obtain ⟨d', rfl⟩ : ∃ d', d = d' + 1 := ⟨d - 1, by omega⟩
      rw [xe_pe, h3, h4, h5, hk]
      show KeepFacts _ 2 (.mk x.kd 0 [] [] [a.pe, b.pe])
      have hb : KeepFacts (d' + 1) 1 b.pe := by rw [xe_pe, b1, b4, b5, b6]; exact num_facts d' (by unfold I64; omega)
      refine two_facts (n := 0) (m := 0) (by omega) (by omega) (keepV_facts _ a ha) hb ?_
      unfold twoT
      simp only
      rw [if_neg (by decide), if_neg (by omega), if_neg (by omega), if_neg (by omega), if_neg (by omega)]
    · rw [xe_pe, h3, h4, h5, hk]
      show KeepFacts _ 2 (.mk x.kd 0 [] [] [a.pe, b.pe])
      refine two_facts (n := 0) (m := 0) h1 h2 (keepV_facts _ a ha) (keepV_facts _ b hb) ?_
      unfold twoT
      simp only
      rw [if_neg (by decide), if_neg (by omega)]
      by_cases h7 : x.kd ≤ 7
      · rw [if_pos h7]
      · rw [if_neg h7, if_neg (by omega), if_neg (by omega)]
    · rw [xe_pe, h3, h4, h5, hk]
      show KeepFacts _ 2 (.mk x.kd 0 [] [] [a.pe, b.pe])
      refine two_facts (n := 0) (m := 0) h1 (by omega) (keepV_facts _ a ha) (keepN_facts _ b hb) ?_
      unfold twoT
      simp only
      rw [if_neg (by decide), if_neg (by omega), if_pos h2]
    · have hd := keepV_pos ha
      obtain ⟨d', rfl⟩ : ∃ d', d = d' + 1 := ⟨d - 1, by omega⟩
      have hfa := keepV_facts _ a ha
      have hp : 1 ≤ 2 ^ d' := Nat.one_le_two_pow
      have hp1 : 2 ^ (d' + 1) = 2 ^ d' + 2 ^ d' := by rw [Nat.pow_succ]; omega
      have hp2 : 2 ^ (d' + 1 + 1) = 2 ^ (d' + 1) + 2 ^ (d' + 1) := by rw [Nat.pow_succ]; omega
      have hn := keepNs_namesF h5
      have hnl := (keepNs_good h5).1
      rw [xe_pe, h3, h4, hk]
      show KeepFacts _ 2 (.mk x.kd 0 [] x.ns [a.pe])
      refine ⟨?_, ?_, ?_, ?_, ?_⟩
      · unfold PE.ty
        rw [if_neg (by omega), if_neg (by omega), if_neg (by simp), if_pos (word_is h1 h2)]
        unfold oneT
        rw [if_pos ⟨hn, by simp only [tysP]; rw [hfa.ty]⟩]
      · unfold PE.fits fitsP fitsP; exact ⟨by unfold I64; omega, hfa.fits, trivial⟩
      · unfold PE.small smallP smallP; exact ⟨by simp, by omega, by simp, hfa.small, trivial⟩
      · have := hfa.deep
        unfold PE.deep deepsP deepsP; omega
      · have := hfa.toks
        have hnt : (nsToks x.ns).length ≤ 7 := by
          have key : ∀ l : List ByteArray, (nsMore l).length = 2 * l.length := fun l => by
            induction l with
            | nil => rfl
            | cons z l ih => simp only [nsMore, List.flatMap_cons, List.length_append, List.length_cons, List.length_nil] at ih ⊢; omega
          cases hx : x.ns with
          | nil => simp [nsToks]
          | cons z l =>
            rw [hx] at hnl
            have := key l
            simp only [nsToks, List.length_cons] at hnl ⊢; omega
        rw [toks_one _ _ h1]
        simp only [List.length_cons, List.length_append, List.length_nil]; omega
end Go.Proofs.YtlmakdclebbbkaaGreat
