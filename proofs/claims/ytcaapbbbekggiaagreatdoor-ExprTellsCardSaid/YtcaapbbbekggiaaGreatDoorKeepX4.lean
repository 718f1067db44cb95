/- klaxonkeep.Expr.Expr: its memory is none of what was there. -/
import Derived.Test.YtcaapbbbekggiaaGreatDoorBase3
namespace Go.Proofs.YtcaapbbbekggiaaGreatDoor
open Go.ChangeShapes Go.WideShapes Go.ChangeAt Go.RowKit
set_option linter.unusedVariables false
set_option linter.unusedSimpArgs false
set_option maxRecDepth 100000
/-- What Expr answers: its memory is none of what was there. -/
def ExprAnsF (w : World) (e : Ending) (w' : World) : Prop := ∃ x : XE, e = .returned x.val ∧ keepV 5 x ∧ FarS (fun c => c < w.heap.size) (okX 5 x) w' ∧ Below w.heap.size w w'
set_option maxHeartbeats 2000000 in
theorem expr_far (k : KSet) (w : World) (hk : k.ok w.heap.size w) : Calls Tryz.prog 5 #[k.val] w (ExprAnsF w) := by
  obtain ⟨W1, hW1⟩ : ∃ W, ((w.alloc (.cells #[.slice k.A k.n k.c, .slice k.A2 k.n2 k.c2] 29)).alloc (.cells #[.int .i64 0, .int .i64 0, .slice none 0 0, .slice none 0 0, .slice none 0 0] 26)).alloc (.cells #[.int .i64 0] 3) = W := ⟨_, rfl⟩
  have hs1 : (w.alloc (.cells #[.slice k.A k.n k.c, .slice k.A2 k.n2 k.c2] 29)).heap.size = w.heap.size + 1 := by simp
  have hs2 : ((w.alloc (.cells #[.slice k.A k.n k.c, .slice k.A2 k.n2 k.c2] 29)).alloc (.cells #[.int .i64 0, .int .i64 0, .slice none 0 0, .slice none 0 0, .slice none 0 0] 26)).heap.size = w.heap.size + 2 := by simp
  have HBL := Lib.hid (show Below w.heap.size w W1 by rw [← hW1]; exact (((Below.refl _ w).alloc (Nat.le_refl _) _).alloc (by omega) _).alloc (by omega) _)
  have HB1 := Lib.hid (show Blk W1 w.heap.size 29 [.slice k.A k.n k.c, .slice k.A2 k.n2 k.c2] by rw [← hW1]; exact ((Blk.mk (heap_alloc_new w (.cells #[.slice k.A k.n k.c, .slice k.A2 k.n2 k.c2] 29))).alloc _).alloc _)
  have HB2 := Lib.hid (show Blk W1 (w.heap.size + 1) 26 [.int .i64 0, .int .i64 0, .slice none 0 0, .slice none 0 0, .slice none 0 0] by
    rw [← hW1]
    have h := heap_alloc_new (w.alloc (.cells #[.slice k.A k.n k.c, .slice k.A2 k.n2 k.c2] 29)) (.cells #[.int .i64 0, .int .i64 0, .slice none 0 0, .slice none 0 0, .slice none 0 0] 26)
    rw [hs1] at h
    exact (Blk.mk h).alloc _)
  have HB3 := Lib.hid (show Blk W1 (w.heap.size + 1 + 1) 3 [.int .i64 ((0 : Nat) : Int)] by
    rw [← hW1]
    have h := heap_alloc_new ((w.alloc (.cells #[.slice k.A k.n k.c, .slice k.A2 k.n2 k.c2] 29)).alloc (.cells #[.int .i64 0, .int .i64 0, .slice none 0 0, .slice none 0 0, .slice none 0 0] 26)) (.cells #[.int .i64 0] 3)
    rw [hs2] at h
    exact Blk.mk h)
  have HK := Lib.hid (hk.below HBL.out)
  have HW1 := Lib.hid hW1
  have HV := Lib.hid (vector_v k (w.heap.size + 1 + 1) w.heap.size 0 5 W1 (by omega) rfl HK.out HB3.out (by omega))
  clear hW1 hs1 hs2 hk
  show Calls _ _ #[.agg #[.slice k.A k.n k.c, .slice k.A2 k.n2 k.c2]] _ _
  go_enter Tryz.func5, Tryz.ntmps5
  go_upto_region 2 with fail
  rw [HW1.out]
  have c0 := HB1.out.cell 0
  have c1 := HB1.out.cell 1
  simp only [List.getElem?_cons_zero, List.getElem?_cons_succ] at c0 c1
  generalize hb : w.heap.size + 1 + 1 = b at *
  have HBB := Lib.hid (show w.heap.size < b by omega)
  have HBE := Lib.hid (show w.heap.size + 1 < b by omega)
  clear hb
  generalize hb2 : w.heap.size + 1 = b2 at *
  have HB2E := Lib.hid hb2
  generalize hb1 : w.heap.size = b1 at *
  have HB1E := Lib.hid hb1
  have hbb : b1 < b2 := by omega
  clear hb2 hb1
  go_wp2_with fail
  (with_reducible refine HV.out.mono ?_); rintro e wq ⟨⟨xk, xn, xmv, xms, xnv, xns, xkv, xks⟩, j, he, hkx, hfx, hatq, hjq, hgq⟩
  obtain ⟨A1, c1', A2, c2, A3, c3, e1, e2, e3⟩ := okX_forms hfx.now
  simp only [XE.mv, XE.nv, XE.kv, XE.ms, XE.ns, XE.kids] at e1 e2 e3
  subst e1; subst e2; subst e3
  have he2 : e = .returned (.agg #[.int .i64 xk, .int .i64 xn, .slice A1 xms.length c1', .slice A2 xns.length c2, .slice A3 xks.length c3]) := he
  subst he2
  have hbl := HB3.out.lt
  have hs1 : b1 ≤ W1.heap.size := by have := HB2.out.lt; omega
  have HBQ := Lib.hid (HBL.out.grown hgq hs1 (fun g hg => by injection hg with hg; have := HBB.out; have := HB1E.out; omega))
  have hne : b2 < W1.heap.size := HB2.out.lt
  have HR := Lib.hid (show Blk wq b2 26 [.int .i64 0, .int .i64 0, .slice none 0 0, .slice none 0 0, .slice none 0 0] from HB2.out.grown hgq (fun e => by injection e with e; have := HBB.out; have := HB2E.out; have := HBE.out; omega))
  have HQ := Lib.hid (set5W_blk HR.out (.int .i64 xk) (.int .i64 xn) (.slice A1 xms.length c1') (.slice A2 xns.length c2) (.slice A3 xks.length c3))
  have HFX := Lib.hid (((hfx.grown (set5W_grown wq b2 (.int .i64 xk) (.int .i64 xn) (.slice A1 xms.length c1') (.slice A2 xns.length c2) (.slice A3 xks.length c3)) (fun c e => by injection e with e; omega)).mono (S' := fun c => c < b1) (fun c _ hc => by omega)))
  have HBZ := Lib.hid (show Below w.heap.size w (set5W wq b2 (.int .i64 xk) (.int .i64 xn) (.slice A1 xms.length c1') (.slice A2 xns.length c2) (.slice A3 xks.length c3)) from by
    rw [HB1E.out]
    have h2 : b1 ≤ b2 := by omega
    exact ((((HBQ.out.setCell (p := ⟨b2, 0, none⟩) h2 _).setCell (p := ⟨b2, 1, none⟩) h2 _).setCell (p := ⟨b2, 2, none⟩) h2 _).setCell (p := ⟨b2, 3, none⟩) h2 _).setCell (p := ⟨b2, 4, none⟩) h2 _)
  have HKX := Lib.hid hkx
  obtain ⟨y0, y1, y2, y3, y4⟩ := blk_cells5 HR.out
  obtain ⟨z0, z1, z2, z3, z4⟩ := blk_fr5 HR.out
  clear he hkx hfx hatq hjq hgq hs1 hbl hne
  go_wp2_with fail
  obtain ⟨q0, q1, q2, q3, q4⟩ := blk_cells5 HQ.out
  unfold set5W at q0 q1 q2 q3 q4
  refine bodyPost_ret (v := (XE.mk xk xn (.slice A1 xms.length c1') xms (.slice A2 xns.length c2) xns (.slice A3 xks.length c3) xks).val) (by simp [XE.val, XE.kd, XE.n, XE.mv, XE.nv, XE.kv, results, Tryz.results5, go_sem, q0, q1, q2, q3, q4]) rfl ?_
  exact ⟨_, rfl, HKX.out, (by rw [HB1E.out]; exact HFX.out), HBZ.out⟩
end Go.Proofs.YtcaapbbbekggiaaGreatDoor
