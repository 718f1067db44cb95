/- Chapter 6's run. -/
import Derived.Test.YthbinnbnmckmfaaStoLaw
import Derived.Test.YthbinnbnmckmfaaBase
import Derived.Test.YthbinnbnmckmfaaBase2
namespace Go.Proofs.Ythbinnbnmckmfaa
open Go.ChangeShapes Go.WideShapes Go.ChangeAt Go.RowKit
set_option linter.unusedVariables false
set_option maxRecDepth 100000
def srunA : List Lbl := [(⟨#[97]⟩, ⟨#[120]⟩)]
def srunD1 : List SK := [(srunA, [(10, 5)])]
def srunD2 : List SK := [(srunA, [(10, 5)]), ([], [(12, 1)])]
theorem srun_e1 : putE [] srunA (10, 5) = 0 := by decide
theorem srun_s1 : putS [] srunA (10, 5) = srunD1 := by decide
theorem srun_e2 : putE srunD1 [] (12, 1) = 0 := by decide
theorem srun_s2 : putS srunD1 [] (12, 1) = srunD2 := by decide
theorem srun_p : pickS srunD2 12 5 [] = [(srunA, 5), ([], 1)] := by decide
theorem srun_c : chgS srunD2 5 0 99 [] = [10, 12, 15, 17] := by decide
theorem PtsAt.get {base n c : Nat} {A : Option Addr} {rows : List PtR} {w : World} (h : PtsAt base (.slice A n c) rows w) {k : Nat} (hk : k < rows.length) :
    ∃ b, A = some ⟨b, 0, none⟩ ∧ w.cell? ⟨b, k * 2, none⟩ = some rows[k].sv ∧ w.cell? ⟨b, k * 2 + 1, none⟩ = some (.int .i64 rows[k].val) ∧ OwnL w rows[k].sv rows[k].set := by
  have hr := h.own
  obtain ⟨_, _, e, _⟩ := own_slice hr
  injection e with _ e _; subst e
  obtain ⟨h0, h1⟩ := pts_get rows k hk
  obtain ⟨b, c', hv, _⟩ := hr.form (by omega)
  injection hv with hv _ hv2
  subst hv
  have e0 : ∀ j, (⟨b, 0, none⟩ : Addr).add j = ⟨b, j, none⟩ := fun j => by unfold Addr.add; split <;> simp_all
  exact ⟨b, rfl, by have := hr.cells (g := b) rfl _ _ h0; rwa [e0] at this, by have := hr.cells (g := b) rfl _ _ h1; rwa [e0] at this, h.each _ (List.getElem_mem _)⟩
theorem lit_ints {w : World} {t : TypeId} (l : List Int) : Sees (w.alloc (.cells (ints l).toArray t)) (w.alloc (.cells (ints l).toArray t)).heap.size 1 (some ⟨w.heap.size, 0, none⟩) l.length (ints l) := by
  have hk : Blk (w.alloc (.cells (ints l).toArray t)) w.heap.size t (ints l) := Blk.mk (heap_alloc_new w _)
  exact hk.sees (by rw [ints_length, Nat.mul_one]) (List.prefix_refl _)
set_option maxHeartbeats 4000000 in
theorem store_runs (w : World) : Calls Try.prog 3 #[] w fun e w' => e = .returned (.bool true) ∧ Below w.heap.size w w' := by
  go_enter Try.func3, Try.ntmps3
  go_wp2_with fail
  (with_reducible refine (new_any w).mono ?_); rintro e w1 ⟨rfl, rfl⟩
  have HS1 := Lib.hid (Sto.new (w0 := w) (Below.refl _ w))
  obtain ⟨g, hg⟩ : ∃ g, w.heap.size = g := ⟨_, rfl⟩
  obtain ⟨W1, hW1⟩ : ∃ W, w.alloc (.cells #[.slice none 0 0] 63) = W := ⟨_, rfl⟩
  rw [hW1] at HS1 ⊢
  have HS1' : Hid (Sto w g (.slice none 0 0) [] W1) := Lib.hid (by rw [← hg]; exact HS1.out)
  rw [hg]
  have HG := Lib.hid hg
  clear hW1 HS1 hg
  have hb2 : Below W1.heap.size W1 (W1.alloc (.cells #[.string ⟨#[97]⟩, .string ⟨#[120]⟩] 25)) := (Below.refl _ _).alloc (Nat.le_refl _) _
  have HS2 := Lib.hid (HS1'.out.below hb2)
  have HK2 : Hid (Blk (W1.alloc (.cells #[.string ⟨#[97]⟩, .string ⟨#[120]⟩] 25)) W1.heap.size 25 (lbls srunA)) := Lib.hid (Blk.mk (heap_alloc_new W1 _))
  clear hb2 HS1'
  go_wp2_with fail
  (with_reducible refine (HS2.out.put _ 1 1 srunA 10 5 (HK2.out.sees (size := 2) (n := 1) rfl (List.prefix_refl _)) (by omega)).mono ?_); rintro e W2 ⟨v2, rfl, hS, hT, _⟩
  rw [srun_e1]
  rw [srun_s1] at hS
  have HK3 := Lib.hid (HS2.out.blk hT HK2.out (by decide) (by decide))
  have HS3 := Lib.hid hS
  clear hS hT HS2 HK2
  obtain ⟨bl, hbl⟩ : ∃ b, W1.heap.size = b := ⟨_, rfl⟩
  rw [hbl] at HK3
  try rw [hbl]
  clear hbl
  go_wp2_with fail
  (with_reducible refine (HS3.out.put none 0 0 [] 12 1 Sees.nil (by omega)).mono ?_); rintro e W3 ⟨v3, rfl, hS, hT, _⟩
  rw [srun_e2]
  rw [srun_s2] at hS
  have HK4 := Lib.hid (HS3.out.blk hT HK3.out (by decide) (by decide))
  have HS4 := Lib.hid hS
  clear hS hT HS3 HK3
  go_wp2_with fail
  (with_reducible refine (HS4.out.pick 12 5 none 0 0 [] Sees.nil (by omega) (by omega) (by omega)).mono ?_); rintro e W4 ⟨A4, c4, rows, hrows, rfl, hpt, hb4, hc4, hd4⟩
  rw [srun_p] at hrows
  have HS5 := Lib.hid (HS4.out.below hb4)
  have HK5 := Lib.hid (HK4.out.below hb4 HK4.out.lt)
  clear HS4 HK4 hb4
  obtain ⟨p0, p1, hrr⟩ : ∃ p0 p1, rows = [p0, p1] := by
    have h2 : rows.length = 2 := by have := congrArg List.length hrows; simpa [ptsOf] using this
    match rows, h2 with
    | [p0, p1], _ => exact ⟨p0, p1, rfl⟩
  subst hrr
  obtain ⟨sv0, l0, z0⟩ := p0
  obtain ⟨sv1, l1, z1⟩ := p1
  simp only [ptsOf, List.map_cons, List.map_nil, List.cons.injEq, Prod.mk.injEq, and_true] at hrows
  obtain ⟨⟨rfl, rfl⟩, rfl, rfl⟩ := hrows
  obtain ⟨b, hA, x0, x1, ho0⟩ := hpt.get (k := 0) (by simp)
  obtain ⟨b', hA', x2, x3, ho1⟩ := hpt.get (k := 1) (by simp)
  subst hA
  injection hA' with hA'; injection hA' with hA'; subst hA'
  simp only [List.getElem_cons_zero, List.getElem_cons_succ, Nat.zero_mul, Nat.zero_add, Nat.one_mul] at x0 x1 x2 x3 ho0 ho1
  obtain ⟨B0, k0, rfl, hw0⟩ := ho0
  obtain ⟨B1, k1, rfl, hw1⟩ := ho1
  have HL0 := Lib.hid (own_hasL hw0)
  have hbw : b < W4.heap.size := World.block_lt_of_cell? W4 _ x0
  clear hw0 hw1 hpt
  have HSA := Lib.hid (same_lbl B0 (some ⟨bl, 0, none⟩) srunA.length k0 1 1 _ _ srunA srunA W4 HL0.out.slice.1 (HK5.out.sees (size := 2) (n := 1) rfl (List.prefix_refl _)) (by simp [srunA]) (by omega))
  go_wp2_with fail
  (with_reducible refine HSA.out.mono ?_); rintro e W5 ⟨rfl, q, rfl⟩
  simp only [decide_true]
  have HS6 := Lib.hid (HS5.out.below (below_drewN3 (Below.refl _ _) q))
  have y1 : (W4.drewN q).cell? ⟨b, 1, none⟩ = some (.int .i64 5) := x1
  clear HSA HL0 HS5 HK5 x0 x1 x2 x3 hc4
  generalize W4.drewN q = W5 at *
  go_wp2_with fail
  (with_reducible refine (HS6.out.changes 5 0 99 none 0 0 [] Sees.nil (by omega) (by omega)).mono ?_); rintro e W6 ⟨A6, c6, rfl, hown, hb6, hc6, hd6⟩
  rw [srun_c] at hown hc6
  rw [srun_c]
  have HS7 := Lib.hid (HS6.out.below hb6)
  have HI7 := Lib.hid (Sees.of_own hown)
  have hb7 : Below W6.heap.size W6 (W6.alloc (.cells #[.int .i64 10, .int .i64 12, .int .i64 15, .int .i64 17] 3)) := (Below.refl _ _).alloc (Nat.le_refl _) _
  have HL7 : Hid (Sees (W6.alloc (.cells #[.int .i64 10, .int .i64 12, .int .i64 15, .int .i64 17] 3)) (W6.alloc (.cells #[.int .i64 10, .int .i64 12, .int .i64 15, .int .i64 17] 3)).heap.size 1 (some ⟨W6.heap.size, 0, none⟩) 4 (ints [10, 12, 15, 17])) := lit_ints (w := W6) (t := 3) [10, 12, 15, 17]
  have HI8 := Lib.hid (show Sees (W6.alloc (.cells #[.int .i64 10, .int .i64 12, .int .i64 15, .int .i64 17] 3)) W6.heap.size 1 A6 4 (ints [10, 12, 15, 17]) from HI7.out.below hb7)
  have HS8 := Lib.hid (HS7.out.below hb7)
  clear hown hb6 hb7 HS6 HS7 HI7 y1
  go_wp2_with fail
  (with_reducible refine (same_int A6 _ 4 c6 4 4 _ _ [10, 12, 15, 17] [10, 12, 15, 17] _ HI8.out HL7.out (by omega) (by omega)).mono ?_); rintro e W7 ⟨rfl, q2, rfl⟩
  simp only [decide_true]
  have HS9 := Lib.hid (HS8.out.below (below_drewN3 (Below.refl _ _) q2))
  clear HS8 HL7 HI8 hc6
  generalize (W6.alloc (.cells #[.int .i64 10, .int .i64 12, .int .i64 15, .int .i64 17] 3)).drewN q2 = W7 at *
  go_wp2_with fail
  (with_reducible refine HS9.out.sets.mono ?_); rintro e W8 ⟨A8, c8, rows8, hr8, rfl, _, hb8, _, _⟩
  have h2 : rows8.length = 2 := by have := congrArg List.length hr8; simpa [setsOf, srunD2] using this
  rw [h2]
  have HB := Lib.hid ((HS9.out.below hb8).bel)
  clear hb8 HS9
  go_wp2_with fail
  go_ret
  exact ⟨rfl, HB.out⟩
end Go.Proofs.Ythbinnbnmckmfaa
