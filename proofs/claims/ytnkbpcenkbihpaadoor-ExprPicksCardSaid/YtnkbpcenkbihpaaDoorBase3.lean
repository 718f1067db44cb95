/- Texts, merged in one. -/
import Derived.Test.YtnkbpcenkbihpaaDoorBase
import Derived.Deep.CutBlock
import Derived.Deep.DeepCutAuto
import Derived.Deep.RegionLaw
import Derived.Deep.RegionHeld3
import Derived.Deep.QuietTactic
import Derived.BigQuiet
import Derived.StillTail
import Derived.StillTailTactics
import Derived.Test.YtnkbpcenkbihpaaDoorBase2
import Derived.Lib.ItoaLen
namespace Go.Proofs.YtnkbpcenkbihpaaDoor
open Go.ChangeShapes Go.WideShapes Go.ChangeAt Go.RowKit
set_option linter.unusedVariables false
set_option linter.unusedSimpArgs false
set_option maxRecDepth 100000
/-- What next answers: two numbers; the place is one further. -/
def NextAns (b i : Nat) (w : World) (e : Ending) (w' : World) : Prop := ∃ kd n : Int, I64 kd ∧ I64 n ∧ e = .returned (.tuple #[.int .i64 kd, .int .i64 n]) ∧ Blk w' b 3 [.int .i64 ((i + 1 : Nat) : Int)] ∧ w.grownBy w' (some b)
theorem pickF_I64 {l : List Int} (h : ∀ z ∈ l, I64 z) (i : Nat) : I64 (pickF l i) := by
  rw [pickF]
  split
  · exact h _ (List.getElem_mem _)
  · unfold I64; omega
set_option maxHeartbeats 2000000 in
theorem next_any (k : KSet) (b B i : Nat) (w : World) (hk : k.ok B w) (hB : B ≤ b) (hb : Blk w b 3 [.int .i64 i]) (hi : i ≤ 1000) :
    Calls Tryd.prog 51 #[k.val, .pointer (some ⟨b, 0, none⟩)] w (NextAns b i w) := by
  have hn := hk.n_
  have hn2 := hk.n2_
  have hlt := hb.lt
  have HPI := Lib.hid (pickF_I64 hk.valsI i)
  have e0 := hb.cell 0
  have f0 := hb.frozen 0
  simp only [List.getElem?_cons_zero] at e0
  have HB1 := Lib.hid (show Blk ((w.setCell ⟨b, 0, none⟩ (.int .i64 ((i : Int) + 1))).alloc (.cells #[.slice k.A k.n k.c, .slice k.A2 k.n2 k.c2] 35)) b 3 [.int .i64 ((i + 1 : Nat) : Int)] from ((hb.set 0 (.int .i64 ((i : Int) + 1))).alloc _))
  have HG1 := Lib.hid (show w.grownBy ((w.setCell ⟨b, 0, none⟩ (.int .i64 ((i : Int) + 1))).alloc (.cells #[.slice k.A k.n k.c, .slice k.A2 k.n2 k.c2] 35)) (some b) from only_alloc (only_setCell (World.grownBy.refl w _) (p := ⟨b, 0, none⟩) (.inl rfl) _) _)
  have HC := Lib.hid (show Blk ((w.setCell ⟨b, 0, none⟩ (.int .i64 ((i : Int) + 1))).alloc (.cells #[.slice k.A k.n k.c, .slice k.A2 k.n2 k.c2] 35)) w.heap.size 35 [.slice k.A k.n k.c, .slice k.A2 k.n2 k.c2] from by
    have h := heap_alloc_new (w.setCell ⟨b, 0, none⟩ (.int .i64 ((i : Int) + 1))) (.cells #[.slice k.A k.n k.c, .slice k.A2 k.n2 k.c2] 35)
    rw [show (w.setCell ⟨b, 0, none⟩ (.int .i64 ((i : Int) + 1))).heap.size = w.heap.size by simp [World.setCell]] at h
    exact Blk.mk h)
  have HK := Lib.hid (show k.ok B ((w.setCell ⟨b, 0, none⟩ (.int .i64 ((i : Int) + 1))).alloc (.cells #[.slice k.A k.n k.c, .slice k.A2 k.n2 k.c2] 35)) from by
    have hg := HG1.out
    have hs : B ≤ w.heap.size := by omega
    have hr : ∀ g, some b = some g → B ≤ g := fun g e => by injection e with e; omega
    exact ⟨hk.has_.grown hg hs hr, hk.hasI, hk.n_, hk.vals_.grown hg hs hr, hk.valsI, hk.n2_⟩)
  clear hk hb
  show Calls _ _ #[.agg #[.slice k.A k.n k.c, .slice k.A2 k.n2 k.c2], _] _ _
  go_enter Tryd.func51, Tryd.ntmps51
  go_upto_region 3 with fail
  generalize (w.setCell ⟨b, 0, none⟩ (.int .i64 ((i : Int) + 1))).alloc (.cells #[.slice k.A k.n k.c, .slice k.A2 k.n2 k.c2] 35) = W1 at *
  have c0 := HC.out.cell 0
  have c1 := HC.out.cell 1
  simp only [List.getElem?_cons_zero, List.getElem?_cons_succ] at c0 c1
  clear e0 f0 hlt
  have HPK := Lib.hid (pick_any k.A2 k.n2 k.c2 B k.vals i W1 HK.out.vals_ (by omega) (by omega))
  by_cases h1 : i < k.n
  · by_cases h2 : i < 30
    · obtain ⟨ad, hkl, hA, hc⟩ := HK.out.has_.int h1
      have hI := HK.out.hasI _ (List.getElem_mem hkl)
      generalize k.has[i] = kd at *
      rw [hA] at c0
      have HAX := Lib.hid hA
      clear hA
      have i1 : ¬ (k.n : Int) ≤ i := by omega
      have i2 : ¬ (30 : Int) ≤ i := by omega
      go_upto_region 5 with fail
      have HVS := Lib.hid (show Sees W1.drew B 1 k.A2 k.n2 (ints k.vals) from HK.out.vals_.drewN 1)
      have HSX := Lib.hid (⟨c0, c1, hc⟩ : W1.cell? ⟨w.heap.size, 0, none⟩ = some (.slice (some ad) k.n k.c) ∧ W1.cell? ⟨w.heap.size, 1, none⟩ = some (.slice k.A2 k.n2 k.c2) ∧ W1.cell? (ad.add i) = some (.int .i64 kd))
      go_region_held3 (fun V => V.cell? ⟨w.heap.size, 0, none⟩ = some (.slice (some ad) k.n k.c) ∧ V.cell? ⟨w.heap.size, 1, none⟩ = some (.slice k.A2 k.n2 k.c2) ∧ V.cell? (ad.add i) = some (.int .i64 kd)) (exact HSX.out) (first | (go_at_call 76; (with_reducible refine (pick_any k.A2 k.n2 k.c2 B k.vals i _ HVS.out (by omega) (by omega)).mono ?_); rintro e wz ⟨rfl, rfl⟩) | fail)
      all_goals
        go_wp2_with fail
        go_ret2
        exact ⟨kd, pickF k.vals i, hI, HPI.out, rfl, HB1.out, only_drew HG1.out⟩
    · have i1 : ¬ (k.n : Int) ≤ i := by omega
      have i2 : (30 : Int) ≤ i := by omega
      go_wp2_with fail
      (with_reducible refine HPK.out.mono ?_); rintro e wz ⟨rfl, rfl⟩
      go_wp2_with fail
      go_ret2
      exact ⟨0, pickF k.vals i, by unfold I64; omega, HPI.out, rfl, HB1.out, HG1.out⟩
  · have i1 : (k.n : Int) ≤ i := by omega
    go_wp2_with fail
    (with_reducible refine HPK.out.mono ?_); rintro e wz ⟨rfl, rfl⟩
    go_wp2_with fail
    go_ret2
    exact ⟨0, pickF k.vals i, by unfold I64; omega, HPI.out, rfl, HB1.out, HG1.out⟩
theorem next_v (k : KSet) (b B i : Nat) (w : World) (hk : k.ok B w) (hB : B ≤ b) (hb : Blk w b 3 [.int .i64 i]) (hi : i ≤ 1000) :
    Calls Tryd.prog 51 #[.agg #[.slice k.A k.n k.c, .slice k.A2 k.n2 k.c2], .pointer (some ⟨b, 0, none⟩)] w (NextAns b i w) := next_any k b B i w hk hB hb hi
/-- Five cells of a box written anew. -/
def set5W (w : World) (b : Nat) (v0 v1 v2 v3 v4 : Value) : World := ((((w.setCell ⟨b, 0, none⟩ v0).setCell ⟨b, 1, none⟩ v1).setCell ⟨b, 2, none⟩ v2).setCell ⟨b, 3, none⟩ v3).setCell ⟨b, 4, none⟩ v4
theorem set5W_blk {w : World} {b : Nat} {t : TypeId} {x0 x1 x2 x3 x4 : Value} (h : Blk w b t [x0, x1, x2, x3, x4]) (v0 v1 v2 v3 v4 : Value) : Blk (set5W w b v0 v1 v2 v3 v4) b t [v0, v1, v2, v3, v4] := ((((h.set 0 v0).set 1 v1).set 2 v2).set 3 v3).set 4 v4
theorem set5W_grown (w : World) (b : Nat) (v0 v1 v2 v3 v4 : Value) : w.grownBy (set5W w b v0 v1 v2 v3 v4) (some b) :=
  only_setCell (p := ⟨b, 4, none⟩) (only_setCell (p := ⟨b, 3, none⟩) (only_setCell (p := ⟨b, 2, none⟩) (only_setCell (p := ⟨b, 1, none⟩) (only_setCell (p := ⟨b, 0, none⟩) (World.grownBy.refl w _) (.inl rfl) _) (.inl rfl) _) (.inl rfl) _) (.inl rfl) _) (.inl rfl) _
theorem blk_cells5 {w : World} {b : Nat} {t : TypeId} {x0 x1 x2 x3 x4 : Value} (h : Blk w b t [x0, x1, x2, x3, x4]) : w.cell? ⟨b, 0, none⟩ = some x0 ∧ w.cell? ⟨b, 1, none⟩ = some x1 ∧ w.cell? ⟨b, 2, none⟩ = some x2 ∧ w.cell? ⟨b, 3, none⟩ = some x3 ∧ w.cell? ⟨b, 4, none⟩ = some x4 :=
  ⟨h.cell 0, h.cell 1, h.cell 2, h.cell 3, h.cell 4⟩
theorem blk_fr5 {w : World} {b : Nat} {t : TypeId} {x0 x1 x2 x3 x4 : Value} (h : Blk w b t [x0, x1, x2, x3, x4]) : w.frozen? ⟨b, 0, none⟩ = false ∧ w.frozen? ⟨b, 1, none⟩ = false ∧ w.frozen? ⟨b, 2, none⟩ = false ∧ w.frozen? ⟨b, 3, none⟩ = false ∧ w.frozen? ⟨b, 4, none⟩ = false :=
  ⟨h.frozen 0, h.frozen 1, h.frozen 2, h.frozen 3, h.frozen 4⟩
/-- Within vector and number: the numbers in a box, the answer's box, the place. -/
structure VAt (k : KSet) (B b : Nat) (w0 : World) (b3 b6 j : Nat) (w : World) : Prop where
  box : Blk w b3 35 [.slice k.A k.n k.c, .slice k.A2 k.n2 k.c2]
  res : Blk w b6 26 [.int .i64 0, .int .i64 0, .slice none 0 0, .slice none 0 0, .slice none 0 0]
  at_ : Blk w b 3 [.int .i64 (j : Nat)]
  ok : k.ok B w
  gr : w0.grownBy w (some b)
  lt : B ≤ b ∧ b < w0.heap.size ∧ w0.heap.size ≤ b3 ∧ b3 < b6
theorem KSet.ok.grown {k : KSet} {B : Nat} {w w' : World} {row : Option Nat} (h : k.ok B w) (hg : w.grownBy w' row) (hs : B ≤ w.heap.size) (hr : ∀ g, row = some g → B ≤ g) : k.ok B w' := ⟨h.has_.grown hg hs hr, h.hasI, h.n_, h.vals_.grown hg hs hr, h.valsI, h.n2_⟩
section
variable {k : KSet} {B b : Nat} {w0 w w' : World} {b3 b6 j : Nat}
theorem VAt.grown (h : VAt k B b w0 b3 b6 j w) (hg : w.grownBy w' (some b)) {j' : Nat} (ha : Blk w' b 3 [.int .i64 (j' : Nat)]) : VAt k B b w0 b3 b6 j' w' := by
  have hl := h.lt
  have h1 := h.gr.size
  exact ⟨h.box.grown hg (fun e => by injection e with e; omega), h.res.grown hg (fun e => by injection e with e; omega), ha, h.ok.grown hg (by omega) (fun g e => by injection e with e; omega), h.gr.trans hg, hl⟩
theorem VAt.below (h : VAt k B b w0 b3 b6 j w) (hb : Below w.heap.size w w') : VAt k B b w0 b3 b6 j w' := h.grown (only_of_below hb _) (h.at_.below hb h.at_.lt)
theorem VAt.alloc (h : VAt k B b w0 b3 b6 j w) (o : Obj) : VAt k B b w0 b3 b6 j (w.alloc o) := h.below ((Below.refl _ _).alloc (Nat.le_refl _) o)
theorem VAt.drew (h : VAt k B b w0 b3 b6 j w) : VAt k B b w0 b3 b6 j w.drew := h.below (Below.refl _ _).drew
theorem VAt.start (h : k.ok B w) (hB : B ≤ b) (ha : Blk w b 3 [.int .i64 (j : Nat)]) : VAt k B b w w.heap.size (w.heap.size + 1) j ((w.alloc (.cells #[.slice k.A k.n k.c, .slice k.A2 k.n2 k.c2] 35)).alloc (.cells #[.int .i64 0, .int .i64 0, .slice none 0 0, .slice none 0 0, .slice none 0 0] 26)) := by
  have hl := ha.lt
  have hb : Below w.heap.size w ((w.alloc (.cells #[.slice k.A k.n k.c, .slice k.A2 k.n2 k.c2] 35)).alloc (.cells #[.int .i64 0, .int .i64 0, .slice none 0 0, .slice none 0 0, .slice none 0 0] 26)) := ((Below.refl _ w).alloc (Nat.le_refl _) _).alloc (by simp) _
  refine ⟨(Blk.mk (heap_alloc_new w (.cells #[.slice k.A k.n k.c, .slice k.A2 k.n2 k.c2] 35))).alloc _, ?_, ha.below hb hl, h.grown (only_of_below hb none) (by omega) (fun g e => by cases e), only_of_below hb _, hB, hl, Nat.le_refl _, Nat.lt_succ_self _⟩
  have h := heap_alloc_new (w.alloc (.cells #[.slice k.A k.n k.c, .slice k.A2 k.n2 k.c2] 35)) (.cells #[.int .i64 0, .int .i64 0, .slice none 0 0, .slice none 0 0, .slice none 0 0] 26)
  rw [show (w.alloc (.cells #[.slice k.A k.n k.c, .slice k.A2 k.n2 k.c2] 35)).heap.size = w.heap.size + 1 by simp] at h
  exact Blk.mk h
end
/-- What vector and number answer. -/
def VecAns (d b i : Nat) (K : XE → Prop) (w : World) (e : Ending) (w' : World) : Prop := ∃ (x : XE) (j : Nat), e = .returned x.val ∧ K x ∧ FarS (fun c => c < w.heap.size) (okX d x) w' ∧ Blk w' b 3 [.int .i64 (j : Nat)] ∧ j + 1 ≤ i + 2 ^ d ∧ w.grownBy w' (some b)
theorem VAt.fin {k : KSet} {B b : Nat} {w0 w : World} {b3 b6 j i d : Nat} (h : VAt k B b w0 b3 b6 j w) {K : XE → Prop} (x : XE) (hK : K x) (hx : FarS (fun c => c < w0.heap.size ∨ c = b6) (okX d x) w) (hj : j + 1 ≤ i + 2 ^ d) :
    VecAns d b i K w0 (.returned x.val) (set5W w b6 (.int .i64 x.kd) (.int .i64 x.n) x.mv x.nv x.kv) := by
  have hl := h.lt
  have hg := set5W_grown w b6 (.int .i64 x.kd) (.int .i64 x.n) x.mv x.nv x.kv
  exact ⟨x, j, rfl, hK, (hx.grown hg (fun c e => .inr (by injection e with e; exact e.symm))).mono (fun c _ hc => .inl hc), h.at_.grown hg (fun e => by injection e with e; omega), hj, h.gr.andThen hg (fun c e => .inl (by injection e with e; omega))⟩
theorem two_pow (d : Nat) : 2 ^ (d + 1) = 2 ^ d + 2 ^ d ∧ 1 ≤ 2 ^ d := ⟨by rw [Nat.pow_succ]; omega, Nat.one_le_two_pow⟩
theorem tmod5 (z : Int) (h : I64 z) : ∃ q, z.tmod 5 = q ∧ IntKind.i64.wrap q = q := by
  unfold I64 at h
  have h1 : -9223372036854775808 ≤ z.tmod 5 ∧ z.tmod 5 ≤ 9223372036854775807 := by
    rcases Int.le_total 0 z with h2 | h2
    · have := Int.tmod_lt_of_pos z (b := 5) (by omega)
      have := Int.tmod_nonneg 5 h2
      omega
    · have h3 := Int.neg_tmod z 5
      have := Int.tmod_lt_of_pos (-z) (b := 5) (by omega)
      have := Int.tmod_nonneg (a := -z) 5 (by omega)
      omega
  exact ⟨_, rfl, by rw [IntKind.wrap_i64]; omega⟩
/-- A number alone. -/
def numX (v : Int) : XE := .mk 1 v (.slice none 0 0) [] (.slice none 0 0) [] (.slice none 0 0) []
theorem numX_far {S : Nat → Prop} {w : World} (d : Nat) (v : Int) : FarS S (okX (d + 1) (numX v)) w := okX_far (FarS.nil 3) (FarS.nil 1) (FarS.nil 5) (fun k hk => absurd hk List.not_mem_nil)
theorem ok_box2 {k : KSet} {B b : Nat} {w0 w : World} {b3 b6 j : Nat} (h : VAt k B b w0 b3 b6 j w) : w.cell? ⟨b3, 0, none⟩ = some (.slice k.A k.n k.c) ∧ w.cell? ⟨b3, 1, none⟩ = some (.slice k.A2 k.n2 k.c2) := ⟨h.box.cell 0, h.box.cell 1⟩
/-- An expression of two, its kids behind one another in a block. -/
def pairX (kk : Int) (g : Nat) (x y : XE) : XE := .mk kk 0 (.slice none 0 0) [] (.slice none 0 0) [] (.slice (some ⟨g, 0, none⟩) 2 2) [x, y]
theorem VAt.pair {k : KSet} {B b : Nat} {w0 w : World} {b3 b6 j i d : Nat} (h : VAt k B b w0 b3 b6 j w) {K : XE → Prop} (kk : Int) (x y : XE) (hK : ∀ g, K (pairX kk g x y)) (hx : FarS (fun c => c < w0.heap.size ∨ c = b6) (okX d x) w) (hy : FarS (fun c => c < w0.heap.size ∨ c = b6) (okX d y) w) (hj : j + 1 ≤ i + 2 ^ (d + 1)) :
    VecAns (d + 1) b i K w0 (.returned (pairX kk w.heap.size x y).val) (set5W (w.alloc (.cells #[.int .i64 x.kd, .int .i64 x.n, x.mv, x.nv, x.kv, .int .i64 y.kd, .int .i64 y.n, y.mv, y.nv, y.kv] 26)) b6 (.int .i64 kk) (.int .i64 0) (.slice none 0 0) (.slice none 0 0) (.slice (some ⟨w.heap.size, 0, none⟩) 2 2)) := by
  have hl := h.lt
  have h6 := h.res.lt
  have hs := h.gr.size
  have hg : w.grownBy (w.alloc (.cells #[.int .i64 x.kd, .int .i64 x.n, x.mv, x.nv, x.kv, .int .i64 y.kd, .int .i64 y.n, y.mv, y.nv, y.kv] 26)) none := only_alloc (World.grownBy.refl w _) _
  refine (h.alloc (.cells #[.int .i64 x.kd, .int .i64 x.n, x.mv, x.nv, x.kv, .int .i64 y.kd, .int .i64 y.n, y.mv, y.nv, y.kv] 26)).fin (K := K) (i := i) (pairX kk w.heap.size x y) (hK _) ?_ hj
  refine okX_far (FarS.nil 3) (FarS.nil 1) ?_ (fun q hq => ?_)
  · have hb : Blk (w.alloc (.cells #[.int .i64 x.kd, .int .i64 x.n, x.mv, x.nv, x.kv, .int .i64 y.kd, .int .i64 y.n, y.mv, y.nv, y.kv] 26)) w.heap.size 26 (kcells [x, y]) := Blk.mk (heap_alloc_new w _)
    exact FarS.slc (S := fun c => c < w0.heap.size ∨ c = b6) (n := 2) (size := 5) hb (fun e => by rcases e with e | e <;> omega) rfl (by omega)
  · rw [List.mem_cons, List.mem_singleton] at hq
    rcases hq with rfl | rfl
    · exact hx.grown hg (fun c e => by cases e)
    · exact hy.grown hg (fun c e => by cases e)
/-- A kid in a box of its own: it stays whatever becomes of the blocks below s. -/
structure Kid (d s g : Nat) (x : XE) (w : World) : Prop where
  blk : Blk w g 26 [.int .i64 x.kd, .int .i64 x.n, x.mv, x.nv, x.kv]
  far : FarS (fun c => c < s) (okX d x) w
  lt : s ≤ g
theorem Kid.made {d s : Nat} {x : XE} {w : World} (h : FarS (fun c => c < s) (okX d x) w) (hs : s ≤ w.heap.size) : Kid d s w.heap.size x (w.alloc (.cells #[.int .i64 x.kd, .int .i64 x.n, x.mv, x.nv, x.kv] 26)) :=
  ⟨Blk.mk (heap_alloc_new w _), h.grown (only_alloc (World.grownBy.refl w none) _) (fun c e => by cases e), hs⟩
theorem Kid.grown {d s g r : Nat} {x : XE} {w w' : World} (h : Kid d s g x w) (hg : w.grownBy w' (some r)) (hr : r < s) : Kid d s g x w' :=
  ⟨h.blk.grown hg (fun e => by injection e with e; have := h.lt; omega), h.far.grown hg (fun c e => by injection e with e; omega), h.lt⟩
theorem Kid.below {d s g : Nat} {x : XE} {w w' : World} (h : Kid d s g x w) (hb : Below w.heap.size w w') : Kid d s g x w' :=
  ⟨h.blk.below hb h.blk.lt, h.far.below hb, h.lt⟩
theorem Kid.s0 {d s g b6 : Nat} {x : XE} {w w0 : World} (h : Kid d s g x w) (h0 : w0.heap.size ≤ s) (h6 : b6 < s) : FarS (fun c => c < w0.heap.size ∨ c = b6) (okX d x) w :=
  h.far.mono (fun c _ hc => by rcases hc with hc | hc <;> omega)
set_option maxHeartbeats 4000000 in
theorem number_any (k : KSet) (b B : Nat) (hB : B ≤ b) :
    ∀ (d deep i : Nat) (w : World), deep + d = 5 → k.ok B w → Blk w b 3 [.int .i64 (i : Nat)] → i + 2 ^ d ≤ 1000 → 0 < d →
    Calls Tryd.prog 54 #[k.val, .pointer (some ⟨b, 0, none⟩), .int .i64 (deep : Nat)] w (VecAns d b i (keepN d) w)
  | 0, _, _, _, _, _, _, _, h => absurd h (by omega)
  | d + 1, deep, i, w, hd, hk, hb, hi, _ => by
    obtain ⟨hp1, hp2⟩ := two_pow d
    have hi1 : i + 1 ≤ 1000 := by omega
    have HI := Lib.hid hi
    have HP := Lib.hid hp1
    have HVS := Lib.hid (VAt.start hk hB hb)
    have HIH := Lib.hid (fun (j : Nat) (V : World) h1 h2 h3 h4 => show Calls Tryd.prog 54 #[.agg #[.slice k.A k.n k.c, .slice k.A2 k.n2 k.c2], .pointer (some ⟨b, 0, none⟩), .int .i64 ((deep : Int) + 1)] V (VecAns d b j (keepN d) V) from number_any k b B hB d (deep + 1) j V (by omega) h1 h2 h3 h4)
    clear hk hb hi
    obtain ⟨b3, hb3⟩ : ∃ c, w.heap.size = c := ⟨_, rfl⟩
    obtain ⟨b6, hb6⟩ : ∃ c, b3 + 1 = c := ⟨_, rfl⟩
    have HB3 := Lib.hid hb3
    have HB6 := Lib.hid hb6
    have HV0 := Lib.hid (show VAt k B b w b3 b6 i ((w.alloc (.cells #[.slice k.A k.n k.c, .slice k.A2 k.n2 k.c2] 35)).alloc (.cells #[.int .i64 0, .int .i64 0, .slice none 0 0, .slice none 0 0, .slice none 0 0] 26)) by subst hb3; subst hb6; exact HVS.out)
    clear hb3 hb6 HVS
    show Calls _ _ #[.agg #[.slice k.A k.n k.c, .slice k.A2 k.n2 k.c2], _, _] _ _
    go_enter Tryd.func54, Tryd.ntmps54
    go_upto_region 1 with fail
    rw [HB3.out, HB6.out]
    generalize (w.alloc (.cells #[.slice k.A k.n k.c, .slice k.A2 k.n2 k.c2] 35)).alloc (.cells #[.int .i64 0, .int .i64 0, .slice none 0 0, .slice none 0 0, .slice none 0 0] 26) = W1 at *
    obtain ⟨c0, c1⟩ := ok_box2 HV0.out
    go_wp2_with fail
    (with_reducible refine (next_v k b B i W1 HV0.out.ok hB HV0.out.at_ (by omega)).mono ?_); rintro e wn ⟨kd, n, hkd, hn, rfl, hat, hg⟩
    have HV1 := Lib.hid (HV0.out.grown hg hat)
    have HW := Lib.hid (fun V => within_any n (-3) 5 V hn (by omega) (by omega) (by omega))
    have HWK := Lib.hid (fun V => within_any n 3 5 V hn (by omega) (by omega) (by omega))
    obtain ⟨hv1, hv2⟩ := nWithin_in n (lo := -3) (hi := 5) (by omega)
    obtain ⟨hk1, hk2⟩ := nWithin_in n (lo := 3) (hi := 5) (by omega)
    generalize nWithin n (-3) 5 = v at *
    generalize nWithin n 3 5 = kk at *
    obtain ⟨q, hq, hqw⟩ := tmod5 kd hkd
    clear hat hg HV0 c0 c1
    go_wp2_with fail
    (with_reducible refine (HW.out _).mono ?_); rintro e wz ⟨rfl, rfl⟩
    go_upto_region 3 with fail
    have HB9 := Lib.hid (Blk.mk (heap_alloc_new wn (.cells #[.int .i64 1, .int .i64 v, .slice none 0 0, .slice none 0 0, .slice none 0 0] 26)) : Blk _ wn.heap.size 26 [.int .i64 1, .int .i64 v, .slice none 0 0, .slice none 0 0, .slice none 0 0])
    have HV2 := Lib.hid (HV1.out.alloc (.cells #[.int .i64 1, .int .i64 v, .slice none 0 0, .slice none 0 0, .slice none 0 0] 26))
    obtain ⟨b9, hb9⟩ : ∃ c, wn.heap.size = c := ⟨_, rfl⟩
    have HB9N := Lib.hid hb9
    have h96 : b6 < b9 := by have := HV1.out.res.lt; omega
    rw [hb9] at HB9
    clear hb9 HW HV1
    rw [HB9N.out]
    generalize wn.alloc (.cells #[.int .i64 1, .int .i64 v, .slice none 0 0, .slice none 0 0, .slice none 0 0] 26) = W2 at *
    have HFIN := Lib.hid (HV2.out.fin (K := keepN (d + 1)) (i := i) (numX v) (.inl ⟨rfl, hv1, hv2, rfl, rfl, rfl⟩) (numX_far d v) (by omega))
    by_cases h4 : q = 4
    · subst h4
      have t1 : ((4 : Int) != 4) = false := rfl
      by_cases h0 : 0 < d
      · have hd3 : (deep : Int) ≤ 3 := by omega
        have hde : IntKind.i64.wrap ((deep : Int) + 1) = ((deep + 1 : Nat) : Int) := by rw [IntKind.wrap_i64]; omega
        go_upto_region 5 with fail
        have Z := Lib.hid (show VAt k B b w b3 b6 (i + 1) W2.drew ∧ Blk W2.drew b9 26 [.int .i64 1, .int .i64 v, .slice none 0 0, .slice none 0 0, .slice none 0 0] from ⟨HV2.out.drew, HB9.out⟩)
        have HDS := Lib.hid (HIH.out (i + 1) W2.drew Z.out.1.ok Z.out.1.at_ (by have := HI.out; omega) h0)
        have HDL := Lib.hid (show w.heap.size ≤ W2.drew.heap.size ∧ b6 < W2.drew.heap.size from ⟨HV2.out.gr.size, HV2.out.res.lt⟩)
        have tok1 : True := trivial
        have tok2 : True := trivial
        clear HV2 HB9 HIH hq hqw HFIN
        have hnb : b9 ≠ b := by have := Z.out.1.lt; omega
        have HNB := Lib.hid hnb
        clear hnb
        obtain ⟨c0, c1⟩ := ok_box2 Z.out.1
        obtain ⟨x0, x1, x2, x3, x4⟩ := blk_cells5 Z.out.2
        simp only [World.cell?_drew] at c0 c1 x0 x1 x2 x3 x4
        go_region_law (first
          | (have tk := tok1; (try go_simp); go_at_call 20; (with_reducible refine (HWK.out _).mono ?_); rintro e wz ⟨rfl, rfl⟩; clear tok1 tk HWK)
          | (have tk := tok2; (try go_simp); go_at_call 54; (with_reducible refine HDS.out.mono ?_); rintro e wq ⟨⟨xk, xn, xmv, xms, xnv, xns, xkv, xks⟩, j, he, hkx, hfx, hatq, hjq, hgq⟩; obtain ⟨A1, c1, A2, c2, A3, c3, e1, e2, e3⟩ := okX_forms hfx.now; simp only [XE.mv, XE.nv, XE.kv, XE.ms, XE.ns, XE.kids] at e1 e2 e3; subst e1; subst e2; subst e3; have he2 : e = .returned (.agg #[.int .i64 xk, .int .i64 xn, .slice A1 xms.length c1, .slice A2 xns.length c2, .slice A3 xks.length c3]) := he; subst he2; have HKX := Lib.hid hkx; have HFX := Lib.hid hfx; have HJ := Lib.hid hjq; have Z_n := Lib.hid (⟨Z.out.1.grown hgq hatq, Z.out.2.grown hgq (fun e => HNB.out (by injection e))⟩ : VAt k B b w b3 b6 j wq ∧ Blk wq b9 26 [.int .i64 1, .int .i64 v, .slice none 0 0, .slice none 0 0, .slice none 0 0]); clear Z he hkx hfx hjq hatq hgq HDS tok2 tk; have Z := Z_n; clear Z_n; obtain ⟨u0, u1, u2, u3, u4⟩ := blk_cells5 Z.out.2; obtain ⟨y0, y1, y2, y3, y4⟩ := blk_cells5 (Z.out.1.alloc (.cells #[.int .i64 1, .int .i64 v, .slice none 0 0, .slice none 0 0, .slice none 0 0, .int .i64 xk, .int .i64 xn, .slice A1 xms.length c1, .slice A2 xns.length c2, .slice A3 xks.length c3] 26)).res; obtain ⟨z0, z1, z2, z3, z4⟩ := blk_fr5 (Z.out.1.alloc (.cells #[.int .i64 1, .int .i64 v, .slice none 0 0, .slice none 0 0, .slice none 0 0, .int .i64 xk, .int .i64 xn, .slice A1 xms.length c1, .slice A2 xns.length c2, .slice A3 xks.length c3] 26)).res)
          | fail)
        all_goals
          have HQ := Lib.hid (set5W_blk (Z.out.1.alloc (.cells #[.int .i64 1, .int .i64 v, .slice none 0 0, .slice none 0 0, .slice none 0 0, .int .i64 xk, .int .i64 xn, .slice A1 xms.length c1, .slice A2 xns.length c2, .slice A3 xks.length c3] 26)).res (.int .i64 kk) (.int .i64 0) (.slice none 0 0) (.slice none 0 0) (.slice (some ⟨wq.heap.size, 0, none⟩) 2 2))
          have HFN := Lib.hid (Z.out.1.pair (d := d) (i := i) (K := keepN (d + 1)) kk (numX v) (.mk xk xn (.slice A1 xms.length c1) xms (.slice A2 xns.length c2) xns (.slice A3 xks.length c3) xks) (fun g => .inr ⟨hk1, hk2, rfl, rfl, rfl, _, _, rfl, ⟨rfl, hv1, hv2, rfl, rfl, rfl⟩, HKX.out⟩) (by obtain ⟨d', rfl⟩ : ∃ d', d = d' + 1 := ⟨d - 1, by omega⟩; exact numX_far d' v) (HFX.out.mono (fun c _ hc => by have := HDL.out; rcases hc with hc | hc <;> omega)) (by have := HJ.out; have := HP.out; omega))
          go_wp2_with fail
          obtain ⟨q0, q1, q2, q3, q4⟩ := blk_cells5 HQ.out
          unfold set5W at q0 q1 q2 q3 q4
          refine bodyPost_ret (v := (pairX kk wq.heap.size (numX v) (.mk xk xn (.slice A1 xms.length c1) xms (.slice A2 xns.length c2) xns (.slice A3 xks.length c3) xks)).val) (by simp [XE.val, pairX, XE.kd, XE.n, XE.mv, XE.nv, XE.kv, results, Tryd.results54, go_sem, q0, q1, q2, q3, q4]) rfl ?_
          exact HFN.out
      · have hd3 : ¬ (deep : Int) ≤ 3 := by omega
        obtain ⟨x0, x1, x2, x3, x4⟩ := blk_cells5 HB9.out
        obtain ⟨y0, y1, y2, y3, y4⟩ := blk_cells5 HV2.out.res
        obtain ⟨z0, z1, z2, z3, z4⟩ := blk_fr5 HV2.out.res
        have HQ := Lib.hid (set5W_blk HV2.out.res (.int .i64 1) (.int .i64 v) (.slice none 0 0) (.slice none 0 0) (.slice none 0 0))
        go_wp2_with fail
        obtain ⟨q0, q1, q2, q3, q4⟩ := blk_cells5 HQ.out
        unfold set5W at q0 q1 q2 q3 q4
        refine bodyPost_ret (v := (numX v).val) (by simp [XE.val, numX, XE.kd, XE.n, XE.mv, XE.nv, XE.kv, results, Tryd.results54, go_sem, q0, q1, q2, q3, q4]) rfl ?_
        exact HFIN.out
    · have t1 : (q != 4) = true := by rw [bne_iff_ne]; exact h4
      obtain ⟨x0, x1, x2, x3, x4⟩ := blk_cells5 HB9.out
      obtain ⟨y0, y1, y2, y3, y4⟩ := blk_cells5 HV2.out.res
      obtain ⟨z0, z1, z2, z3, z4⟩ := blk_fr5 HV2.out.res
      have HQ := Lib.hid (set5W_blk HV2.out.res (.int .i64 1) (.int .i64 v) (.slice none 0 0) (.slice none 0 0) (.slice none 0 0))
      go_wp2_with fail
      obtain ⟨q0, q1, q2, q3, q4⟩ := blk_cells5 HQ.out
      unfold set5W at q0 q1 q2 q3 q4
      refine bodyPost_ret (v := (numX v).val) (by simp [XE.val, numX, XE.kd, XE.n, XE.mv, XE.nv, XE.kv, results, Tryd.results54, go_sem, q0, q1, q2, q3, q4]) rfl ?_
      exact HFIN.out
end Go.Proofs.YtnkbpcenkbihpaaDoor

namespace Go.Proofs.YtnkbpcenkbihpaaDoor
open Go.ChangeShapes Go.WideShapes Go.ChangeAt Go.RowKit
set_option linter.unusedVariables false
set_option linter.unusedSimpArgs false
set_option maxRecDepth 100000
theorem Tryd.infoMtc5 : (Tryd.prog.info? 54).map (fun i => (i.zero, i.size, i.bytes)) = some (some (.agg #[.string ⟨#[]⟩, .string ⟨#[]⟩, .int .i64 0]), 3, 40) := by kernel_rfl
theorem Tryd.infoStr5 : (Tryd.prog.info? 9).map (fun i => (i.zero, i.size, i.bytes)) = some (some (.string ⟨#[]⟩), 1, 16) := by kernel_rfl
theorem mtc_one3 (a b : ByteArray) (kd : Int) : ∀ u ∈ [Value.string a, .string b, .int .i64 kd], u.oneCell' = true := by simp [Value.oneCell']
theorem VecAns.drew {d b i : Nat} {K : XE → Prop} {w w' : World} {e : Ending} (h : VecAns d b i K w e w') : VecAns d b i K w e w'.drew := by
  obtain ⟨x, j, h1, h2, h3, h4, h5, h6⟩ := h
  exact ⟨x, j, h1, h2, h3.below (Below.refl _ _).drew, h4.below (Below.refl _ _).drew h4.lt, h5, only_drew h6⟩
theorem VAt.pair2 {k : KSet} {B b : Nat} {w0 w : World} {b3 b6 j i d : Nat} (h : VAt k B b w0 b3 b6 j w) {K : XE → Prop} (kk : Int) (x y : XE) {g : Nat} (hK : ∀ g, K (pairX kk g x y)) (hb : Blk w g 26 (kcells [x, y])) (hg : b6 < g) (hx : FarS (fun c => c < w0.heap.size ∨ c = b6) (okX d x) w) (hy : FarS (fun c => c < w0.heap.size ∨ c = b6) (okX d y) w) (hj : j + 1 ≤ i + 2 ^ (d + 1)) :
    VecAns (d + 1) b i K w0 (.returned (pairX kk g x y).val) (set5W w b6 (.int .i64 kk) (.int .i64 0) (.slice none 0 0) (.slice none 0 0) (.slice (some ⟨g, 0, none⟩) 2 2)) := by
  have hl := h.lt
  refine h.fin (K := K) (i := i) (pairX kk g x y) (hK _) ?_ hj
  refine okX_far (FarS.nil 3) (FarS.nil 1) ?_ (fun q hq => ?_)
  · exact FarS.slc (S := fun c => c < w0.heap.size ∨ c = b6) (n := 2) (size := 5) hb (fun e => by rcases e with e | e <;> omega) rfl (by omega)
  · rw [List.mem_cons, List.mem_singleton] at hq
    rcases hq with rfl | rfl
    · exact hx
    · exact hy
/-- An expression of one, its kid in a block. -/
def oneX (kk : Int) (g : Nat) (nv : Value) (ns : List ByteArray) (x : XE) : XE := .mk kk 0 (.slice none 0 0) [] nv ns (.slice (some ⟨g, 0, none⟩) 1 1) [x]
theorem VAt.one {k : KSet} {B b : Nat} {w0 w : World} {b3 b6 j i d : Nat} (h : VAt k B b w0 b3 b6 j w) {K : XE → Prop} (kk : Int) (x : XE) {nv : Value} {ns : List ByteArray} (hK : ∀ g, K (oneX kk g nv ns x)) (hn : FarS (fun c => c < w0.heap.size ∨ c = b6) (fun W => Slc W 1 nv ns.length (strs ns)) w) (hx : FarS (fun c => c < w0.heap.size ∨ c = b6) (okX d x) w) (hj : j + 1 ≤ i + 2 ^ (d + 1)) :
    VecAns (d + 1) b i K w0 (.returned (oneX kk w.heap.size nv ns x).val) (set5W (w.alloc (.cells #[.int .i64 x.kd, .int .i64 x.n, x.mv, x.nv, x.kv] 26)) b6 (.int .i64 kk) (.int .i64 0) (.slice none 0 0) nv (.slice (some ⟨w.heap.size, 0, none⟩) 1 1)) := by
  have hl := h.lt
  have h6 := h.res.lt
  have hs := h.gr.size
  have hg : w.grownBy (w.alloc (.cells #[.int .i64 x.kd, .int .i64 x.n, x.mv, x.nv, x.kv] 26)) none := only_alloc (World.grownBy.refl w _) _
  refine (h.alloc (.cells #[.int .i64 x.kd, .int .i64 x.n, x.mv, x.nv, x.kv] 26)).fin (K := K) (i := i) (oneX kk w.heap.size nv ns x) (hK _) ?_ hj
  refine okX_far (FarS.nil 3) (hn.grown hg (fun c e => by cases e)) ?_ (fun q hq => ?_)
  · have hb : Blk (w.alloc (.cells #[.int .i64 x.kd, .int .i64 x.n, x.mv, x.nv, x.kv] 26)) w.heap.size 26 (kcells [x]) := Blk.mk (heap_alloc_new w _)
    exact FarS.slc (S := fun c => c < w0.heap.size ∨ c = b6) (n := 1) (size := 5) hb (fun e => by rcases e with e | e <;> omega) rfl (by omega)
  · rw [List.mem_singleton] at hq; subst hq
    exact hx.grown hg (fun c e => by cases e)
theorem VAt.farRow {k : KSet} {B b : Nat} {w0 w w' : World} {b3 b6 j : Nat} {row : Option Nat} (h : VAt k B b w0 b3 b6 j w) (hg : w.grownBy w' row) (h6 : ∀ g, row = some g → b6 < g) : VAt k B b w0 b3 b6 j w' := by
  have hl := h.lt
  have h1 := h.gr.size
  exact ⟨h.box.grown hg (fun e => by have := h6 _ e.symm; omega), h.res.grown hg (fun e => by have := h6 _ e.symm; omega), h.at_.grown hg (fun e => by have := h6 _ e.symm; omega), h.ok.grown hg (by omega) (fun c e => by have := h6 _ e; omega), h.gr.andThen hg (fun c e => .inl (by have := h6 _ e; omega)), hl⟩
theorem VAt.far {k : KSet} {B b : Nat} {w0 w w' : World} {b3 b6 j g : Nat} (h : VAt k B b w0 b3 b6 j w) (hg : w.grownBy w' (some g)) (h6 : b6 < g) : VAt k B b w0 b3 b6 j w' := by
  have hl := h.lt
  have h1 := h.gr.size
  exact ⟨h.box.grown hg (fun e => by injection e with e; omega), h.res.grown hg (fun e => by injection e with e; omega), h.at_.grown hg (fun e => by injection e with e; omega), h.ok.grown hg (by omega) (fun c e => by injection e with e; omega), h.gr.andThen hg (fun c e => .inl (by injection e with e; omega)), hl⟩
def VecSaid (k : KSet) (b B d : Nat) : Prop := ∀ (deep i : Nat) (w : World), deep + d = 5 → k.ok B w → Blk w b 3 [.int .i64 (i : Nat)] → i + 2 ^ d ≤ 1000 → 0 < d →
    Calls Tryd.prog 32 #[k.val, .pointer (some ⟨b, 0, none⟩), .int .i64 (deep : Nat)] w (VecAns d b i (keepV d) w)
set_option maxHeartbeats 8000000 in
theorem vector_step (k : KSet) (b B : Nat) (hB : B ≤ b) (d : Nat) (IH : 0 < d → VecSaid k b B d) : VecSaid k b B (d + 1) := by
    intro deep i w hd hk hb hi _
    obtain ⟨hp1, hp2⟩ := two_pow d
    have hi1 : i + 1 ≤ 1000 := by omega
    have HI := Lib.hid hi
    have HP := Lib.hid hp1
    have HVS := Lib.hid (VAt.start hk hB hb)
    have HIH := Lib.hid (fun (j : Nat) (V : World) h1 h2 h3 h4 => show Calls Tryd.prog 32 #[.agg #[.slice k.A k.n k.c, .slice k.A2 k.n2 k.c2], .pointer (some ⟨b, 0, none⟩), .int .i64 ((deep : Int) + 1)] V (VecAns d b j (keepV d) V) from IH h4 (deep + 1) j V (by omega) h1 h2 h3 h4)
    have HNU := Lib.hid (fun (j : Nat) (V : World) h1 h2 h3 h4 => show Calls Tryd.prog 54 #[.agg #[.slice k.A k.n k.c, .slice k.A2 k.n2 k.c2], .pointer (some ⟨b, 0, none⟩), .int .i64 ((deep : Int) + 1)] V (VecAns d b j (keepN d) V) from number_any k b B hB d (deep + 1) j V (by omega) h1 h2 h3 h4)
    clear hk hb hi IH
    obtain ⟨b3, hb3⟩ : ∃ c, w.heap.size = c := ⟨_, rfl⟩
    obtain ⟨b6, hb6⟩ : ∃ c, b3 + 1 = c := ⟨_, rfl⟩
    have HB3 := Lib.hid hb3
    have HB6 := Lib.hid hb6
    have HV0 := Lib.hid (show VAt k B b w b3 b6 i ((w.alloc (.cells #[.slice k.A k.n k.c, .slice k.A2 k.n2 k.c2] 35)).alloc (.cells #[.int .i64 0, .int .i64 0, .slice none 0 0, .slice none 0 0, .slice none 0 0] 26)) by subst hb3; subst hb6; exact HVS.out)
    clear hb3 hb6 HVS
    show Calls _ _ #[.agg #[.slice k.A k.n k.c, .slice k.A2 k.n2 k.c2], _, _] _ _
    go_enter Tryd.func32, Tryd.ntmps32
    go_upto_region 1 with fail
    rw [HB3.out, HB6.out]
    generalize (w.alloc (.cells #[.slice k.A k.n k.c, .slice k.A2 k.n2 k.c2] 35)).alloc (.cells #[.int .i64 0, .int .i64 0, .slice none 0 0, .slice none 0 0, .slice none 0 0] 26) = W1 at *
    obtain ⟨c0, c1⟩ := ok_box2 HV0.out
    go_wp2_with fail
    (with_reducible refine (next_v k b B i W1 HV0.out.ok hB HV0.out.at_ (by omega)).mono ?_); rintro e wn ⟨kd, n, hkd, hn, rfl, hat, hg⟩
    have HV1 := Lib.hid (HV0.out.grown hg hat)
    have HW := Lib.hid (fun V => within_any kd 0 9 V hkd (by omega) (by omega) (by omega))
    obtain ⟨hv1, hv2⟩ := nWithin_in kd (lo := 0) (hi := 9) (by omega)
    generalize nWithin kd 0 9 = c at *
    have HN := Lib.hid hn
    clear hat hg HV0 c0 c1 hkd hn
    go_wp2_with fail
    (with_reducible refine (HW.out _).mono ?_); rintro e wz ⟨rfl, rfl⟩
    go_upto_if 32 with fail
    go_cut [9] from 31 to 32 (fun x9 wx => ∃ c' : Int, x9 = .int .i64 c' ∧ 0 ≤ c' ∧ c' ≤ 9 ∧ (c' ≤ 3 ∨ 0 < d) ∧ VAt k B b w b3 b6 (i + 1) wx)
    case first =>
      by_cases h0 : 0 < d
      · have hd3 : (deep : Int) ≤ 3 := by omega
        go_wp2_with fail
        go_meet
        exact ⟨c, rfl, hv1, hv2, .inr h0, HV1.out⟩
      · have hd3 : ¬ (deep : Int) ≤ 3 := by omega
        go_wp2_with fail
        go_meet
        exact ⟨0, rfl, by omega, by omega, .inl (by omega), HV1.out⟩
    case rest =>
      obtain ⟨c', rfl, hv3, hv4, h0, hat⟩ := hcut
      have HV := Lib.hid hat
      clear hat HV1 HW hv1 hv2
      obtain ⟨p, hp⟩ : ∃ p, decide (c' ≤ 3) = p := ⟨_, rfl⟩
      have HPP := Lib.hid hp
      clear hp
      go_upto_region 6 with fail
      go_upto_if 34 with fail
      go_cut [34] from 35 to 38 (fun x34 wx => x34 = .bool p ∧ VAt k B b w b3 b6 (i + 1) wx)
      case first =>
        have hc9 : c' = 0 ∨ c' = 1 ∨ c' = 2 ∨ c' = 3 ∨ 3 < c' := by omega
        rcases hc9 with rfl | rfl | rfl | rfl | h
        · have hpt : p = true := HPP.out.symm.trans (by decide)
          go_wp2_with fail
          go_meet
          exact ⟨by subst hpt; rfl, HV.out⟩
        · have hpt : p = true := HPP.out.symm.trans (by decide)
          go_wp2_with fail
          go_meet
          exact ⟨by subst hpt; rfl, HV.out⟩
        · have hpt : p = true := HPP.out.symm.trans (by decide)
          go_wp2_with fail
          go_meet
          exact ⟨by subst hpt; rfl, HV.out⟩
        · have hpt : p = true := HPP.out.symm.trans (by decide)
          go_wp2_with fail
          go_meet
          exact ⟨by subst hpt; rfl, HV.out⟩
        · have hpt : p = false := HPP.out.symm.trans (decide_eq_false (by omega))
          have t0 : (c' == 0) = false := by rw [beq_eq_false_iff_ne]; omega
          have t1 : (c' == 1) = false := by rw [beq_eq_false_iff_ne]; omega
          have t2 : (c' == 2) = false := by rw [beq_eq_false_iff_ne]; omega
          have t3 : (c' == 3) = false := by rw [beq_eq_false_iff_ne]; omega
          go_wp2_with fail
          go_meet
          exact ⟨by subst hpt; rfl, HV.out⟩
      case rest =>
        obtain ⟨rfl, hat⟩ := hcut
        have HV2 := Lib.hid hat
        clear hat HV
        cases p with
        | true => --doneP
          clear HPP HIH HNU h0
          obtain ⟨hq1, hq2⟩ := nWithin_in n (lo := 0) (hi := 1) (by omega)
          have HW := Lib.hid (fun V => within_any n 0 1 V HN.out (by omega) (by omega) (by omega))
          generalize nWithin n 0 1 = q at *
          obtain ⟨q, rfl⟩ := Int.eq_ofNat_of_zero_le hq1
          have hq3 : q < 2 := by omega
          have w109 : IntKind.i64.wrap (109 + (q : Int)) = 109 + q := by rw [IntKind.wrap_i64]; omega
          have u109 : IntKind.u8.wrap (109 + (q : Int)) = 109 + q := by
            match q, hq3 with
            | 0, _ => rfl
            | 1, _ => rfl
          have HCV := Lib.hid (fun V g => conv_at V g (UInt8.ofNat (109 + q)) (109 + (q : Int)) (by
            match q, hq3 with
            | 0, _ => rfl
            | 1, _ => rfl))
          have HC2 : Hid (UInt8.ofNat (109 + q) = 109 ∨ UInt8.ofNat (109 + q) = 110) := Lib.hid (by
            match q, hq3 with
            | 0, _ => exact .inl rfl
            | 1, _ => exact .inr rfl)
          generalize UInt8.ofNat (109 + q) = ch at *
          have hcv := HCV.out (wc.alloc (.cells #[.int .u8 (109 + (q : Int))] 5)) wc.heap.size (Blk.mk (heap_alloc_new wc _))
          go_wp2_with fail
          (with_reducible refine (HW.out _).mono ?_); rintro e wz ⟨rfl, rfl⟩
          go_upto_region 11 with fail
          obtain ⟨g1, hg1⟩ : ∃ g, wc.heap.size + 1 = g := ⟨_, rfl⟩
          have HG1 := Lib.hid hg1
          obtain ⟨W2, hW2⟩ : ∃ W, (wc.alloc (.cells #[.int .u8 (109 + (q : Int))] 5)).alloc (.cells #[.string ⟨#[110, 97, 109, 101]⟩, .string ⟨#[ch]⟩, .int .i64 1] 54) = W := ⟨_, rfl⟩
          have HB := Lib.hid (show Blk W2 g1 54 (mtcs [(⟨#[110, 97, 109, 101]⟩, ⟨#[ch]⟩, 1)]) from by
            have h := heap_alloc_new (wc.alloc (.cells #[.int .u8 (109 + (q : Int))] 5)) (.cells #[.string ⟨#[110, 97, 109, 101]⟩, .string ⟨#[ch]⟩, .int .i64 1] 54)
            rw [show (wc.alloc (.cells #[.int .u8 (109 + (q : Int))] 5)).heap.size = g1 by simp [← hg1], hW2] at h
            exact Blk.mk h)
          have HV3 := Lib.hid (show VAt k B b w b3 b6 (i + 1) W2 by rw [← hW2]; exact (HV2.out.alloc _).alloc _)
          have h16 : b6 + 1 ≤ g1 := by have := HV2.out.res.lt; omega
          have HR := Lib.hid (show W2.ownsRow (b6 + 1) 54 3 (.slice (some ⟨g1, 0, none⟩) 1 1) 1 (mtcs [(⟨#[110, 97, 109, 101]⟩, ⟨#[ch]⟩, 1)]) from HB.out.owns (n := 1) (cap := 1) (size := 3) h16 (Nat.le_refl _) (by unfold maxLen; omega) rfl)
          rw [HG1.out, hW2]
          clear hcv hW2 hg1 HV2 HW HCV w109 u109 HB hq1 hq2 hq3
          obtain ⟨g4, hg4⟩ : ∃ g, (bits BinOp.and IntKind.i64 n 4 == 4) = g := ⟨_, rfl⟩
          go_upto_if 49 with fail
          clear hg4
          go_cut [10] from 50 to 68 (fun x10 wx => ∃ (A : Option Addr) (m cx : Nat) (ms : List Mtc), x10 = .slice A m cx ∧ ms.length = m ∧ keepMs ms ∧ wx.ownsRow (b6 + 1) 54 3 (.slice A m cx) m (mtcs ms) ∧ VAt k B b w b3 b6 (i + 1) wx)
          case first =>
            cases g4 with
            | false =>
              go_wp2_with fail
              go_meet
              exact ⟨_, 1, 1, _, rfl, rfl, ⟨ch, HC2.out, .inl rfl⟩, HR.out, HV3.out⟩
            | true =>
              obtain ⟨i0, hi0, hz0, hz1, hz2⟩ := info_parts Tryd.infoMtc5
              obtain ⟨q8, hq8⟩ : ∃ q, n.tdiv 8 = q := ⟨_, rfl⟩
              obtain ⟨q16, hq16⟩ : ∃ q, n.tdiv 16 = q := ⟨_, rfl⟩
              have hi8 : I64 q8 := by rw [← hq8]; exact I64_tdiv HN.out (by decide)
              have hi16 : I64 q16 := by rw [← hq16]; exact I64_tdiv HN.out (by decide)
              obtain ⟨ha1, ha2⟩ := nWithin_in q8 (lo := 0) (hi := 2) (by omega)
              obtain ⟨hc1, hc2⟩ := nWithin_in q8 (lo := 0) (hi := 3) (by omega)
              obtain ⟨hd1, hd2⟩ := nWithin_in q16 (lo := 1) (hi := 4) (by omega)
              have HW4 := Lib.hid (fun V => within_any q8 0 2 V hi8 (by omega) (by omega) (by omega))
              have HW16 := Lib.hid (fun V => within_any q8 0 3 V hi8 (by omega) (by omega) (by omega))
              have HWV := Lib.hid (fun V => within_any q16 1 4 V hi16 (by omega) (by omega) (by omega))
              generalize nWithin q8 0 2 = a at *
              generalize nWithin q8 0 3 = vc at *
              generalize nWithin q16 1 4 = mk at *
              obtain ⟨a, rfl⟩ := Int.eq_ofNat_of_zero_le ha1
              obtain ⟨vc, rfl⟩ := Int.eq_ofNat_of_zero_le hc1
              have ha3 : a < 3 := by omega
              have hc4 : vc < 4 := by omega
              have w8 : IntKind.i64.wrap q8 = q8 := by unfold I64 at hi8; rw [IntKind.wrap_i64]; omega
              have w16 : IntKind.i64.wrap q16 = q16 := by unfold I64 at hi16; rw [IntKind.wrap_i64]; omega
              have HKM := Lib.hid (show keepMs [(⟨#[110, 97, 109, 101]⟩, ⟨#[ch]⟩, 1), (keepNames.getD a ⟨#[]⟩, keepValues.getD vc ⟨#[]⟩, mk)] from ⟨ch, HC2.out, .inr ⟨a, vc, mk, ha3, hc4, hd1, hd2, rfl⟩⟩)
              go_upto_region 12 with fail
              obtain ⟨D, hD⟩ : ∃ D, W2.drew = D := ⟨_, rfl⟩
              have HVD := Lib.hid (show VAt k B b w b3 b6 (i + 1) D by rw [← hD]; exact HV3.out.drew)
              have HRD := Lib.hid (show D.ownsRow (b6 + 1) 54 3 (.slice (some ⟨g1, 0, none⟩) 1 1) 1 (mtcs [(⟨#[110, 97, 109, 101]⟩, ⟨#[ch]⟩, 1)]) by rw [← hD]; exact own_below HR.out (Below.refl _ _).drew (Nat.le_refl _))
              have tok1 : True := trivial
              have tok2 : True := trivial
              have tok3 : True := trivial
              have tok4 : True := trivial
              have tok5 : True := trivial
              have tok6 : True := trivial
              have za1 : (0 : Int) ≤ a := by omega
              have za2 : (a : Int) < 4 := by omega
              have zc1 : (0 : Int) ≤ vc := by omega
              have zc2 : (vc : Int) < 8 := by omega
              clear HV3 HR
              go_region_law (first
                | (have tk := tok1; (try go_simp); go_at_call 52; (with_reducible refine (names_any _).mono ?_); rintro e wn ⟨rfl, hwn⟩; have HBN := Lib.hid (show Below D.heap.size D wn from (by rw [← hwn]; exact (Below.refl _ _).alloc (Nat.le_refl _) _)); have HNN := Lib.hid (show Blk wn D.heap.size 9 (strs keepNames) from (by rw [← hwn]; exact Blk.mk (heap_alloc_new D _))); have e66 := name_cell HNN.out ha3; generalize keepNames.getD a ⟨#[]⟩ = na at *; clear tok1 tk hwn)
                | (have tk := tok2; (try go_simp); go_at_call 20; (with_reducible refine (HW4.out _).mono ?_); rintro e wz ⟨rfl, rfl⟩; clear tok2 tk HW4)
                | (have tk := tok3; (try go_simp); go_at_call 53; (with_reducible refine (values_any _).mono ?_); rintro e wv ⟨rfl, hwv⟩; have HBV := Lib.hid (show Below wn.heap.size wn wv from (by rw [← hwv]; exact (Below.refl _ _).alloc (Nat.le_refl _) _)); have HVV := Lib.hid (show Blk wv wn.heap.size 9 (strs keepValues) from (by rw [← hwv]; exact Blk.mk (heap_alloc_new wn _))); have e66' := (HBV.out.cell (p := ⟨D.heap.size, a, none⟩) HNN.out.lt).trans e66; have e72 := value_cell HVV.out hc4; generalize keepValues.getD vc ⟨#[]⟩ = va at *; clear tok3 tk hwv)
                | (have tk := tok4; (try go_simp); go_at_call 20; (with_reducible refine (HW16.out _).mono ?_); rintro e wz ⟨rfl, rfl⟩; clear tok4 tk HW16)
                | (have tk := tok5; (try go_simp); go_at_call 20; (with_reducible refine (HWV.out _).mono ?_); rintro e wz ⟨rfl, rfl⟩; have HVW := Lib.hid ((HVD.out.below HBN.out).below HBV.out); have HRW := Lib.hid (own_below (own_below (own_below HRD.out HBN.out (Nat.le_refl _)) HBV.out (Nat.le_refl _)) ((Below.refl wv.heap.size wv).alloc (Nat.le_refl _) (.cells #[.string na, .string va, .int .i64 mk] 54)) (Nat.le_refl _)); have HX := Lib.hid (show Sees (wv.alloc (.cells #[.string na, .string va, .int .i64 mk] 54)) (wv.alloc (.cells #[.string na, .string va, .int .i64 mk] 54)).heap.size 3 (some ⟨wv.heap.size, 0, none⟩) 1 [.string na, .string va, .int .i64 mk] from (Blk.mk (heap_alloc_new wv _) : Blk _ wv.heap.size 54 [.string na, .string va, .int .i64 mk]).sees rfl (List.prefix_refl _)); have hbs : b6 + 1 ≤ (wv.alloc (.cells #[.string na, .string va, .int .i64 mk] 54)).heap.size := Nat.succ_le_of_lt (HVW.out.alloc (.cells #[.string na, .string va, .int .i64 mk] 54)).res.lt; clear tok5 tk HWV)
                | (have tk := tok6; refine step_append_at3 rfl (.tmp 50) (.tmp 67) 22 rfl (b6 + 1) 54 i0 (.agg #[.string ⟨#[]⟩, .string ⟨#[]⟩, .int .i64 0]) 3 40 Tryd.underlying22 hi0 hz0 hz1 hz2 rfl (by decide) (.slice (some ⟨g1, 0, none⟩) 1 1) 1 (mtcs [(⟨#[110, 97, 109, 101]⟩, ⟨#[ch]⟩, 1)]) (by first | rfl | (simp [Act.eval]; done)) HRW.out _ _ 1 1 [.string na, .string va, .int .i64 mk] (by first | rfl | (simp [Act.eval]; done)) HX.out (mtc_one3 _ _ _) (by unfold maxLen; omega) (by omega) hbs ?_; intro v9 w9 hown9 hgr9 hwh9; obtain ⟨A9, c9, hA9, _, _⟩ := own_slice hown9; subst hA9; have HO9 := Lib.hid hown9; have HG9 := Lib.hid hgr9; clear tok6 tk hown9 hgr9 hwh9)
                | fail)
              all_goals
                have HVZ := Lib.hid ((HVW.out.alloc (.cells #[.string na, .string va, .int .i64 mk] 54)).far HG9.out (g := g1) (by omega))
                clear HVW HRW HX HBN HNN HBV HVV HG9 HVD HRD e66 e66' e72 hbs
                go_wp2_with fail
                go_meet
                exact ⟨A9, 2, c9, _, rfl, rfl, HKM.out, HO9.out, HVZ.out⟩
          case rest =>
            obtain ⟨A, m, cx, ms, rfl, hml, hkm, hrow, hat⟩ := hcut
            have HM := Lib.hid hkm
            have HRW := Lib.hid hrow
            have HV4 := Lib.hid hat
            have HML := Lib.hid hml
            clear hkm hrow hat hml HV3 HR
            obtain ⟨hv1, hv2⟩ := nWithin_in n (lo := 1) (hi := 30) (by omega)
            have HW := Lib.hid (fun V => within_any n 1 30 V HN.out (by omega) (by omega) (by omega))
            generalize nWithin n 1 30 = v at *
            obtain ⟨y0, y1, y2, y3, y4⟩ := blk_cells5 HV4.out.res
            obtain ⟨z0, z1, z2, z3, z4⟩ := blk_fr5 HV4.out.res
            have HQ := Lib.hid (set5W_blk HV4.out.res (.int .i64 2) (.int .i64 v) (.slice A m cx) (.slice none 0 0) (.slice none 0 0))
            go_wp2_with fail
            (with_reducible refine (HW.out _).mono ?_); rintro e wz ⟨rfl, rfl⟩
            go_wp2_with fail
            obtain ⟨q0, q1, q2, q3, q4⟩ := blk_cells5 HQ.out
            unfold set5W at q0 q1 q2 q3 q4
            have HFN := Lib.hid (HV4.out.fin (K := keepV (d + 1)) (i := i) (d := d + 1) (.mk 2 v (.slice A m cx) ms (.slice none 0 0) [] (.slice none 0 0) []) (.inl ⟨rfl, hv1, hv2, HM.out, rfl, rfl⟩) (okX_far (by have h := HML.out; subst h; exact FarS.own HRW.out (fun g hg => by have h1 := (HRW.out.lt g hg).1; have h2 := HV4.out.lt; intro e; rcases e with e | e <;> omega)) (FarS.nil 1) (FarS.nil 5) (fun x hx => absurd hx List.not_mem_nil)) (by have := HP.out; omega))
            refine bodyPost_ret (v := (XE.mk 2 v (.slice A m cx) ms (.slice none 0 0) [] (.slice none 0 0) []).val) (by simp [XE.val, XE.kd, XE.n, XE.mv, XE.nv, XE.kv, results, Tryd.results32, go_sem, q0, q1, q2, q3, q4]) rfl ?_
            exact HFN.out
        | false => --@rest (gen_vec.py)
          have hc3 : 3 < c' := by have h := of_decide_eq_false HPP.out; omega
          clear HPP
          have hd0 : 0 < d := by rcases h0 with h | h <;> omega
          clear h0
          have h0 := hd0
          clear hd0
          have h2d : 2 ≤ 2 ^ d := by obtain ⟨d', rfl⟩ : ∃ d', d = d' + 1 := ⟨d - 1, by omega⟩; have := two_pow d'; omega
          have hd3 : (deep : Int) ≤ 3 := by omega
          obtain ⟨p5, hp5⟩ : ∃ p, decide (c' ≤ 5) = p := ⟨_, rfl⟩
          have HPP := Lib.hid hp5
          clear hp5
          go_upto_region 14 with fail
          go_upto_if 73 with fail
          go_cut [73] from 74 to 75 (fun x73 wx => x73 = .bool p5 ∧ VAt k B b w b3 b6 (i + 1) wx)
          case first =>
            have hc9 : c' = 4 ∨ c' = 5 ∨ 5 < c' := by omega
            rcases hc9 with rfl | rfl | h
            · have hpt : p5 = true := HPP.out.symm.trans (by decide)
              go_wp2_with fail
              go_meet
              exact ⟨by subst hpt; rfl, HV2.out⟩
            · have hpt : p5 = true := HPP.out.symm.trans (by decide)
              go_wp2_with fail
              go_meet
              exact ⟨by subst hpt; rfl, HV2.out⟩
            · have hpt : p5 = false := HPP.out.symm.trans (decide_eq_false (by omega))
              have t0 : (c' == 4) = false := by rw [beq_eq_false_iff_ne]; omega
              have t1 : (c' == 5) = false := by rw [beq_eq_false_iff_ne]; omega
              go_wp2_with fail
              go_meet
              exact ⟨by subst hpt; rfl, HV2.out⟩
          case rest =>
            obtain ⟨rfl, hat⟩ := hcut
            have HV5 := Lib.hid hat
            clear hat HV2
            have HV2 := HV5
            clear HV5
            cases p5 with
            | true => --done45
              obtain ⟨c0, c1⟩ := ok_box2 HV2.out
              have HSa := Lib.hid (show w.heap.size ≤ wc.heap.size ∧ b6 < wc.heap.size ∧ b < wc.heap.size from ⟨HV2.out.gr.size, HV2.out.res.lt, HV2.out.at_.lt⟩)
              go_wp2_with fail
              (with_reducible refine (HIH.out (i + 1) _ HV2.out.ok HV2.out.at_ (by have := HI.out; omega) h0).mono ?_); rintro e wa ⟨⟨xak, xan, xamv, xams, xanv, xans, xakv, xaks⟩, ja, he, hkx, hfx, hat, hja, hg⟩
              obtain ⟨Aa1, ca1, Aa2, ca2, Aa3, ca3, e1, e2, e3⟩ := okX_forms hfx.now
              simp only [XE.mv, XE.nv, XE.kv, XE.ms, XE.ns, XE.kids] at e1 e2 e3
              subst e1; subst e2; subst e3
              have he2 : e = .returned (.agg #[.int .i64 xak, .int .i64 xan, .slice Aa1 xams.length ca1, .slice Aa2 xans.length ca2, .slice Aa3 xaks.length ca3]) := he
              subst he2
              have HVa := Lib.hid ((HV2.out.grown hg hat).alloc (.cells #[.int .i64 xak, .int .i64 xan, .slice Aa1 xams.length ca1, .slice Aa2 xans.length ca2, .slice Aa3 xaks.length ca3] 26))
              have HKa := Lib.hid (show Kid d wc.heap.size wa.heap.size (XE.mk xak xan (.slice Aa1 xams.length ca1) xams (.slice Aa2 xans.length ca2) xans (.slice Aa3 xaks.length ca3) xaks) (wa.alloc (.cells #[.int .i64 xak, .int .i64 xan, .slice Aa1 xams.length ca1, .slice Aa2 xans.length ca2, .slice Aa3 xaks.length ca3] 26)) from Kid.made hfx hg.size)
              have HPa := Lib.hid hkx
              have HJa := Lib.hid hja
              clear HV2 c0 c1 he hkx hfx hat hja hg
              go_upto_region 17 with fail
              generalize wa.alloc (.cells #[.int .i64 xak, .int .i64 xan, .slice Aa1 xams.length ca1, .slice Aa2 xans.length ca2, .slice Aa3 xaks.length ca3] 26) = Wa at *
              generalize wa.heap.size = ga at *
              obtain ⟨c0, c1⟩ := ok_box2 HVa.out
              have hja : ja ≤ 1000 := by have := HJa.out; have := HI.out; omega
              go_wp2_with fail
              (with_reducible refine (next_v k b B ja Wa HVa.out.ok hB HVa.out.at_ hja).mono ?_); rintro e wn2 ⟨kd2, n2, hkd2, hn2, rfl, hat, hg⟩
              have HV4 := Lib.hid (HVa.out.grown hg hat)
              have HK4 := Lib.hid (HKa.out.grown hg HSa.out.2.2)
              have HW := Lib.hid (fun V => within_any n 8 13 V HN.out (by omega) (by omega) (by omega))
              have HW2 := Lib.hid (fun V => within_any n2 (-3) 9 V hn2 (by omega) (by omega) (by omega))
              obtain ⟨hk1, hk2⟩ := nWithin_in n (lo := 8) (hi := 13) (by omega)
              obtain ⟨hn3, hn4⟩ := nWithin_in n2 (lo := -3) (hi := 9) (by omega)
              generalize nWithin n 8 13 = kk at *
              generalize nWithin n2 (-3) 9 = vv at *
              clear HVa HKa c0 c1 hat hg hkd2 hn2
              go_upto_region 18 with fail
              have HVX := Lib.hid HV4.out
              have HKA := Lib.hid (show Kid d wc.heap.size ga (XE.mk xak xan (.slice Aa1 xams.length ca1) xams (.slice Aa2 xans.length ca2) xans (.slice Aa3 xaks.length ca3) xaks) wn2 from HK4.out)
              obtain ⟨x0, x1, x2, x3, x4⟩ := blk_cells5 (show Blk wn2 ga 26 [.int .i64 xak, .int .i64 xan, .slice Aa1 xams.length ca1, .slice Aa2 xans.length ca2, .slice Aa3 xaks.length ca3] from HK4.out.blk)
              obtain ⟨y0, y1, y2, y3, y4⟩ := blk_cells5 (HVX.out.alloc (.cells #[.int .i64 xak, .int .i64 xan, .slice Aa1 xams.length ca1, .slice Aa2 xans.length ca2, .slice Aa3 xaks.length ca3, .int .i64 1, .int .i64 vv, .slice none 0 0, .slice none 0 0, .slice none 0 0] 26)).res
              obtain ⟨z0, z1, z2, z3, z4⟩ := blk_fr5 (HVX.out.alloc (.cells #[.int .i64 xak, .int .i64 xan, .slice Aa1 xams.length ca1, .slice Aa2 xans.length ca2, .slice Aa3 xaks.length ca3, .int .i64 1, .int .i64 vv, .slice none 0 0, .slice none 0 0, .slice none 0 0] 26)).res
              clear HV4 HK4 HIH HNU
              go_still_tail 6, (by kernel_rfl)
              still_call ((HW.out _).mono fun e w' h => ⟨h.1, h.2.symm⟩)
              repeat still_step
              still_call ((HW2.out _).mono fun e w' h => ⟨h.1, h.2.symm⟩)
              repeat still_step
              refine wpStill_nil ?_
              change wpList _ _ _ _ _ wn2.drew
              all_goals
                have HQ := Lib.hid (set5W_blk (HVX.out.alloc (.cells #[.int .i64 xak, .int .i64 xan, .slice Aa1 xams.length ca1, .slice Aa2 xans.length ca2, .slice Aa3 xaks.length ca3, .int .i64 1, .int .i64 vv, .slice none 0 0, .slice none 0 0, .slice none 0 0] 26)).res (.int .i64 kk) (.int .i64 0) (.slice none 0 0) (.slice none 0 0) (.slice (some ⟨wn2.heap.size, 0, none⟩) 2 2))
                have HFN := Lib.hid (HVX.out.pair (d := d) (i := i) (K := keepV (d + 1)) kk (XE.mk xak xan (.slice Aa1 xams.length ca1) xams (.slice Aa2 xans.length ca2) xans (.slice Aa3 xaks.length ca3) xaks) (numX vv) (fun g => .inr (.inl ⟨hk1, hk2, rfl, rfl, rfl, _, _, rfl, HPa.out, ⟨rfl, hn3, hn4, rfl, rfl, rfl⟩⟩)) (HKA.out.s0 HSa.out.1 HSa.out.2.1) (by obtain ⟨d', rfl⟩ : ∃ d', d = d' + 1 := ⟨d - 1, by omega⟩; exact numX_far d' vv) (by have := HJa.out; have := h2d; omega))
                go_wp2_with fail
                obtain ⟨q0, q1, q2, q3, q4⟩ := blk_cells5 HQ.out
                unfold set5W at q0 q1 q2 q3 q4
                refine bodyPost_ret (v := (pairX kk wn2.heap.size (XE.mk xak xan (.slice Aa1 xams.length ca1) xams (.slice Aa2 xans.length ca2) xans (.slice Aa3 xaks.length ca3) xaks) (numX vv)).val) (by simp [XE.val, pairX, XE.kd, XE.n, XE.mv, XE.nv, XE.kv, results, Tryd.results32, go_sem, q0, q1, q2, q3, q4]) rfl ?_
                exact HFN.out.drew
            | false =>
              have hc9 : c' = 6 ∨ c' = 7 ∨ c' = 8 ∨ c' = 9 := by have h := of_decide_eq_false HPP.out; omega
              clear HPP hc3
              rcases hc9 with rfl | rfl | rfl | rfl
              · --done6
                obtain ⟨c0, c1⟩ := ok_box2 HV2.out
                have HSa := Lib.hid (show w.heap.size ≤ wc.heap.size ∧ b6 < wc.heap.size ∧ b < wc.heap.size from ⟨HV2.out.gr.size, HV2.out.res.lt, HV2.out.at_.lt⟩)
                go_wp2_with fail
                (with_reducible refine (HIH.out (i + 1) _ HV2.out.ok HV2.out.at_ (by have := HI.out; omega) h0).mono ?_); rintro e wa ⟨⟨xak, xan, xamv, xams, xanv, xans, xakv, xaks⟩, ja, he, hkx, hfx, hat, hja, hg⟩
                obtain ⟨Aa1, ca1, Aa2, ca2, Aa3, ca3, e1, e2, e3⟩ := okX_forms hfx.now
                simp only [XE.mv, XE.nv, XE.kv, XE.ms, XE.ns, XE.kids] at e1 e2 e3
                subst e1; subst e2; subst e3
                have he2 : e = .returned (.agg #[.int .i64 xak, .int .i64 xan, .slice Aa1 xams.length ca1, .slice Aa2 xans.length ca2, .slice Aa3 xaks.length ca3]) := he
                subst he2
                have HVa := Lib.hid ((HV2.out.grown hg hat).alloc (.cells #[.int .i64 xak, .int .i64 xan, .slice Aa1 xams.length ca1, .slice Aa2 xans.length ca2, .slice Aa3 xaks.length ca3] 26))
                have HKa := Lib.hid (show Kid d wc.heap.size wa.heap.size (XE.mk xak xan (.slice Aa1 xams.length ca1) xams (.slice Aa2 xans.length ca2) xans (.slice Aa3 xaks.length ca3) xaks) (wa.alloc (.cells #[.int .i64 xak, .int .i64 xan, .slice Aa1 xams.length ca1, .slice Aa2 xans.length ca2, .slice Aa3 xaks.length ca3] 26)) from Kid.made hfx hg.size)
                have HPa := Lib.hid hkx
                have HJa := Lib.hid hja
                clear HV2 c0 c1 he hkx hfx hat hja hg
                go_upto_region 21 with fail
                generalize wa.alloc (.cells #[.int .i64 xak, .int .i64 xan, .slice Aa1 xams.length ca1, .slice Aa2 xans.length ca2, .slice Aa3 xaks.length ca3] 26) = Wa at *
                generalize wa.heap.size = ga at *
                obtain ⟨c0, c1⟩ := ok_box2 HVa.out
                have HSb := Lib.hid (show w.heap.size ≤ Wa.heap.size ∧ b6 < Wa.heap.size ∧ b < Wa.heap.size from ⟨HVa.out.gr.size, HVa.out.res.lt, HVa.out.at_.lt⟩)
                go_wp2_with fail
                (with_reducible refine (HIH.out ja _ HVa.out.ok HVa.out.at_ (by have := HI.out; have := HJa.out; omega) h0).mono ?_); rintro e wb ⟨⟨xbk, xbn, xbmv, xbms, xbnv, xbns, xbkv, xbks⟩, jb, he, hkx, hfx, hat, hjb, hg⟩
                obtain ⟨Ab1, cb1, Ab2, cb2, Ab3, cb3, e1, e2, e3⟩ := okX_forms hfx.now
                simp only [XE.mv, XE.nv, XE.kv, XE.ms, XE.ns, XE.kids] at e1 e2 e3
                subst e1; subst e2; subst e3
                have he2 : e = .returned (.agg #[.int .i64 xbk, .int .i64 xbn, .slice Ab1 xbms.length cb1, .slice Ab2 xbns.length cb2, .slice Ab3 xbks.length cb3]) := he
                subst he2
                have HVb := Lib.hid ((HVa.out.grown hg hat).alloc (.cells #[.int .i64 xbk, .int .i64 xbn, .slice Ab1 xbms.length cb1, .slice Ab2 xbns.length cb2, .slice Ab3 xbks.length cb3] 26))
                have HKb := Lib.hid (show Kid d Wa.heap.size wb.heap.size (XE.mk xbk xbn (.slice Ab1 xbms.length cb1) xbms (.slice Ab2 xbns.length cb2) xbns (.slice Ab3 xbks.length cb3) xbks) (wb.alloc (.cells #[.int .i64 xbk, .int .i64 xbn, .slice Ab1 xbms.length cb1, .slice Ab2 xbns.length cb2, .slice Ab3 xbks.length cb3] 26)) from Kid.made hfx hg.size)
                have HPb := Lib.hid hkx
                have HJb := Lib.hid hjb
                have HKE := Lib.hid ((HKa.out.grown hg HSa.out.2.2).below ((Below.refl wb.heap.size wb).alloc (Nat.le_refl _) (.cells #[.int .i64 xbk, .int .i64 xbn, .slice Ab1 xbms.length cb1, .slice Ab2 xbns.length cb2, .slice Ab3 xbks.length cb3] 26)))
                clear HVa c0 c1 he hkx hfx hat hjb hg HKa
                have HKa := HKE; clear HKE
                go_upto_region 22 with fail
                generalize wb.alloc (.cells #[.int .i64 xbk, .int .i64 xbn, .slice Ab1 xbms.length cb1, .slice Ab2 xbns.length cb2, .slice Ab3 xbks.length cb3] 26) = Wb at *
                generalize wb.heap.size = gb at *
                have HW := Lib.hid (fun V => within_any n 8 16 V HN.out (by omega) (by omega) (by omega))
                obtain ⟨hk1, hk2⟩ := nWithin_in n (lo := 8) (hi := 16) (by omega)
                generalize nWithin n 8 16 = kk at *
                clear HIH HNU h0
                refine wp_region_facts_tail 5 (R := fun a b => Below a.heap.size a b) (G := (fun W => VAt k B b w b3 b6 jb W ∧ Kid d wc.heap.size ga (XE.mk xak xan (.slice Aa1 xams.length ca1) xams (.slice Aa2 xans.length ca2) xans (.slice Aa3 xaks.length ca3) xaks) W ∧ Kid d Wa.heap.size gb (XE.mk xbk xbn (.slice Ab1 xbms.length cb1) xbms (.slice Ab2 xbns.length cb2) xbns (.slice Ab3 xbks.length cb3) xbks) W)) (V := fun i' u' W => match i' with | 0 => u' = .int .i64 n | 1 => u' = .int .i64 kk | 2 => u' = .agg #[.int .i64 xak, .int .i64 xan, .slice Aa1 xams.length ca1, .slice Aa2 xans.length ca2, .slice Aa3 xaks.length ca3] | 3 => u' = .agg #[.int .i64 xbk, .int .i64 xbn, .slice Ab1 xbms.length cb1, .slice Ab2 xbns.length cb2, .slice Ab3 xbks.length cb3] | 4 => ∃ g, u' = .slice (some ⟨g, 0, none⟩) 2 2 ∧ Blk W g 26 [.int .i64 xak, .int .i64 xan, .slice Aa1 xams.length ca1, .slice Aa2 xans.length ca2, .slice Aa3 xaks.length ca3, .int .i64 xbk, .int .i64 xbn, .slice Ab1 xbms.length cb1, .slice Ab2 xbns.length cb2, .slice Ab3 xbks.length cb3] ∧ b6 < g | _ => True) (by kernel_rfl) (fun w => Below.refl _ _) (fun a b c h1 h2 => h1.trans (h2.mono h1.size)) (by kernel_rfl) (by kernel_rfl) (by kernel_rfl) (by kernel_rfl) (by decide) (by kernel_rfl) ?hG ⟨?o0, ?o1, ?o2, ?o3, ?o4, trivial⟩ ?hend
                case o0 =>
                  intro a w hfr hG hd
                  refine ⟨fun hw => ?_, fun hw => absurd hw (by simp [Region.wanted])⟩
                  have s8 : a.tmps.getD 8 undef = .int .i64 n := hfr.at 8 (by kernel_rfl)
                  refine op_yields (.int .i64 n) ?_ ?_ ?_
                  · simp only [execOp, resolve, List.map_toArray, List.map_cons, List.map_nil, Act.eval, s8]; simp [go_sem, -Array.getD_eq_getD_getElem?, s8]
                  · exact Below.refl _ _
                  · exact (fun _ _ => rfl)
                case o1 =>
                  intro a w hfr hG hd
                  obtain ⟨d0, _⟩ := hd
                  refine ⟨fun hw => ?_, fun hw => absurd hw (by simp [Region.wanted])⟩
                  have s107 : a.tmps.getD 107 undef = .int .i64 n := (d0 rfl).now
                  refine op_calls2 (((HW.out w).mono (fun e' w' hh => show e' = .returned (.int .i64 kk) ∧ Below w.heap.size w w' from ⟨hh.1, hh.2 ▸ Below.refl _ _⟩)).mono fun e' w' hh => ⟨_, hh.1, hh.2, (fun _ _ => rfl)⟩) ?_
                  simp only [execOp, resolve, List.map_toArray, List.map_cons, List.map_nil, Act.eval, s107]; simp [go_sem, -Array.getD_eq_getD_getElem?, s107]
                case o2 =>
                  intro a w hfr hG hd
                  refine ⟨fun hw => ?_, fun hw => absurd hw (by simp [Region.wanted])⟩
                  have s14 : a.tmps.getD 14 undef = .pointer (some ⟨ga, 0, none⟩) := hfr.at 14 (by kernel_rfl)
                  obtain ⟨x0, x1, x2, x3, x4⟩ := blk_cells5 (show Blk w ga 26 [.int .i64 xak, .int .i64 xan, .slice Aa1 xams.length ca1, .slice Aa2 xans.length ca2, .slice Aa3 xaks.length ca3] from hG.now.2.1.blk)
                  refine op_yields (.agg #[.int .i64 xak, .int .i64 xan, .slice Aa1 xams.length ca1, .slice Aa2 xans.length ca2, .slice Aa3 xaks.length ca3]) ?_ ?_ ?_
                  · simp only [execOp, resolve, List.map_toArray, List.map_cons, List.map_nil, Act.eval, s14]; simp [go_sem, -Array.getD_eq_getD_getElem?, s14, x0, x1, x2, x3, x4]
                  · exact Below.refl _ _
                  · exact (fun _ _ => rfl)
                case o3 =>
                  intro a w hfr hG hd
                  refine ⟨fun hw => ?_, fun hw => absurd hw (by simp [Region.wanted])⟩
                  have s15 : a.tmps.getD 15 undef = .pointer (some ⟨gb, 0, none⟩) := hfr.at 15 (by kernel_rfl)
                  obtain ⟨x0, x1, x2, x3, x4⟩ := blk_cells5 (show Blk w gb 26 [.int .i64 xbk, .int .i64 xbn, .slice Ab1 xbms.length cb1, .slice Ab2 xbns.length cb2, .slice Ab3 xbks.length cb3] from hG.now.2.2.blk)
                  refine op_yields (.agg #[.int .i64 xbk, .int .i64 xbn, .slice Ab1 xbms.length cb1, .slice Ab2 xbns.length cb2, .slice Ab3 xbks.length cb3]) ?_ ?_ ?_
                  · simp only [execOp, resolve, List.map_toArray, List.map_cons, List.map_nil, Act.eval, s15]; simp [go_sem, -Array.getD_eq_getD_getElem?, s15, x0, x1, x2, x3, x4]
                  · exact Below.refl _ _
                  · exact (fun _ _ => rfl)
                case o4 =>
                  intro a w hfr hG hd
                  obtain ⟨d0, d1, _⟩ := hd
                  refine ⟨fun hw => ?_, fun hw => absurd hw (by simp [Region.wanted])⟩
                  have s109 : a.tmps.getD 109 undef = .agg #[.int .i64 xak, .int .i64 xan, .slice Aa1 xams.length ca1, .slice Aa2 xans.length ca2, .slice Aa3 xaks.length ca3] := (d0 rfl).now
                  have s110 : a.tmps.getD 110 undef = .agg #[.int .i64 xbk, .int .i64 xbn, .slice Ab1 xbms.length cb1, .slice Ab2 xbns.length cb2, .slice Ab3 xbks.length cb3] := (d1 rfl).now
                  exact op_makes (.slice (some ⟨w.heap.size, 0, none⟩) 2 2) (w' := w.alloc (.cells #[.int .i64 xak, .int .i64 xan, .slice Aa1 xams.length ca1, .slice Aa2 xans.length ca2, .slice Aa3 xaks.length ca3, .int .i64 xbk, .int .i64 xbn, .slice Ab1 xbms.length cb1, .slice Ab2 xbns.length cb2, .slice Ab3 xbks.length cb3] 26)) (by simp only [execOp, resolve, List.map_toArray, List.map_cons, List.map_nil, Act.eval, s109, s110]; simp [go_sem, -Array.getD_eq_getD_getElem?, s109, s110]) ((Below.refl _ _).alloc (Nat.le_refl _) _) (fun W' hW' => ⟨_, rfl, (Blk.mk (heap_alloc_new _ _) : Blk _ _ _ _).below hW' (by simp), hG.now.1.res.lt⟩)
                case hG => exact fun w' hb => ⟨HVb.out.below ((Below.refl _ _).drew.trans (hb.mono (by simp))), HKa.out.below ((Below.refl _ _).drew.trans (hb.mono (by simp))), HKb.out.below ((Below.refl _ _).drew.trans (hb.mono (by simp)))⟩
                case hend =>
                  intro vs w' hG hv
                  have key : vs 1 = .int .i64 kk ∧ ∃ g, vs 4 = .slice (some ⟨g, 0, none⟩) 2 2 ∧ Blk w' g 26 [.int .i64 xak, .int .i64 xan, .slice Aa1 xams.length ca1, .slice Aa2 xans.length ca2, .slice Aa3 xaks.length ca3, .int .i64 xbk, .int .i64 xbn, .slice Ab1 xbms.length cb1, .slice Ab2 xbns.length cb2, .slice Ab3 xbks.length cb3] ∧ b6 < g := by
                    obtain ⟨_, h1, _, _, h4, _⟩ := hv
                    exact ⟨h1.now, h4.now⟩
                  obtain ⟨hvx, hka, hkb⟩ := hG.now
                  have HVX := Lib.hid hvx
                  have HKA := Lib.hid hka
                  have HKB := Lib.hid hkb
                  clear hvx hka hkb hv hG HVb HKa HKb HW
                  obtain ⟨e1, g, e4, hrow, hbg⟩ := key
                  have HR := Lib.hid hrow
                  clear hrow
                  obtain ⟨y0, y1, y2, y3, y4⟩ := blk_cells5 HVX.out.res
                  obtain ⟨z0, z1, z2, z3, z4⟩ := blk_fr5 HVX.out.res
                  have HQ := Lib.hid (set5W_blk HVX.out.res (.int .i64 kk) (.int .i64 0) (.slice none 0 0) (.slice none 0 0) (.slice (some ⟨g, 0, none⟩) 2 2))
                  have HFN := Lib.hid (HVX.out.pair2 (d := d) (i := i) (K := keepV (d + 1)) kk (XE.mk xak xan (.slice Aa1 xams.length ca1) xams (.slice Aa2 xans.length ca2) xans (.slice Aa3 xaks.length ca3) xaks) (XE.mk xbk xbn (.slice Ab1 xbms.length cb1) xbms (.slice Ab2 xbns.length cb2) xbns (.slice Ab3 xbks.length cb3) xbks) (fun g => .inr (.inr (.inl ⟨(by omega : (3 : Int) ≤ kk), (by omega : kk ≤ 16), rfl, rfl, rfl, _, _, rfl, HPa.out, HPb.out⟩))) HR.out hbg (HKA.out.s0 HSa.out.1 HSa.out.2.1) (HKB.out.s0 HSb.out.1 HSb.out.2.1) (by have := HJa.out; have := HJb.out; omega))
                  change wpList _ _ _ [_, _] (putAll vs 0 [_, _, _, _, _] _) _
                  simp only [putAll, Act.put, e1, e4]
                  clear e1 e4 HR
                  go_wp2_with fail
                  obtain ⟨q0, q1, q2, q3, q4⟩ := blk_cells5 HQ.out
                  unfold set5W at q0 q1 q2 q3 q4
                  refine bodyPost_ret (v := (pairX kk g (XE.mk xak xan (.slice Aa1 xams.length ca1) xams (.slice Aa2 xans.length ca2) xans (.slice Aa3 xaks.length ca3) xaks) (XE.mk xbk xbn (.slice Ab1 xbms.length cb1) xbms (.slice Ab2 xbns.length cb2) xbns (.slice Ab3 xbks.length cb3) xbks)).val) (by simp [XE.val, pairX, XE.kd, XE.n, XE.mv, XE.nv, XE.kv, results, Tryd.results32, go_sem, q0, q1, q2, q3, q4]) rfl ?_
                  exact HFN.out
              · --done7
                obtain ⟨c0, c1⟩ := ok_box2 HV2.out
                have HSa := Lib.hid (show w.heap.size ≤ wc.heap.size ∧ b6 < wc.heap.size ∧ b < wc.heap.size from ⟨HV2.out.gr.size, HV2.out.res.lt, HV2.out.at_.lt⟩)
                go_wp2_with fail
                (with_reducible refine (HIH.out (i + 1) _ HV2.out.ok HV2.out.at_ (by have := HI.out; omega) h0).mono ?_); rintro e wa ⟨⟨xak, xan, xamv, xams, xanv, xans, xakv, xaks⟩, ja, he, hkx, hfx, hat, hja, hg⟩
                obtain ⟨Aa1, ca1, Aa2, ca2, Aa3, ca3, e1, e2, e3⟩ := okX_forms hfx.now
                simp only [XE.mv, XE.nv, XE.kv, XE.ms, XE.ns, XE.kids] at e1 e2 e3
                subst e1; subst e2; subst e3
                have he2 : e = .returned (.agg #[.int .i64 xak, .int .i64 xan, .slice Aa1 xams.length ca1, .slice Aa2 xans.length ca2, .slice Aa3 xaks.length ca3]) := he
                subst he2
                have HVa := Lib.hid ((HV2.out.grown hg hat).alloc (.cells #[.int .i64 xak, .int .i64 xan, .slice Aa1 xams.length ca1, .slice Aa2 xans.length ca2, .slice Aa3 xaks.length ca3] 26))
                have HKa := Lib.hid (show Kid d wc.heap.size wa.heap.size (XE.mk xak xan (.slice Aa1 xams.length ca1) xams (.slice Aa2 xans.length ca2) xans (.slice Aa3 xaks.length ca3) xaks) (wa.alloc (.cells #[.int .i64 xak, .int .i64 xan, .slice Aa1 xams.length ca1, .slice Aa2 xans.length ca2, .slice Aa3 xaks.length ca3] 26)) from Kid.made hfx hg.size)
                have HPa := Lib.hid hkx
                have HJa := Lib.hid hja
                clear HV2 c0 c1 he hkx hfx hat hja hg
                go_upto_region 25 with fail
                generalize wa.alloc (.cells #[.int .i64 xak, .int .i64 xan, .slice Aa1 xams.length ca1, .slice Aa2 xans.length ca2, .slice Aa3 xaks.length ca3] 26) = Wa at *
                generalize wa.heap.size = ga at *
                obtain ⟨c0, c1⟩ := ok_box2 HVa.out
                have HSb := Lib.hid (show w.heap.size ≤ Wa.heap.size ∧ b6 < Wa.heap.size ∧ b < Wa.heap.size from ⟨HVa.out.gr.size, HVa.out.res.lt, HVa.out.at_.lt⟩)
                go_wp2_with fail
                (with_reducible refine (HNU.out ja _ HVa.out.ok HVa.out.at_ (by have := HI.out; have := HJa.out; omega) h0).mono ?_); rintro e wb ⟨⟨xbk, xbn, xbmv, xbms, xbnv, xbns, xbkv, xbks⟩, jb, he, hkx, hfx, hat, hjb, hg⟩
                obtain ⟨Ab1, cb1, Ab2, cb2, Ab3, cb3, e1, e2, e3⟩ := okX_forms hfx.now
                simp only [XE.mv, XE.nv, XE.kv, XE.ms, XE.ns, XE.kids] at e1 e2 e3
                subst e1; subst e2; subst e3
                have he2 : e = .returned (.agg #[.int .i64 xbk, .int .i64 xbn, .slice Ab1 xbms.length cb1, .slice Ab2 xbns.length cb2, .slice Ab3 xbks.length cb3]) := he
                subst he2
                have HVb := Lib.hid ((HVa.out.grown hg hat).alloc (.cells #[.int .i64 xbk, .int .i64 xbn, .slice Ab1 xbms.length cb1, .slice Ab2 xbns.length cb2, .slice Ab3 xbks.length cb3] 26))
                have HKb := Lib.hid (show Kid d Wa.heap.size wb.heap.size (XE.mk xbk xbn (.slice Ab1 xbms.length cb1) xbms (.slice Ab2 xbns.length cb2) xbns (.slice Ab3 xbks.length cb3) xbks) (wb.alloc (.cells #[.int .i64 xbk, .int .i64 xbn, .slice Ab1 xbms.length cb1, .slice Ab2 xbns.length cb2, .slice Ab3 xbks.length cb3] 26)) from Kid.made hfx hg.size)
                have HPb := Lib.hid hkx
                have HJb := Lib.hid hjb
                have HKE := Lib.hid ((HKa.out.grown hg HSa.out.2.2).below ((Below.refl wb.heap.size wb).alloc (Nat.le_refl _) (.cells #[.int .i64 xbk, .int .i64 xbn, .slice Ab1 xbms.length cb1, .slice Ab2 xbns.length cb2, .slice Ab3 xbks.length cb3] 26)))
                clear HVa c0 c1 he hkx hfx hat hjb hg HKa
                have HKa := HKE; clear HKE
                go_upto_region 26 with fail
                generalize wb.alloc (.cells #[.int .i64 xbk, .int .i64 xbn, .slice Ab1 xbms.length cb1, .slice Ab2 xbns.length cb2, .slice Ab3 xbks.length cb3] 26) = Wb at *
                generalize wb.heap.size = gb at *
                have HW := Lib.hid (fun V => within_any n 3 7 V HN.out (by omega) (by omega) (by omega))
                obtain ⟨hk1, hk2⟩ := nWithin_in n (lo := 3) (hi := 7) (by omega)
                generalize nWithin n 3 7 = kk at *
                clear HIH HNU h0
                refine wp_region_facts_tail 5 (R := fun a b => Below a.heap.size a b) (G := (fun W => VAt k B b w b3 b6 jb W ∧ Kid d wc.heap.size ga (XE.mk xak xan (.slice Aa1 xams.length ca1) xams (.slice Aa2 xans.length ca2) xans (.slice Aa3 xaks.length ca3) xaks) W ∧ Kid d Wa.heap.size gb (XE.mk xbk xbn (.slice Ab1 xbms.length cb1) xbms (.slice Ab2 xbns.length cb2) xbns (.slice Ab3 xbks.length cb3) xbks) W)) (V := fun i' u' W => match i' with | 0 => u' = .int .i64 n | 1 => u' = .int .i64 kk | 2 => u' = .agg #[.int .i64 xak, .int .i64 xan, .slice Aa1 xams.length ca1, .slice Aa2 xans.length ca2, .slice Aa3 xaks.length ca3] | 3 => u' = .agg #[.int .i64 xbk, .int .i64 xbn, .slice Ab1 xbms.length cb1, .slice Ab2 xbns.length cb2, .slice Ab3 xbks.length cb3] | 4 => ∃ g, u' = .slice (some ⟨g, 0, none⟩) 2 2 ∧ Blk W g 26 [.int .i64 xak, .int .i64 xan, .slice Aa1 xams.length ca1, .slice Aa2 xans.length ca2, .slice Aa3 xaks.length ca3, .int .i64 xbk, .int .i64 xbn, .slice Ab1 xbms.length cb1, .slice Ab2 xbns.length cb2, .slice Ab3 xbks.length cb3] ∧ b6 < g | _ => True) (by kernel_rfl) (fun w => Below.refl _ _) (fun a b c h1 h2 => h1.trans (h2.mono h1.size)) (by kernel_rfl) (by kernel_rfl) (by kernel_rfl) (by kernel_rfl) (by decide) (by kernel_rfl) ?hG ⟨?o0, ?o1, ?o2, ?o3, ?o4, trivial⟩ ?hend
                case o0 =>
                  intro a w hfr hG hd
                  refine ⟨fun hw => ?_, fun hw => absurd hw (by simp [Region.wanted])⟩
                  have s8 : a.tmps.getD 8 undef = .int .i64 n := hfr.at 8 (by kernel_rfl)
                  refine op_yields (.int .i64 n) ?_ ?_ ?_
                  · simp only [execOp, resolve, List.map_toArray, List.map_cons, List.map_nil, Act.eval, s8]; simp [go_sem, -Array.getD_eq_getD_getElem?, s8]
                  · exact Below.refl _ _
                  · exact (fun _ _ => rfl)
                case o1 =>
                  intro a w hfr hG hd
                  obtain ⟨d0, _⟩ := hd
                  refine ⟨fun hw => ?_, fun hw => absurd hw (by simp [Region.wanted])⟩
                  have s125 : a.tmps.getD 125 undef = .int .i64 n := (d0 rfl).now
                  refine op_calls2 (((HW.out w).mono (fun e' w' hh => show e' = .returned (.int .i64 kk) ∧ Below w.heap.size w w' from ⟨hh.1, hh.2 ▸ Below.refl _ _⟩)).mono fun e' w' hh => ⟨_, hh.1, hh.2, (fun _ _ => rfl)⟩) ?_
                  simp only [execOp, resolve, List.map_toArray, List.map_cons, List.map_nil, Act.eval, s125]; simp [go_sem, -Array.getD_eq_getD_getElem?, s125]
                case o2 =>
                  intro a w hfr hG hd
                  refine ⟨fun hw => ?_, fun hw => absurd hw (by simp [Region.wanted])⟩
                  have s16 : a.tmps.getD 16 undef = .pointer (some ⟨ga, 0, none⟩) := hfr.at 16 (by kernel_rfl)
                  obtain ⟨x0, x1, x2, x3, x4⟩ := blk_cells5 (show Blk w ga 26 [.int .i64 xak, .int .i64 xan, .slice Aa1 xams.length ca1, .slice Aa2 xans.length ca2, .slice Aa3 xaks.length ca3] from hG.now.2.1.blk)
                  refine op_yields (.agg #[.int .i64 xak, .int .i64 xan, .slice Aa1 xams.length ca1, .slice Aa2 xans.length ca2, .slice Aa3 xaks.length ca3]) ?_ ?_ ?_
                  · simp only [execOp, resolve, List.map_toArray, List.map_cons, List.map_nil, Act.eval, s16]; simp [go_sem, -Array.getD_eq_getD_getElem?, s16, x0, x1, x2, x3, x4]
                  · exact Below.refl _ _
                  · exact (fun _ _ => rfl)
                case o3 =>
                  intro a w hfr hG hd
                  refine ⟨fun hw => ?_, fun hw => absurd hw (by simp [Region.wanted])⟩
                  have s17 : a.tmps.getD 17 undef = .pointer (some ⟨gb, 0, none⟩) := hfr.at 17 (by kernel_rfl)
                  obtain ⟨x0, x1, x2, x3, x4⟩ := blk_cells5 (show Blk w gb 26 [.int .i64 xbk, .int .i64 xbn, .slice Ab1 xbms.length cb1, .slice Ab2 xbns.length cb2, .slice Ab3 xbks.length cb3] from hG.now.2.2.blk)
                  refine op_yields (.agg #[.int .i64 xbk, .int .i64 xbn, .slice Ab1 xbms.length cb1, .slice Ab2 xbns.length cb2, .slice Ab3 xbks.length cb3]) ?_ ?_ ?_
                  · simp only [execOp, resolve, List.map_toArray, List.map_cons, List.map_nil, Act.eval, s17]; simp [go_sem, -Array.getD_eq_getD_getElem?, s17, x0, x1, x2, x3, x4]
                  · exact Below.refl _ _
                  · exact (fun _ _ => rfl)
                case o4 =>
                  intro a w hfr hG hd
                  obtain ⟨d0, d1, _⟩ := hd
                  refine ⟨fun hw => ?_, fun hw => absurd hw (by simp [Region.wanted])⟩
                  have s127 : a.tmps.getD 127 undef = .agg #[.int .i64 xak, .int .i64 xan, .slice Aa1 xams.length ca1, .slice Aa2 xans.length ca2, .slice Aa3 xaks.length ca3] := (d0 rfl).now
                  have s128 : a.tmps.getD 128 undef = .agg #[.int .i64 xbk, .int .i64 xbn, .slice Ab1 xbms.length cb1, .slice Ab2 xbns.length cb2, .slice Ab3 xbks.length cb3] := (d1 rfl).now
                  exact op_makes (.slice (some ⟨w.heap.size, 0, none⟩) 2 2) (w' := w.alloc (.cells #[.int .i64 xak, .int .i64 xan, .slice Aa1 xams.length ca1, .slice Aa2 xans.length ca2, .slice Aa3 xaks.length ca3, .int .i64 xbk, .int .i64 xbn, .slice Ab1 xbms.length cb1, .slice Ab2 xbns.length cb2, .slice Ab3 xbks.length cb3] 26)) (by simp only [execOp, resolve, List.map_toArray, List.map_cons, List.map_nil, Act.eval, s127, s128]; simp [go_sem, -Array.getD_eq_getD_getElem?, s127, s128]) ((Below.refl _ _).alloc (Nat.le_refl _) _) (fun W' hW' => ⟨_, rfl, (Blk.mk (heap_alloc_new _ _) : Blk _ _ _ _).below hW' (by simp), hG.now.1.res.lt⟩)
                case hG => exact fun w' hb => ⟨HVb.out.below ((Below.refl _ _).drew.trans (hb.mono (by simp))), HKa.out.below ((Below.refl _ _).drew.trans (hb.mono (by simp))), HKb.out.below ((Below.refl _ _).drew.trans (hb.mono (by simp)))⟩
                case hend =>
                  intro vs w' hG hv
                  have key : vs 1 = .int .i64 kk ∧ ∃ g, vs 4 = .slice (some ⟨g, 0, none⟩) 2 2 ∧ Blk w' g 26 [.int .i64 xak, .int .i64 xan, .slice Aa1 xams.length ca1, .slice Aa2 xans.length ca2, .slice Aa3 xaks.length ca3, .int .i64 xbk, .int .i64 xbn, .slice Ab1 xbms.length cb1, .slice Ab2 xbns.length cb2, .slice Ab3 xbks.length cb3] ∧ b6 < g := by
                    obtain ⟨_, h1, _, _, h4, _⟩ := hv
                    exact ⟨h1.now, h4.now⟩
                  obtain ⟨hvx, hka, hkb⟩ := hG.now
                  have HVX := Lib.hid hvx
                  have HKA := Lib.hid hka
                  have HKB := Lib.hid hkb
                  clear hvx hka hkb hv hG HVb HKa HKb HW
                  obtain ⟨e1, g, e4, hrow, hbg⟩ := key
                  have HR := Lib.hid hrow
                  clear hrow
                  obtain ⟨y0, y1, y2, y3, y4⟩ := blk_cells5 HVX.out.res
                  obtain ⟨z0, z1, z2, z3, z4⟩ := blk_fr5 HVX.out.res
                  have HQ := Lib.hid (set5W_blk HVX.out.res (.int .i64 kk) (.int .i64 0) (.slice none 0 0) (.slice none 0 0) (.slice (some ⟨g, 0, none⟩) 2 2))
                  have HFN := Lib.hid (HVX.out.pair2 (d := d) (i := i) (K := keepV (d + 1)) kk (XE.mk xak xan (.slice Aa1 xams.length ca1) xams (.slice Aa2 xans.length ca2) xans (.slice Aa3 xaks.length ca3) xaks) (XE.mk xbk xbn (.slice Ab1 xbms.length cb1) xbms (.slice Ab2 xbns.length cb2) xbns (.slice Ab3 xbks.length cb3) xbks) (fun g => .inr (.inr (.inr (.inl ⟨hk1, hk2, rfl, rfl, rfl, _, _, rfl, HPa.out, HPb.out⟩)))) HR.out hbg (HKA.out.s0 HSa.out.1 HSa.out.2.1) (HKB.out.s0 HSb.out.1 HSb.out.2.1) (by have := HJa.out; have := HJb.out; omega))
                  change wpList _ _ _ [_, _] (putAll vs 0 [_, _, _, _, _] _) _
                  simp only [putAll, Act.put, e1, e4]
                  clear e1 e4 HR
                  go_wp2_with fail
                  obtain ⟨q0, q1, q2, q3, q4⟩ := blk_cells5 HQ.out
                  unfold set5W at q0 q1 q2 q3 q4
                  refine bodyPost_ret (v := (pairX kk g (XE.mk xak xan (.slice Aa1 xams.length ca1) xams (.slice Aa2 xans.length ca2) xans (.slice Aa3 xaks.length ca3) xaks) (XE.mk xbk xbn (.slice Ab1 xbms.length cb1) xbms (.slice Ab2 xbns.length cb2) xbns (.slice Ab3 xbks.length cb3) xbks)).val) (by simp [XE.val, pairX, XE.kd, XE.n, XE.mv, XE.nv, XE.kv, results, Tryd.results32, go_sem, q0, q1, q2, q3, q4]) rfl ?_
                  exact HFN.out
              · --done8
                obtain ⟨c0, c1⟩ := ok_box2 HV2.out
                have HSa := Lib.hid (show w.heap.size ≤ wc.heap.size ∧ b6 < wc.heap.size ∧ b < wc.heap.size from ⟨HV2.out.gr.size, HV2.out.res.lt, HV2.out.at_.lt⟩)
                go_wp2_with fail
                (with_reducible refine (HIH.out (i + 1) _ HV2.out.ok HV2.out.at_ (by have := HI.out; omega) h0).mono ?_); rintro e wa ⟨⟨xak, xan, xamv, xams, xanv, xans, xakv, xaks⟩, ja, he, hkx, hfx, hat, hja, hg⟩
                obtain ⟨Aa1, ca1, Aa2, ca2, Aa3, ca3, e1, e2, e3⟩ := okX_forms hfx.now
                simp only [XE.mv, XE.nv, XE.kv, XE.ms, XE.ns, XE.kids] at e1 e2 e3
                subst e1; subst e2; subst e3
                have he2 : e = .returned (.agg #[.int .i64 xak, .int .i64 xan, .slice Aa1 xams.length ca1, .slice Aa2 xans.length ca2, .slice Aa3 xaks.length ca3]) := he
                subst he2
                have HVa := Lib.hid ((HV2.out.grown hg hat).alloc (.cells #[.int .i64 xak, .int .i64 xan, .slice Aa1 xams.length ca1, .slice Aa2 xans.length ca2, .slice Aa3 xaks.length ca3] 26))
                have HKa := Lib.hid (show Kid d wc.heap.size wa.heap.size (XE.mk xak xan (.slice Aa1 xams.length ca1) xams (.slice Aa2 xans.length ca2) xans (.slice Aa3 xaks.length ca3) xaks) (wa.alloc (.cells #[.int .i64 xak, .int .i64 xan, .slice Aa1 xams.length ca1, .slice Aa2 xans.length ca2, .slice Aa3 xaks.length ca3] 26)) from Kid.made hfx hg.size)
                have HPa := Lib.hid hkx
                have HJa := Lib.hid hja
                clear HV2 c0 c1 he hkx hfx hat hja hg
                go_upto_region 29 with fail
                generalize wa.alloc (.cells #[.int .i64 xak, .int .i64 xan, .slice Aa1 xams.length ca1, .slice Aa2 xans.length ca2, .slice Aa3 xaks.length ca3] 26) = Wa at *
                generalize wa.heap.size = ga at *
                obtain ⟨c0, c1⟩ := ok_box2 HVa.out
                have HSb := Lib.hid (show w.heap.size ≤ Wa.heap.size ∧ b6 < Wa.heap.size ∧ b < Wa.heap.size from ⟨HVa.out.gr.size, HVa.out.res.lt, HVa.out.at_.lt⟩)
                go_wp2_with fail
                (with_reducible refine (HIH.out ja _ HVa.out.ok HVa.out.at_ (by have := HI.out; have := HJa.out; omega) h0).mono ?_); rintro e wb ⟨⟨xbk, xbn, xbmv, xbms, xbnv, xbns, xbkv, xbks⟩, jb, he, hkx, hfx, hat, hjb, hg⟩
                obtain ⟨Ab1, cb1, Ab2, cb2, Ab3, cb3, e1, e2, e3⟩ := okX_forms hfx.now
                simp only [XE.mv, XE.nv, XE.kv, XE.ms, XE.ns, XE.kids] at e1 e2 e3
                subst e1; subst e2; subst e3
                have he2 : e = .returned (.agg #[.int .i64 xbk, .int .i64 xbn, .slice Ab1 xbms.length cb1, .slice Ab2 xbns.length cb2, .slice Ab3 xbks.length cb3]) := he
                subst he2
                have HVb := Lib.hid ((HVa.out.grown hg hat).alloc (.cells #[.int .i64 xbk, .int .i64 xbn, .slice Ab1 xbms.length cb1, .slice Ab2 xbns.length cb2, .slice Ab3 xbks.length cb3] 26))
                have HKb := Lib.hid (show Kid d Wa.heap.size wb.heap.size (XE.mk xbk xbn (.slice Ab1 xbms.length cb1) xbms (.slice Ab2 xbns.length cb2) xbns (.slice Ab3 xbks.length cb3) xbks) (wb.alloc (.cells #[.int .i64 xbk, .int .i64 xbn, .slice Ab1 xbms.length cb1, .slice Ab2 xbns.length cb2, .slice Ab3 xbks.length cb3] 26)) from Kid.made hfx hg.size)
                have HPb := Lib.hid hkx
                have HJb := Lib.hid hjb
                have HKE := Lib.hid ((HKa.out.grown hg HSa.out.2.2).below ((Below.refl wb.heap.size wb).alloc (Nat.le_refl _) (.cells #[.int .i64 xbk, .int .i64 xbn, .slice Ab1 xbms.length cb1, .slice Ab2 xbns.length cb2, .slice Ab3 xbks.length cb3] 26)))
                clear HVa c0 c1 he hkx hfx hat hjb hg HKa
                have HKa := HKE; clear HKE
                go_upto_region 30 with fail
                generalize wb.alloc (.cells #[.int .i64 xbk, .int .i64 xbn, .slice Ab1 xbms.length cb1, .slice Ab2 xbns.length cb2, .slice Ab3 xbks.length cb3] 26) = Wb at *
                generalize wb.heap.size = gb at *
                have HW := Lib.hid (fun V => within_any n 3 7 V HN.out (by omega) (by omega) (by omega))
                obtain ⟨hk1, hk2⟩ := nWithin_in n (lo := 3) (hi := 7) (by omega)
                generalize nWithin n 3 7 = kk at *
                clear HIH HNU h0
                refine wp_region_facts_tail 5 (R := fun a b => Below a.heap.size a b) (G := (fun W => VAt k B b w b3 b6 jb W ∧ Kid d wc.heap.size ga (XE.mk xak xan (.slice Aa1 xams.length ca1) xams (.slice Aa2 xans.length ca2) xans (.slice Aa3 xaks.length ca3) xaks) W ∧ Kid d Wa.heap.size gb (XE.mk xbk xbn (.slice Ab1 xbms.length cb1) xbms (.slice Ab2 xbns.length cb2) xbns (.slice Ab3 xbks.length cb3) xbks) W)) (V := fun i' u' W => match i' with | 0 => u' = .int .i64 n | 1 => u' = .int .i64 kk | 2 => u' = .agg #[.int .i64 xak, .int .i64 xan, .slice Aa1 xams.length ca1, .slice Aa2 xans.length ca2, .slice Aa3 xaks.length ca3] | 3 => u' = .agg #[.int .i64 xbk, .int .i64 xbn, .slice Ab1 xbms.length cb1, .slice Ab2 xbns.length cb2, .slice Ab3 xbks.length cb3] | 4 => ∃ g, u' = .slice (some ⟨g, 0, none⟩) 2 2 ∧ Blk W g 26 [.int .i64 xak, .int .i64 xan, .slice Aa1 xams.length ca1, .slice Aa2 xans.length ca2, .slice Aa3 xaks.length ca3, .int .i64 xbk, .int .i64 xbn, .slice Ab1 xbms.length cb1, .slice Ab2 xbns.length cb2, .slice Ab3 xbks.length cb3] ∧ b6 < g | _ => True) (by kernel_rfl) (fun w => Below.refl _ _) (fun a b c h1 h2 => h1.trans (h2.mono h1.size)) (by kernel_rfl) (by kernel_rfl) (by kernel_rfl) (by kernel_rfl) (by decide) (by kernel_rfl) ?hG ⟨?o0, ?o1, ?o2, ?o3, ?o4, trivial⟩ ?hend
                case o0 =>
                  intro a w hfr hG hd
                  refine ⟨fun hw => ?_, fun hw => absurd hw (by simp [Region.wanted])⟩
                  have s8 : a.tmps.getD 8 undef = .int .i64 n := hfr.at 8 (by kernel_rfl)
                  refine op_yields (.int .i64 n) ?_ ?_ ?_
                  · simp only [execOp, resolve, List.map_toArray, List.map_cons, List.map_nil, Act.eval, s8]; simp [go_sem, -Array.getD_eq_getD_getElem?, s8]
                  · exact Below.refl _ _
                  · exact (fun _ _ => rfl)
                case o1 =>
                  intro a w hfr hG hd
                  obtain ⟨d0, _⟩ := hd
                  refine ⟨fun hw => ?_, fun hw => absurd hw (by simp [Region.wanted])⟩
                  have s143 : a.tmps.getD 143 undef = .int .i64 n := (d0 rfl).now
                  refine op_calls2 (((HW.out w).mono (fun e' w' hh => show e' = .returned (.int .i64 kk) ∧ Below w.heap.size w w' from ⟨hh.1, hh.2 ▸ Below.refl _ _⟩)).mono fun e' w' hh => ⟨_, hh.1, hh.2, (fun _ _ => rfl)⟩) ?_
                  simp only [execOp, resolve, List.map_toArray, List.map_cons, List.map_nil, Act.eval, s143]; simp [go_sem, -Array.getD_eq_getD_getElem?, s143]
                case o2 =>
                  intro a w hfr hG hd
                  refine ⟨fun hw => ?_, fun hw => absurd hw (by simp [Region.wanted])⟩
                  have s18 : a.tmps.getD 18 undef = .pointer (some ⟨ga, 0, none⟩) := hfr.at 18 (by kernel_rfl)
                  obtain ⟨x0, x1, x2, x3, x4⟩ := blk_cells5 (show Blk w ga 26 [.int .i64 xak, .int .i64 xan, .slice Aa1 xams.length ca1, .slice Aa2 xans.length ca2, .slice Aa3 xaks.length ca3] from hG.now.2.1.blk)
                  refine op_yields (.agg #[.int .i64 xak, .int .i64 xan, .slice Aa1 xams.length ca1, .slice Aa2 xans.length ca2, .slice Aa3 xaks.length ca3]) ?_ ?_ ?_
                  · simp only [execOp, resolve, List.map_toArray, List.map_cons, List.map_nil, Act.eval, s18]; simp [go_sem, -Array.getD_eq_getD_getElem?, s18, x0, x1, x2, x3, x4]
                  · exact Below.refl _ _
                  · exact (fun _ _ => rfl)
                case o3 =>
                  intro a w hfr hG hd
                  refine ⟨fun hw => ?_, fun hw => absurd hw (by simp [Region.wanted])⟩
                  have s19 : a.tmps.getD 19 undef = .pointer (some ⟨gb, 0, none⟩) := hfr.at 19 (by kernel_rfl)
                  obtain ⟨x0, x1, x2, x3, x4⟩ := blk_cells5 (show Blk w gb 26 [.int .i64 xbk, .int .i64 xbn, .slice Ab1 xbms.length cb1, .slice Ab2 xbns.length cb2, .slice Ab3 xbks.length cb3] from hG.now.2.2.blk)
                  refine op_yields (.agg #[.int .i64 xbk, .int .i64 xbn, .slice Ab1 xbms.length cb1, .slice Ab2 xbns.length cb2, .slice Ab3 xbks.length cb3]) ?_ ?_ ?_
                  · simp only [execOp, resolve, List.map_toArray, List.map_cons, List.map_nil, Act.eval, s19]; simp [go_sem, -Array.getD_eq_getD_getElem?, s19, x0, x1, x2, x3, x4]
                  · exact Below.refl _ _
                  · exact (fun _ _ => rfl)
                case o4 =>
                  intro a w hfr hG hd
                  obtain ⟨d0, d1, _⟩ := hd
                  refine ⟨fun hw => ?_, fun hw => absurd hw (by simp [Region.wanted])⟩
                  have s145 : a.tmps.getD 145 undef = .agg #[.int .i64 xak, .int .i64 xan, .slice Aa1 xams.length ca1, .slice Aa2 xans.length ca2, .slice Aa3 xaks.length ca3] := (d0 rfl).now
                  have s146 : a.tmps.getD 146 undef = .agg #[.int .i64 xbk, .int .i64 xbn, .slice Ab1 xbms.length cb1, .slice Ab2 xbns.length cb2, .slice Ab3 xbks.length cb3] := (d1 rfl).now
                  exact op_makes (.slice (some ⟨w.heap.size, 0, none⟩) 2 2) (w' := w.alloc (.cells #[.int .i64 xak, .int .i64 xan, .slice Aa1 xams.length ca1, .slice Aa2 xans.length ca2, .slice Aa3 xaks.length ca3, .int .i64 xbk, .int .i64 xbn, .slice Ab1 xbms.length cb1, .slice Ab2 xbns.length cb2, .slice Ab3 xbks.length cb3] 26)) (by simp only [execOp, resolve, List.map_toArray, List.map_cons, List.map_nil, Act.eval, s145, s146]; simp [go_sem, -Array.getD_eq_getD_getElem?, s145, s146]) ((Below.refl _ _).alloc (Nat.le_refl _) _) (fun W' hW' => ⟨_, rfl, (Blk.mk (heap_alloc_new _ _) : Blk _ _ _ _).below hW' (by simp), hG.now.1.res.lt⟩)
                case hG => exact fun w' hb => ⟨HVb.out.below ((Below.refl _ _).drew.trans (hb.mono (by simp))), HKa.out.below ((Below.refl _ _).drew.trans (hb.mono (by simp))), HKb.out.below ((Below.refl _ _).drew.trans (hb.mono (by simp)))⟩
                case hend =>
                  intro vs w' hG hv
                  have key : vs 1 = .int .i64 kk ∧ ∃ g, vs 4 = .slice (some ⟨g, 0, none⟩) 2 2 ∧ Blk w' g 26 [.int .i64 xak, .int .i64 xan, .slice Aa1 xams.length ca1, .slice Aa2 xans.length ca2, .slice Aa3 xaks.length ca3, .int .i64 xbk, .int .i64 xbn, .slice Ab1 xbms.length cb1, .slice Ab2 xbns.length cb2, .slice Ab3 xbks.length cb3] ∧ b6 < g := by
                    obtain ⟨_, h1, _, _, h4, _⟩ := hv
                    exact ⟨h1.now, h4.now⟩
                  obtain ⟨hvx, hka, hkb⟩ := hG.now
                  have HVX := Lib.hid hvx
                  have HKA := Lib.hid hka
                  have HKB := Lib.hid hkb
                  clear hvx hka hkb hv hG HVb HKa HKb HW
                  obtain ⟨e1, g, e4, hrow, hbg⟩ := key
                  have HR := Lib.hid hrow
                  clear hrow
                  obtain ⟨y0, y1, y2, y3, y4⟩ := blk_cells5 HVX.out.res
                  obtain ⟨z0, z1, z2, z3, z4⟩ := blk_fr5 HVX.out.res
                  have HQ := Lib.hid (set5W_blk HVX.out.res (.int .i64 kk) (.int .i64 0) (.slice none 0 0) (.slice none 0 0) (.slice (some ⟨g, 0, none⟩) 2 2))
                  have HFN := Lib.hid (HVX.out.pair2 (d := d) (i := i) (K := keepV (d + 1)) kk (XE.mk xak xan (.slice Aa1 xams.length ca1) xams (.slice Aa2 xans.length ca2) xans (.slice Aa3 xaks.length ca3) xaks) (XE.mk xbk xbn (.slice Ab1 xbms.length cb1) xbms (.slice Ab2 xbns.length cb2) xbns (.slice Ab3 xbks.length cb3) xbks) (fun g => .inr (.inr (.inl ⟨(by omega : (3 : Int) ≤ kk), (by omega : kk ≤ 16), rfl, rfl, rfl, _, _, rfl, HPa.out, HPb.out⟩))) HR.out hbg (HKA.out.s0 HSa.out.1 HSa.out.2.1) (HKB.out.s0 HSb.out.1 HSb.out.2.1) (by have := HJa.out; have := HJb.out; omega))
                  change wpList _ _ _ [_, _] (putAll vs 0 [_, _, _, _, _] _) _
                  simp only [putAll, Act.put, e1, e4]
                  clear e1 e4 HR
                  go_wp2_with fail
                  obtain ⟨q0, q1, q2, q3, q4⟩ := blk_cells5 HQ.out
                  unfold set5W at q0 q1 q2 q3 q4
                  refine bodyPost_ret (v := (pairX kk g (XE.mk xak xan (.slice Aa1 xams.length ca1) xams (.slice Aa2 xans.length ca2) xans (.slice Aa3 xaks.length ca3) xaks) (XE.mk xbk xbn (.slice Ab1 xbms.length cb1) xbms (.slice Ab2 xbns.length cb2) xbns (.slice Ab3 xbks.length cb3) xbks)).val) (by simp [XE.val, pairX, XE.kd, XE.n, XE.mv, XE.nv, XE.kv, results, Tryd.results32, go_sem, q0, q1, q2, q3, q4]) rfl ?_
                  exact HFN.out
              · --done9
                go_upto_region 32 with fail
                go_wp2_with fail
                (with_reducible refine (names_any _).mono ?_); rintro e wn ⟨rfl, hwn⟩
                have HBN := Lib.hid (show Below wc.heap.size wc wn by rw [← hwn]; exact (Below.refl _ _).alloc (Nat.le_refl _) _)
                have HNB := Lib.hid (show Blk wn wc.heap.size 9 (strs keepNames) by rw [← hwn]; exact Blk.mk (heap_alloc_new wc _))
                have HV5 := Lib.hid (HV2.out.below HBN.out)
                have hgb : b6 < wc.heap.size := HV2.out.res.lt
                generalize wc.heap.size = gn at *
                clear hwn HBN HV2
                go_upto_region 33 with fail
                go_loopg [20, 151] 4 (fun g x20 x151 wr => ∃ (q m : Nat) (A : Option Addr) (cx : Nat) (ns : List ByteArray), q + g = 4 ∧ x151 = .int .i64 q ∧ x20 = .slice A m cx ∧ ns.length = m ∧ m ≤ q ∧ List.Sublist ns (keepNames.take q) ∧ wr.ownsRow (gn + 1) 9 1 (.slice A m cx) m (strs ns) ∧ VAt k B b w b3 b6 (i + 1) wr ∧ Blk wr gn 9 (strs keepNames))
                case atStart => exact ⟨0, 0, none, 0, [], by omega, rfl, rfl, rfl, by omega, List.Sublist.refl _, World.ownsRow_nil _ _ _ _, HV5.out, HNB.out⟩
                case round =>
                  obtain ⟨q, m, A, cx, ns, hqg, rfl, rfl, hnl, hmq, hsub, hrow, hat, hbn⟩ := hrel
                  have HRW := Lib.hid hrow
                  have HVR := Lib.hid hat
                  have HBN := Lib.hid hbn
                  have HSU := Lib.hid hsub
                  have HNL := Lib.hid hnl
                  clear hrow hat hbn hsub hnl HV5 HNB
                  cases gk with
                  | zero =>
                    obtain rfl : q = 4 := by omega
                    have HNS := Lib.hid (show keepNs ns from HSU.out)
                    have hsz := HVR.out.gr.size
                    have HVL := Lib.hid HVR.out.lt
                    have hgl := HBN.out.lt
                    have HFN := Lib.hid (show FarS (fun c => c ≤ gn) (fun W => Slc W 1 (.slice A m cx) m (strs ns)) wr from FarS.own HRW.out (fun g hg e => by have := (HRW.out.lt g hg).1; omega))
                    clear HRW HSU HBN hsz
                    obtain ⟨q16, hq16⟩ : ∃ q, n.tdiv 16 = q := ⟨_, rfl⟩
                    have hi16 : I64 q16 := by rw [← hq16]; exact I64_tdiv HN.out (by decide)
                    obtain ⟨hk1, hk2⟩ := nWithin_in q16 (lo := 17) (hi := 20) (by omega)
                    have HW := Lib.hid (fun V => within_any q16 17 20 V hi16 (by omega) (by omega) (by omega))
                    generalize nWithin q16 17 20 = kk at *
                    have w16 : IntKind.i64.wrap q16 = q16 := by unfold I64 at hi16; rw [IntKind.wrap_i64]; omega
                    have h16 : (4 : Int) ≤ ((4 : Nat) : Int) := by omega
                    have hde : IntKind.i64.wrap ((deep : Int) + 1) = (deep : Int) + 1 := by rw [IntKind.wrap_i64]; omega
                    go_upto_region 38 with fail
                    have HDS := Lib.hid (HIH.out (i + 1) wr.drew HVR.out.drew.ok HVR.out.drew.at_ (by have := HI.out; omega) h0)
                    have HDL := Lib.hid (show w.heap.size ≤ wr.drew.heap.size ∧ b6 < wr.drew.heap.size from ⟨HVR.out.gr.size, HVR.out.res.lt⟩)
                    have Z := Lib.hid HVR.out.drew
                    have ZF := Lib.hid (show FarS (fun c => c ≤ gn) (fun W => Slc W 1 (.slice A m cx) m (strs ns)) wr.drew from HFN.out.below (Below.refl _ _).drew)
                    have tok1 : True := trivial
                    have tok2 : True := trivial
                    obtain ⟨c0, c1⟩ := ok_box2 HVR.out
                    clear HVR HFN HIH HNU h0
                    go_region_law (first
                      | (have tk := tok1; (try go_simp); go_at_call 20; (with_reducible refine (HW.out _).mono ?_); rintro e wz ⟨rfl, rfl⟩; clear tok1 tk HW)
                      | (have tk := tok2; (try go_simp); go_at_call 32; (with_reducible refine HDS.out.mono ?_); rintro e wq ⟨⟨xk, xn, xmv, xms, xnv, xns, xkv, xks⟩, j, he, hkx, hfx, hatq, hjq, hgq⟩; obtain ⟨A1, c1, A2, c2, A3, c3, e1, e2, e3⟩ := okX_forms hfx.now; simp only [XE.mv, XE.nv, XE.kv, XE.ms, XE.ns, XE.kids] at e1 e2 e3; subst e1; subst e2; subst e3; have he2 : e = .returned (.agg #[.int .i64 xk, .int .i64 xn, .slice A1 xms.length c1, .slice A2 xns.length c2, .slice A3 xks.length c3]) := he; subst he2; have HKX := Lib.hid hkx; have HFX := Lib.hid hfx; have HJ := Lib.hid hjq; have Z_n := Lib.hid (Z.out.grown hgq hatq); have ZF_n := Lib.hid (ZF.out.grown hgq (fun g hg => by injection hg with hg; have := HVL.out; omega)); clear Z ZF he hkx hfx hjq hatq hgq HDS tok2 tk; have Z := Z_n; have ZF := ZF_n; clear Z_n ZF_n; obtain ⟨y0, y1, y2, y3, y4⟩ := blk_cells5 (Z.out.alloc (.cells #[.int .i64 xk, .int .i64 xn, .slice A1 xms.length c1, .slice A2 xns.length c2, .slice A3 xks.length c3] 26)).res; obtain ⟨z0, z1, z2, z3, z4⟩ := blk_fr5 (Z.out.alloc (.cells #[.int .i64 xk, .int .i64 xn, .slice A1 xms.length c1, .slice A2 xns.length c2, .slice A3 xks.length c3] 26)).res)
                      | fail)
                    all_goals
                      have HQ := Lib.hid (set5W_blk (Z.out.alloc (.cells #[.int .i64 xk, .int .i64 xn, .slice A1 xms.length c1, .slice A2 xns.length c2, .slice A3 xks.length c3] 26)).res (.int .i64 kk) (.int .i64 0) (.slice none 0 0) (.slice A m cx) (.slice (some ⟨wq.heap.size, 0, none⟩) 1 1))
                      have HFN := Lib.hid (Z.out.one (d := d) (i := i) (K := keepV (d + 1)) kk (.mk xk xn (.slice A1 xms.length c1) xms (.slice A2 xns.length c2) xns (.slice A3 xks.length c3) xks) (nv := .slice A m cx) (ns := ns) (fun g => .inr (.inr (.inr (.inr ⟨hk1, hk2, rfl, rfl, HNS.out, _, rfl, HKX.out⟩)))) (by rw [HNL.out]; exact ZF.out.mono (fun c _ hc => by have := HVL.out; rcases hc with hc | hc <;> omega)) (HFX.out.mono (fun c _ hc => by have := HDL.out; rcases hc with hc | hc <;> omega)) (by have := HJ.out; have := HP.out; omega))
                      go_wp2_with fail
                      obtain ⟨q0, q1, q2, q3, q4⟩ := blk_cells5 HQ.out
                      unfold set5W at q0 q1 q2 q3 q4
                      refine bodyPost_ret (v := (oneX kk wq.heap.size (.slice A m cx) ns (.mk xk xn (.slice A1 xms.length c1) xms (.slice A2 xns.length c2) xns (.slice A3 xks.length c3) xks)).val) (by simp [XE.val, oneX, XE.kd, XE.n, XE.mv, XE.nv, XE.kv, results, Tryd.results32, go_sem, q0, q1, q2, q3, q4]) rfl ?_
                      exact HFN.out
                  | succ g =>
                    have hq4 : q < 4 := by omega
                    have hq4i : (q : Int) < 4 := by omega
                    have hq0 : (0 : Int) ≤ q := by omega
                    obtain ⟨nm, hnm⟩ : ∃ nm, keepNames[q]? = some nm := ⟨_, List.getElem?_eq_getElem (show q < keepNames.length from hq4)⟩
                    have e0 : wr.cell? ⟨gn, q, none⟩ = some (.string nm) := by
                      rw [HBN.out.cell q]
                      unfold strs
                      rw [List.getElem?_map, hnm]; rfl
                    have HNM := Lib.hid hnm
                    clear hnm
                    have HTK := Lib.hid (show keepNames.take (q + 1) = keepNames.take q ++ [nm] by rw [List.take_add_one, HNM.out]; rfl)
                    obtain ⟨gb, hgb⟩ : ∃ gb, (bits BinOp.and IntKind.i64 (n / 2 ^ q) 1 == 1) = gb := ⟨_, rfl⟩
                    cases gb with
                    | false =>
                      have HS2 := Lib.hid (show List.Sublist ns (keepNames.take (q + 1)) by rw [HTK.out]; exact HSU.out.trans (List.sublist_append_left _ _))
                      go_wp2_with fail
                      go_roundg g
                      case measure => omega
                      case rel => exact ⟨q + 1, m, A, cx, ns, by omega, by go_num, rfl, HNL.out, by omega, HS2.out, HRW.out, HVR.out, HBN.out⟩
                    | true =>
                      have HS2 := Lib.hid (show List.Sublist (ns ++ [nm]) (keepNames.take (q + 1)) by rw [HTK.out]; exact HSU.out.append (List.Sublist.refl _))
                      obtain ⟨i0, hi0, hz0, hz1, hz2⟩ := info_parts Tryd.infoStr5
                      have HRA := Lib.hid (own_below HRW.out ((Below.refl wr.heap.size wr).alloc (Nat.le_refl _) (.cells #[.string nm] 9)) (Nat.le_refl _))
                      have HVA := Lib.hid (HVR.out.alloc (.cells #[.string nm] 9))
                      have HBA := Lib.hid (HBN.out.alloc (.cells #[.string nm] 9))
                      have HX := Lib.hid (show Sees (wr.alloc (.cells #[.string nm] 9)) (wr.alloc (.cells #[.string nm] 9)).heap.size 1 (some ⟨wr.heap.size, 0, none⟩) 1 [.string nm] from (Blk.mk (heap_alloc_new wr _) : Blk _ wr.heap.size 9 [.string nm]).sees rfl (List.prefix_refl _))
                      have hbs : gn + 1 ≤ (wr.alloc (.cells #[.string nm] 9)).heap.size := Nat.succ_le_of_lt HBA.out.lt
                      have hxg : ∀ g, (Value.slice A m cx).ownBlock = some g → gn + 1 ≤ g := fun g hg => (HRW.out.lt g hg).1
                      have HXG := Lib.hid hxg
                      clear HRW HVR HBN HSU HNM HTK hxg
                      go_wp2_with (at_builtin; refine wpList_append_at rfl (.tmp 161) (.tmp 163) 23 rfl (gn + 1) 9 i0 (.string ⟨#[]⟩) 1 16 Tryd.underlying23 hi0 hz0 hz1 hz2 rfl (by decide) (.slice A m cx) m (strs ns) rfl HRA.out _ _ 1 1 [.string nm] rfl HX.out (by simp [Value.oneCell']) (by unfold maxLen; omega) (by omega) hbs ?_)
                      intro v3 w3 hown3 hgr3 hwh3
                      obtain ⟨A3, c3, rfl, _, _⟩ := own_slice hown3
                      have HO3 := Lib.hid (show w3.ownsRow (gn + 1) 9 1 (.slice A3 (m + 1) c3) (m + 1) (strs (ns ++ [nm])) by unfold strs at hown3 ⊢; rw [List.map_append]; exact hown3)
                      have HV3 := Lib.hid (HVA.out.farRow hgr3 (fun g hg => by have := HXG.out g hg; omega))
                      have HB3 := Lib.hid (HBA.out.grown hgr3 (fun e => by have := HXG.out gn e.symm; omega))
                      have HL3 := Lib.hid (show (ns ++ [nm]).length = m + 1 by rw [List.length_append, HNL.out]; rfl)
                      clear hown3 hgr3 hwh3 HRA HVA HBA HX HNL
                      go_wp2_with fail
                      go_roundg g
                      case measure => omega
                      case rel => exact ⟨q + 1, m + 1, A3, c3, ns ++ [nm], by omega, by go_num, rfl, HL3.out, by omega, HS2.out, HO3.out, HV3.out, HB3.out⟩
theorem vector_any (k : KSet) (b B : Nat) (hB : B ≤ b) (d : Nat) (hd : 0 < d) : VecSaid k b B d := by
  induction d with
  | zero => omega
  | succ d ih => exact vector_step k b B hB d ih
end Go.Proofs.YtnkbpcenkbihpaaDoor

namespace Go.Proofs.YtnkbpcenkbihpaaDoor
open Go.ChangeShapes Go.WideShapes Go.ChangeAt Go.RowKit
set_option linter.unusedVariables false
set_option linter.unusedSimpArgs false
set_option maxRecDepth 100000
theorem vector_v (k : KSet) (b B i d : Nat) (w : World) (hB : B ≤ b) (hd : d = 5) (hk : k.ok B w) (hb : Blk w b 3 [.int .i64 (i : Nat)]) (hi : i ≤ 900) :
    Calls Tryd.prog 32 #[.agg #[.slice k.A k.n k.c, .slice k.A2 k.n2 k.c2], .pointer (some ⟨b, 0, none⟩), .int .i64 0] w (VecAns 5 b i (keepV 5) w) :=
  vector_any k b B hB 5 (by omega) 0 i w rfl hk hb (by omega) (by omega)
/-- What Expr answers. -/
def ExprAns (w : World) (e : Ending) (w' : World) : Prop := ∃ x : XE, e = .returned x.val ∧ keepV 5 x ∧ okX 5 x w' ∧ Below w.heap.size w w'
set_option maxHeartbeats 2000000 in
theorem expr_any (k : KSet) (w : World) (hk : k.ok w.heap.size w) : Calls Tryd.prog 13 #[k.val] w (ExprAns w) := by
  obtain ⟨W1, hW1⟩ : ∃ W, ((w.alloc (.cells #[.slice k.A k.n k.c, .slice k.A2 k.n2 k.c2] 35)).alloc (.cells #[.int .i64 0, .int .i64 0, .slice none 0 0, .slice none 0 0, .slice none 0 0] 26)).alloc (.cells #[.int .i64 0] 3) = W := ⟨_, rfl⟩
  have hs1 : (w.alloc (.cells #[.slice k.A k.n k.c, .slice k.A2 k.n2 k.c2] 35)).heap.size = w.heap.size + 1 := by simp
  have hs2 : ((w.alloc (.cells #[.slice k.A k.n k.c, .slice k.A2 k.n2 k.c2] 35)).alloc (.cells #[.int .i64 0, .int .i64 0, .slice none 0 0, .slice none 0 0, .slice none 0 0] 26)).heap.size = w.heap.size + 2 := by simp
  have HBL := Lib.hid (show Below w.heap.size w W1 by rw [← hW1]; exact (((Below.refl _ w).alloc (Nat.le_refl _) _).alloc (by omega) _).alloc (by omega) _)
  have HB1 := Lib.hid (show Blk W1 w.heap.size 35 [.slice k.A k.n k.c, .slice k.A2 k.n2 k.c2] by rw [← hW1]; exact ((Blk.mk (heap_alloc_new w (.cells #[.slice k.A k.n k.c, .slice k.A2 k.n2 k.c2] 35))).alloc _).alloc _)
  have HB2 := Lib.hid (show Blk W1 (w.heap.size + 1) 26 [.int .i64 0, .int .i64 0, .slice none 0 0, .slice none 0 0, .slice none 0 0] by
    rw [← hW1]
    have h := heap_alloc_new (w.alloc (.cells #[.slice k.A k.n k.c, .slice k.A2 k.n2 k.c2] 35)) (.cells #[.int .i64 0, .int .i64 0, .slice none 0 0, .slice none 0 0, .slice none 0 0] 26)
    rw [hs1] at h
    exact (Blk.mk h).alloc _)
  have HB3 := Lib.hid (show Blk W1 (w.heap.size + 1 + 1) 3 [.int .i64 ((0 : Nat) : Int)] by
    rw [← hW1]
    have h := heap_alloc_new ((w.alloc (.cells #[.slice k.A k.n k.c, .slice k.A2 k.n2 k.c2] 35)).alloc (.cells #[.int .i64 0, .int .i64 0, .slice none 0 0, .slice none 0 0, .slice none 0 0] 26)) (.cells #[.int .i64 0] 3)
    rw [hs2] at h
    exact Blk.mk h)
  have HK := Lib.hid (hk.below HBL.out)
  have HW1 := Lib.hid hW1
  have HV := Lib.hid (vector_v k (w.heap.size + 1 + 1) w.heap.size 0 5 W1 (by omega) rfl HK.out HB3.out (by omega))
  clear hW1 hs1 hs2 hk
  show Calls _ _ #[.agg #[.slice k.A k.n k.c, .slice k.A2 k.n2 k.c2]] _ _
  go_enter Tryd.func13, Tryd.ntmps13
  go_upto_region 2 with fail
  rw [HW1.out]
  have c0 := HB1.out.cell 0
  have c1 := HB1.out.cell 1
  simp only [List.getElem?_cons_zero, List.getElem?_cons_succ] at c0 c1
  generalize hb : w.heap.size + 1 + 1 = b at *
  have HBB := Lib.hid (show w.heap.size < b by omega)
  have HBE := Lib.hid (show w.heap.size + 1 < b by omega)
  clear hb
  generalize hb2 : w.heap.size + 1 = b2 at *
  have HB2E := Lib.hid hb2
  generalize hb1 : w.heap.size = b1 at *
  have HB1E := Lib.hid hb1
  have hbb : b1 < b2 := by omega
  clear hb2 hb1
  go_wp2_with fail
  (with_reducible refine HV.out.mono ?_); rintro e wq ⟨⟨xk, xn, xmv, xms, xnv, xns, xkv, xks⟩, j, he, hkx, hfx, hatq, hjq, hgq⟩
  obtain ⟨A1, c1', A2, c2, A3, c3, e1, e2, e3⟩ := okX_forms hfx.now
  simp only [XE.mv, XE.nv, XE.kv, XE.ms, XE.ns, XE.kids] at e1 e2 e3
  subst e1; subst e2; subst e3
  have he2 : e = .returned (.agg #[.int .i64 xk, .int .i64 xn, .slice A1 xms.length c1', .slice A2 xns.length c2, .slice A3 xks.length c3]) := he
  subst he2
  have hbl := HB3.out.lt
  have hs1 : b1 ≤ W1.heap.size := by have := HB2.out.lt; omega
  have HBQ := Lib.hid (HBL.out.grown hgq hs1 (fun g hg => by injection hg with hg; have := HBB.out; have := HB1E.out; omega))
  have hne : b2 < W1.heap.size := HB2.out.lt
  have HR := Lib.hid (show Blk wq b2 26 [.int .i64 0, .int .i64 0, .slice none 0 0, .slice none 0 0, .slice none 0 0] from HB2.out.grown hgq (fun e => by injection e with e; have := HBB.out; have := HB2E.out; have := HBE.out; omega))
  have HQ := Lib.hid (set5W_blk HR.out (.int .i64 xk) (.int .i64 xn) (.slice A1 xms.length c1') (.slice A2 xns.length c2) (.slice A3 xks.length c3))
  have HFX := Lib.hid ((hfx.grown (set5W_grown wq b2 (.int .i64 xk) (.int .i64 xn) (.slice A1 xms.length c1') (.slice A2 xns.length c2) (.slice A3 xks.length c3)) (fun c e => by injection e with e; omega)).now)
  have HBZ := Lib.hid (show Below w.heap.size w (set5W wq b2 (.int .i64 xk) (.int .i64 xn) (.slice A1 xms.length c1') (.slice A2 xns.length c2) (.slice A3 xks.length c3)) from by
    rw [HB1E.out]
    have h2 : b1 ≤ b2 := by omega
    exact ((((HBQ.out.setCell (p := ⟨b2, 0, none⟩) h2 _).setCell (p := ⟨b2, 1, none⟩) h2 _).setCell (p := ⟨b2, 2, none⟩) h2 _).setCell (p := ⟨b2, 3, none⟩) h2 _).setCell (p := ⟨b2, 4, none⟩) h2 _)
  have HKX := Lib.hid hkx
  obtain ⟨y0, y1, y2, y3, y4⟩ := blk_cells5 HR.out
  obtain ⟨z0, z1, z2, z3, z4⟩ := blk_fr5 HR.out
  clear he hkx hfx hatq hjq hgq hs1 hbl hne
  go_wp2_with fail
  obtain ⟨q0, q1, q2, q3, q4⟩ := blk_cells5 HQ.out
  unfold set5W at q0 q1 q2 q3 q4
  refine bodyPost_ret (v := (XE.mk xk xn (.slice A1 xms.length c1') xms (.slice A2 xns.length c2) xns (.slice A3 xks.length c3) xks).val) (by simp [XE.val, XE.kd, XE.n, XE.mv, XE.nv, XE.kv, results, Tryd.results13, go_sem, q0, q1, q2, q3, q4]) rfl ?_
  exact ⟨_, rfl, HKX.out, HFX.out, HBZ.out⟩
end Go.Proofs.YtnkbpcenkbihpaaDoor

namespace Go.Proofs.YtnkbpcenkbihpaaDoor
open Go.ChangeShapes Go.WideShapes Go.ChangeAt Go.RowKit
set_option linter.unusedVariables false
set_option linter.unusedSimpArgs false
set_option maxRecDepth 100000
/-- Within pick: both boxes, the matchers so far. -/
structure PkAt (b : Nat) (A : Option Addr) (n c : Nat) (ts : List Tok) (en : Int) (s : PS) (w0 : World) (g2 g3 : Nat) (z : Int) (v : Value) (ms : List Mtc) (w : World) : Prop where
  rd : RdAt b A n c ts en s w
  only : Only b w0 w
  z_ : Blk w g2 26 [.int .i64 0, .int .i64 0, .slice none 0 0, .slice none 0 0, .slice none 0 0]
  x : Blk w g3 26 [.int .i64 2, .int .i64 z, v, .slice none 0 0, .slice none 0 0]
  row : w.ownsRow w0.heap.size 54 3 v ms.length (mtcs ms)
  ne : ∀ g, v.ownBlock = some g → g3 < g
  l2 : w0.heap.size ≤ g2
  l3 : g2 < g3
  lb : b < w0.heap.size
section
variable {b n c g2 g3 : Nat} {A : Option Addr} {ts : List Tok} {en : Int} {s s' : PS} {w0 w w' : World} {v v' : Value} {ms : List Mtc} {z : Int}
theorem PkAt.moved (h : PkAt b A n c ts en s w0 g2 g3 z v ms w) (hm : Moved b A n c ts en s' w w') : PkAt b A n c ts en s' w0 g2 g3 z v ms w' := by
  have h2 := h.l2; have h3 := h.l3; have hb := h.lb
  refine ⟨hm.rd, h.only.trans hm.only, h.z_.only hm.only (by omega), h.x.only hm.only (by omega), own_grown h.row hm.only.grown (fun g hg e => ?_), h.ne, h2, h3, hb⟩
  have := (h.row.lt g hg).1
  injection e with e; omega
theorem PkAt.below (h : PkAt b A n c ts en s w0 g2 g3 z v ms w) (hb : Below w.heap.size w w') : PkAt b A n c ts en s w0 g2 g3 z v ms w' := h.moved ⟨h.rd.below hb, Only.of_below hb⟩
/-- The matchers grown, and laid into the box. -/
theorem PkAt.push (h : PkAt b A n c ts en s w0 g2 g3 z v ms w) (h0 : RdAt b A n c ts en s' w0) {m : Mtc} (hown : w'.ownsRow w0.heap.size 54 3 v' (ms.length + 1) (mtcs ms ++ [.string m.1, .string m.2.1, .int .i64 m.2.2])) (hg : w.grownBy w' v.ownBlock) (hw : Where w v v') :
    PkAt b A n c ts en s w0 g2 g3 z v' (ms ++ [m]) (w'.setCell ⟨g3, 2, none⟩ v') := by
  have h2 := h.l2; have h3 := h.l3; have hb := h.lb
  have hr : ∀ g, v.ownBlock = some g → w0.heap.size ≤ g := fun g hg => (h.row.lt g hg).1
  have ho := h.only.of_grown hg hr
  have ho2 := ho.setNew (g := g3) (by omega) 2 v'
  have hne : ∀ g, v'.ownBlock = some g → g3 < g := fun g hg2 => by
    rcases hw with hw | hw
    · exact h.ne g (hw ▸ hg2)
    · have := hw g hg2; have := h.x.lt; omega
  have hbk : Blk w' b 84 [.slice A n c, .int .i64 s.p, .int .i64 en, .int .i64 s.fa, .int .i64 s.fe] := h.rd.blk.grown hg (fun e => by have := hr b e.symm; omega)
  refine ⟨h0.of (hbk.far (p := ⟨g3, 2, none⟩) (show b ≠ g3 by omega) _) ho2 h.rd.le, ho2, ?_, ?_, ?_, hne, h2, h3, hb⟩
  · exact (h.z_.grown hg (fun e => by have := h.ne g2 e.symm; omega)).far (p := ⟨g3, 2, none⟩) (show g2 ≠ g3 by omega) _
  · exact (h.x.grown hg (fun e => by have := h.ne g3 e.symm; omega)).set 2 v'
  · have e : mtcs (ms ++ [m]) = mtcs ms ++ [.string m.1, .string m.2.1, .int .i64 m.2.2] := by rw [mtcs_append]; rfl
    rw [List.length_append, e]
    exact own_grown hown (only_setCell (World.grownBy.refl w' (some g3)) (p := ⟨g3, 2, none⟩) (.inl rfl) v') (fun g hg2 e => by have := hne g hg2; injection e with e; omega)
theorem PkAt.num (h : PkAt b A n c ts en s w0 g2 g3 z v ms w) (h0 : RdAt b A n c ts en s' w0) (y : Int) : PkAt b A n c ts en s w0 g2 g3 y v ms (w.setCell ⟨g3, 1, none⟩ (.int .i64 y)) := by
  have h2 := h.l2; have h3 := h.l3; have hb := h.lb
  have ho2 := h.only.setNew (g := g3) (by omega) 1 (.int .i64 y)
  exact ⟨h0.of (h.rd.blk.far (p := ⟨g3, 1, none⟩) (show b ≠ g3 by omega) _) ho2 h.rd.le, ho2, h.z_.far (p := ⟨g3, 1, none⟩) (show g2 ≠ g3 by omega) _, h.x.set 1 _, own_grown h.row (only_setCell (World.grownBy.refl w (some g3)) (p := ⟨g3, 1, none⟩) (.inl rfl) _) (fun g hg2 e => by have := h.ne g hg2; injection e with e; omega), h.ne, h2, h3, hb⟩
end
theorem round_left {ts : List Tok} {en : Int} {s : PS} {n : Nat} (hl : ts.length = n) (hp : s.p ≤ n) (hf : s.fe = 0) (q : Bool) : (matcherF ts en (if q = true then s else mustF ts en s 4 ⟨#[44]⟩)).2.p ≤ n ∧ leftF n (matcherF ts en (if q = true then s else mustF ts en s 4 ⟨#[44]⟩)).2 < leftF n s := by
  cases q with
  | true =>
    rw [if_pos rfl]
    have h := step_matcher (en := en) hl hp
    exact ⟨h.1.1, h.2 hf⟩
  | false =>
    rw [if_neg (by simp)]
    have h1 := step_must (en := en) hl hp (kd := 4) (by decide) ⟨#[44]⟩
    have h := step_matcher (en := en) hl h1.1
    refine ⟨h.1.1, Nat.lt_of_le_of_lt h.1.2 ?_⟩
    unfold mustF
    by_cases hq : isF ts s 4 ⟨#[44]⟩ = true
    · rw [if_pos hq]
      exact leftF_next n s hf (by have := (isF_lt (by decide) hq).2; omega)
    · rw [if_neg hq, leftF_fail ts en s n 1 (by decide) hp]
      have := leftF_zero n s hf hp
      omega
def readPickF (ts : List Tok) (en : Int) (n : Nat) (s : PS) : (List Mtc × Int) × PS :=
  let r := msF ts en (n + 2) [] (mustF ts en s 4 ⟨#[123]⟩)
  let t := takeF ts en (mustF ts en r.2 4 ⟨#[91]⟩) 1
  ((r.1, t.1.n), mustF ts en t.2 4 ⟨#[93]⟩)
end Go.Proofs.YtnkbpcenkbihpaaDoor

namespace Go.Proofs.YtnkbpcenkbihpaaDoor
open Go.ChangeShapes Go.WideShapes Go.ChangeAt Go.RowKit
set_option linter.unusedVariables false
set_option linter.unusedSimpArgs false
set_option maxRecDepth 100000
/-- An expression as it is read: with no word of memory. -/
inductive PE where
  | mk (kd n : Int) (ms : List Mtc) (ns : List ByteArray) (kids : List PE)
mutual
def XE.pe : XE → PE
  | .mk k n _ ms _ ns _ ks => .mk k n ms ns (pesX ks)
def pesX : List XE → List PE
  | [] => []
  | x :: l => x.pe :: pesX l
end
/-- A reader's answer that is an expression: it lies in memory made since. -/
def XAns (b : Nat) (A : Option Addr) (n c : Nat) (ts : List Tok) (en : Int) (d : Nat) (r : PE × PS) (w : World) (e : Ending) (w' : World) : Prop :=
  ∃ x : XE, x.pe = r.1 ∧ e = .returned x.val ∧ FarS (fun q => q < w.heap.size) (okX d x) w' ∧ Moved b A n c ts en r.2 w w'
theorem okX_floors {w : World} {d : Nat} {x : XE} (h : okX d x w) (k : Nat) : okX (d + k) x w := by
  induction k with
  | zero => exact h
  | succ k ih => exact okX_more _ _ ih
theorem XAns.floors {b n c d : Nat} {A : Option Addr} {ts : List Tok} {en : Int} {r : PE × PS} {w w' : World} {e : Ending} (h : XAns b A n c ts en d r w e w') (k : Nat) : XAns b A n c ts en (d + k) r w e w' := by
  obtain ⟨x, h1, h2, h3, h4⟩ := h
  exact ⟨x, h1, h2, fun V hs hk => okX_floors (h3 V hs hk) k, h4⟩
theorem XAns.forms {b n c d : Nat} {A : Option Addr} {ts : List Tok} {en : Int} {r : PE × PS} {w w' : World} {e : Ending} (h : XAns b A n c ts en d r w e w') :
    ∃ (xk xn : Int) (A1 : Option Addr) (c1 : Nat) (ms : List Mtc) (A2 : Option Addr) (c2 : Nat) (ns : List ByteArray) (A3 : Option Addr) (c3 : Nat) (ks : List XE),
      e = .returned (.agg #[.int .i64 xk, .int .i64 xn, .slice A1 ms.length c1, .slice A2 ns.length c2, .slice A3 ks.length c3]) ∧
      (XE.mk xk xn (.slice A1 ms.length c1) ms (.slice A2 ns.length c2) ns (.slice A3 ks.length c3) ks).pe = r.1 ∧
      FarS (fun q => q < w.heap.size) (okX d (.mk xk xn (.slice A1 ms.length c1) ms (.slice A2 ns.length c2) ns (.slice A3 ks.length c3) ks)) w' ∧ Moved b A n c ts en r.2 w w' := by
  obtain ⟨⟨xk, xn, xmv, xms, xnv, xns, xkv, xks⟩, h1, h2, h3, h4⟩ := h
  obtain ⟨A1, c1, A2, c2, A3, c3, e1, e2, e3⟩ := okX_forms h3.now
  simp only [XE.mv, XE.nv, XE.kv, XE.ms, XE.ns, XE.kids] at e1 e2 e3
  subst e1; subst e2; subst e3
  exact ⟨xk, xn, A1, c1, xms, A2, c2, xns, A3, c3, xks, h2, h1, h3, h4⟩
def pickR (ts : List Tok) (en : Int) (n : Nat) (s : PS) : PE × PS := (.mk 2 (readPickF ts en n s).1.2 (readPickF ts en n s).1.1 [] [], (readPickF ts en n s).2)
theorem PkAt.ans {b n c g2 g3 : Nat} {A : Option Addr} {ts : List Tok} {en : Int} {s s' : PS} {w0 w : World} {v : Value} {ms : List Mtc} {z : Int} (h : PkAt b A n c ts en s w0 g2 g3 z v ms w) (h0 : RdAt b A n c ts en s' w0) :
    XAns b A n c ts en 1 (.mk 2 z ms [] [], s) w0 (.returned (.agg #[.int .i64 2, .int .i64 z, v, .slice none 0 0, .slice none 0 0])) (set5W w g2 (.int .i64 2) (.int .i64 z) v (.slice none 0 0) (.slice none 0 0)) := by
  have h2 := h.l2; have h3 := h.l3; have hb := h.lb
  have hbg : b ≠ g2 := by omega
  have hg := set5W_grown w g2 (.int .i64 2) (.int .i64 z) v (.slice none 0 0) (.slice none 0 0)
  have ho : Only b w0 (set5W w g2 (.int .i64 2) (.int .i64 z) v (.slice none 0 0) (.slice none 0 0)) := h.only.of_grown hg (fun g e => by injection e with e; omega)
  have hrow := own_grown h.row hg (fun g hg2 e => by have := h.ne g hg2; injection e with e; omega)
  refine ⟨.mk 2 z v ms (.slice none 0 0) [] (.slice none 0 0) [], rfl, rfl, okX_far (FarS.own hrow (fun g hg2 e => by have := (hrow.lt g hg2).1; omega)) (FarS.nil 1) (FarS.nil 5) (fun x hx => absurd hx List.not_mem_nil), h0.of (h.rd.blk.grown hg (fun e => by injection e with e; omega)) ho h.rd.le, ho⟩
set_option maxHeartbeats 4000000 in
theorem pick_x (b : Nat) (A : Option Addr) (n c : Nat) (ts : List Tok) (en : Int) (s : PS) (w : World) (h : RdAt b A n c ts en s w) (hn : n ≤ 1000000) :
    Calls Tryd.prog 71 #[.pointer (some ⟨b, 0, none⟩)] w fun e w' => XAns b A n c ts en 1 (pickR ts en n s) w e w' := by
  unfold pickR
  have HR0 := Lib.hid h
  have HLEN := Lib.hid h.len
  have hbw : b < w.heap.size := h.blk.lt
  obtain ⟨i0, hi0, hz0, hz1, hz2⟩ := info_parts Tryd.infoMtc5
  have HMU := Lib.hid (must_any b A n c ts en s 4 ⟨#[123]⟩ ((w.alloc (.cells #[.int .i64 0, .int .i64 0, .slice none 0 0, .slice none 0 0, .slice none 0 0] 26)).alloc (.cells #[.int .i64 2, .int .i64 0, .slice none 0 0, .slice none 0 0, .slice none 0 0] 26)) ((h.alloc _).alloc _) (by decide) hn)
  have HP0 : Hid (PkAt b A n c ts en s w w.heap.size (w.heap.size + 1) 0 (.slice none 0 0) [] ((w.alloc (.cells #[.int .i64 0, .int .i64 0, .slice none 0 0, .slice none 0 0, .slice none 0 0] 26)).alloc (.cells #[.int .i64 2, .int .i64 0, .slice none 0 0, .slice none 0 0, .slice none 0 0] 26))) := Lib.hid ⟨(h.alloc _).alloc _, ((Only.of_below (Below.refl w.heap.size w)).alloc _).alloc _, (Blk.mk (heap_alloc_new w _)).alloc _, by have hh := (Blk.mk (heap_alloc_new (w.alloc (.cells #[.int .i64 0, .int .i64 0, .slice none 0 0, .slice none 0 0, .slice none 0 0] 26)) (.cells #[.int .i64 2, .int .i64 0, .slice none 0 0, .slice none 0 0, .slice none 0 0] 26)) : Blk _ (w.alloc (.cells #[.int .i64 0, .int .i64 0, .slice none 0 0, .slice none 0 0, .slice none 0 0] 26)).heap.size 26 [.int .i64 2, .int .i64 0, .slice none 0 0, .slice none 0 0, .slice none 0 0]); simpa using hh, own_nil _ _ _ _, (fun g hg => by cases hg), Nat.le_refl _, Nat.lt_succ_self _, hbw⟩
  have HMF : Hid (∃ s1 mE sE t1 s2 s3, mustF ts en s 4 ⟨#[123]⟩ = s1 ∧ msF ts en (n + 2) [] s1 = (mE, sE) ∧ takeF ts en (mustF ts en sE 4 ⟨#[91]⟩) 1 = (t1, s2) ∧ mustF ts en s2 4 ⟨#[93]⟩ = s3 ∧ readPickF ts en n s = ((mE, t1.n), s3)) := Lib.hid ⟨_, _, _, _, _, _, rfl, rfl, rfl, rfl, rfl⟩
  obtain ⟨s1, mE, sE, t1, s2, s3, e1, e2, e3, e4, e5⟩ := HMF.out
  rw [e1] at HMU
  rw [e5]
  have HMS := Lib.hid e2; have HTK := Lib.hid e3; have HM3 := Lib.hid e4
  clear h e1 e2 e3 e4 e5 HMF
  have HG := Lib.hid (show ∃ g, w.heap.size = g from ⟨_, rfl⟩)
  have HG3 := Lib.hid (show ∃ g, w.heap.size + 1 = g from ⟨_, rfl⟩)
  go_enter Tryd.func71, Tryd.ntmps71
  go_upto_region 2 with fail
  obtain ⟨g3, hg3'⟩ := HG3.out
  obtain ⟨g2, hg2'⟩ := HG.out
  rw [hg3'] at HP0 ⊢
  rw [hg2'] at HP0 ⊢
  clear HG HG3
  generalize (w.alloc (.cells #[.int .i64 0, .int .i64 0, .slice none 0 0, .slice none 0 0, .slice none 0 0] 26)).alloc (.cells #[.int .i64 2, .int .i64 0, .slice none 0 0, .slice none 0 0, .slice none 0 0] 26) = W2 at *
  go_wp2_with fail
  (with_reducible refine HMU.out.mono ?_); rintro e w1 ⟨rfl, hm1⟩
  have HP1 := Lib.hid (HP0.out.moved hm1)
  clear hm1 HMU HP0
  go_upto_block 0 with fail
  go_cut [] from 7 to 30 (fun wx => ∃ v, PkAt b A n c ts en sE w g2 g3 0 v mE wx)
  case first =>
    go_wp2_with fail
    go_loopg [] (n + 2) (fun g wr => ∃ (s' : PS) (ms : List Mtc) (v : Value), leftF n s' ≤ g ∧ ms.length + leftF n s' ≤ n + 2 ∧ msF ts en g ms s' = (mE, sE) ∧ PkAt b A n c ts en s' w g2 g3 0 v ms wr)
    case atStart => exact ⟨s1, [], .slice none 0 0, by unfold leftF; split <;> omega, by unfold leftF; simp only [List.length_nil]; split <;> omega, HMS.out, HP1.out⟩
    case round =>
      obtain ⟨s', ms, v, hfu, hml, hms, hat⟩ := hrel
      have HF := Lib.hid hms; have HA := Lib.hid hat
      have HFU := Lib.hid hfu; have HML := Lib.hid hml
      have HLE := Lib.hid hat.rd.le
      clear hms hat hfu hml HMS HP1
      cases gk with
      | zero => exact absurd HFU.out (by have := leftF_pos n s' HLE.out; omega)
      | succ g =>
        obtain ⟨c0, c1, c2, c3, c4⟩ := HA.out.rd.cells
        by_cases hfe : s'.fe = 0
        · have t1 : (s'.fe == 0) = true := by rw [hfe]; rfl
          cases hq : isF ts s' 4 ⟨#[125]⟩ with
          | true =>
            have HE := Lib.hid (show (ms, nextF s') = (mE, sE) by rw [← HF.out]; unfold msF; rw [if_pos hfe, if_pos hq])
            have HS := Lib.hid (skip_yes (tx := ⟨#[125]⟩) HA.out.rd (show (4 : Int) ≠ 0 by decide) hn hq)
            clear hq hfe HF
            go_wp2_with fail
            (with_reducible refine HS.out.mono ?_); rintro e w5 ⟨rfl, hm⟩
            have HX := Lib.hid (HA.out.moved hm)
            clear hm
            go_wp2_with fail
            go_meet
            have he := HE.out
            injection he with he1 he2
            rw [← he1, ← he2]; exact ⟨v, HX.out⟩
          | false =>
            have HS := Lib.hid (skip_no (tx := ⟨#[125]⟩) HA.out.rd (show (4 : Int) ≠ 0 by decide) hn hq)
            have HF2 : Hid (∃ s2 : PS, (if ms.length = 0 then s' else mustF ts en s' 4 ⟨#[44]⟩) = s2 ∧ msF ts en g (ms ++ [(matcherF ts en s2).1]) (matcherF ts en s2).2 = (mE, sE) ∧ (matcherF ts en s2).2.p ≤ n ∧ leftF n (matcherF ts en s2).2 < leftF n s') := Lib.hid ⟨_, rfl, by rw [← HF.out]; conv => rhs; unfold msF; rw [if_pos hfe, if_neg (by rw [hq]; simp)], by simpa using round_left (en := en) HLEN.out HLE.out hfe (decide (ms.length = 0))⟩
            obtain ⟨sx, hsx, hmx, hpx, hlx⟩ := HF2.out
            have HSX := Lib.hid hsx; have HMX := Lib.hid hmx; have HPX := Lib.hid hpx; have HLX := Lib.hid hlx
            obtain ⟨Av, cv, hv, _, _⟩ := own_slice HA.out.row
            subst hv
            clear hq hfe HF HF2 hsx hmx hpx hlx
            go_wp2_with fail
            (with_reducible refine HS.out.mono ?_); rintro e w5 ⟨rfl, hm⟩
            have HA2 := Lib.hid (HA.out.moved hm)
            clear hm HS HA c0 c1 c2 c3 c4
            obtain ⟨x0, x1, x2, x3, x4⟩ := blk_cells5 HA2.out.x
            obtain ⟨p5, hp5⟩ : ∃ p, decide (0 < ms.length) = p := ⟨_, rfl⟩
            have HPP := Lib.hid hp5
            go_upto_if 21 with fail
            clear hp5
            go_cut [] from 22 to 23 (fun wx => PkAt b A n c ts en sx w g2 g3 0 (.slice Av ms.length cv) ms wx)
            case first =>
              cases p5 with
              | false =>
                have h0 : ms.length = 0 := by have := of_decide_eq_false HPP.out; omega
                have HE := Lib.hid (show s' = sx by rw [← HSX.out, if_pos h0])
                clear h0
                go_wp2_with fail
                go_meet
                rw [← HE.out]; exact HA2.out
              | true =>
                have h0 : ¬ ms.length = 0 := by have := of_decide_eq_true HPP.out; omega
                have HE := Lib.hid (show mustF ts en s' 4 ⟨#[44]⟩ = sx by rw [← HSX.out, if_neg h0])
                have HM := Lib.hid (must_any b A n c ts en s' 4 ⟨#[44]⟩ _ HA2.out.rd (by decide) hn)
                rw [HE.out] at HM
                clear h0
                go_wp2_with fail
                (with_reducible refine HM.out.mono ?_); rintro e w6 ⟨rfl, hm⟩
                have HX := Lib.hid (HA2.out.moved hm)
                clear hm
                go_wp2_with fail
                go_meet
                exact HX.out
            case rest =>
              have HA3 := Lib.hid hcut
              clear hcut HA2 x0 x1 x2 x3 x4
              obtain ⟨m, sN, hmN⟩ : ∃ m sN, matcherF ts en sx = (m, sN) := ⟨_, _, rfl⟩
              have HMX2 := Lib.hid (show msF ts en g (ms ++ [m]) sN = (mE, sE) by have h := HMX.out; rw [hmN] at h; exact h)
              have HLX2 := Lib.hid (show leftF n sN < leftF n s' by have h := HLX.out; rw [hmN] at h; exact h)
              have HMT := Lib.hid (fun V (hV : RdAt b A n c ts en sx V) => by have h := matcher_x b A n c ts en sx V hV hn; rw [hmN] at h; exact h)
              clear HMX HLX HPX hmN
              go_upto_region 6 with fail
              obtain ⟨D, hD⟩ : ∃ D, wc.drew = D := ⟨_, rfl⟩
              have HAD := Lib.hid (show PkAt b A n c ts en sx w g2 g3 0 (.slice Av ms.length cv) ms D by rw [← hD]; exact HA3.out.below (Below.refl _ _).drew)
              obtain ⟨x0, x1, x2, x3, x4⟩ := blk_cells5 HAD.out.x
              have hbs0 : w.heap.size ≤ D.heap.size := HAD.out.only.size
              have tok1 : True := trivial
              have tok2 : True := trivial
              clear HA3 x0 x1 x3 x4
              go_region_law (first
                | (have tk := tok1; (try go_simp); go_at_call 87; (with_reducible refine (HMT.out _ HAD.out.rd).mono ?_); rintro e wm ⟨rfl, hm⟩; have HAM := Lib.hid (HAD.out.moved hm); have HAB := Lib.hid (HAM.out.below ((Below.refl wm.heap.size wm).alloc (Nat.le_refl _) (.cells #[.string m.1, .string m.2.1, .int .i64 m.2.2] 54))); have y2 := (blk_cells5 HAM.out.x).2.2.1; have z2 := (blk_cells5 HAB.out.x).2.2.1; have HX := Lib.hid (show Sees (wm.alloc (.cells #[.string m.1, .string m.2.1, .int .i64 m.2.2] 54)) (wm.alloc (.cells #[.string m.1, .string m.2.1, .int .i64 m.2.2] 54)).heap.size 3 (some ⟨wm.heap.size, 0, none⟩) 1 [.string m.1, .string m.2.1, .int .i64 m.2.2] from (Blk.mk (heap_alloc_new wm _) : Blk _ wm.heap.size 54 [.string m.1, .string m.2.1, .int .i64 m.2.2]).sees rfl (List.prefix_refl _)); have hbs : w.heap.size ≤ (wm.alloc (.cells #[.string m.1, .string m.2.1, .int .i64 m.2.2] 54)).heap.size := HAB.out.only.size; clear tok1 tk hm)
                | (have tk := tok2; refine step_append_at3 rfl (.tmp 25) (.tmp 28) 22 rfl w.heap.size 54 i0 (.agg #[.string ⟨#[]⟩, .string ⟨#[]⟩, .int .i64 0]) 3 40 Tryd.underlying22 hi0 hz0 hz1 hz2 rfl (by decide) (.slice Av ms.length cv) ms.length (mtcs ms) (by first | rfl | (simp [Act.eval]; done)) HAB.out.row _ _ 1 1 [.string m.1, .string m.2.1, .int .i64 m.2.2] (by first | rfl | (simp [Act.eval]; done)) HX.out (mtc_one3 _ _ _) (by have := HML.out; unfold maxLen; omega) (by have := HML.out; omega) hbs ?_; intro v9 w9 hown9 hgr9 hwh9; obtain ⟨A9, c9, hA9, _, _⟩ := own_slice hown9; subst hA9; have HPU := Lib.hid (HAB.out.push HR0.out hown9 hgr9 hwh9); have hne9 : ∀ q, (Value.slice Av ms.length cv).ownBlock = some q → g3 < q := HAB.out.ne; have HXB := Lib.hid (HAB.out.x.grown hgr9 (fun e => by have := hne9 g3 e.symm; omega)); have f9 := HXB.out.frozen 2; have y9 := HXB.out.cell 2; clear tok2 tk hown9 hgr9 hwh9)
                | fail)
              all_goals
                clear HAD HAM HAB HX x2 y2 z2 hbs
                go_wp2_with fail
                go_roundg g
                case measure => omega
                case rel =>
                  have h1 := HLX2.out; have h2 := HFU.out; have h3 := HML.out
                  exact ⟨sN, ms ++ [m], _, by omega, by rw [List.length_append, List.length_singleton]; omega, HMX2.out, HPU.out⟩
        · have t1 : (s'.fe == 0) = false := by rw [beq_eq_false_iff_ne]; exact hfe
          have HE := Lib.hid (show (ms, s') = (mE, sE) by rw [← HF.out]; unfold msF; rw [if_neg hfe])
          clear hfe HF
          go_wp2_with fail
          go_meet
          have he := HE.out
          injection he with he1 he2
          rw [← he1, ← he2]; exact ⟨v, HA.out⟩
  case rest =>
    obtain ⟨v, hat⟩ := hcut
    obtain ⟨Av, cv, hv, _, _⟩ := own_slice hat.row
    subst hv
    have HA := Lib.hid hat
    have HM1 := Lib.hid (must_any b A n c ts en sE 4 ⟨#[91]⟩ _ hat.rd (by decide) hn)
    obtain ⟨s5, hs5⟩ : ∃ q, mustF ts en sE 4 ⟨#[91]⟩ = q := ⟨_, rfl⟩
    rw [hs5] at HM1
    have HTK2 := Lib.hid (show takeF ts en s5 1 = (t1, s2) by rw [← hs5]; exact HTK.out)
    clear hat hs5 HTK HP1 HMS
    go_wp2_with fail
    (with_reducible refine HM1.out.mono ?_); rintro e w5 ⟨rfl, hm⟩
    have HA1 := Lib.hid (HA.out.moved hm)
    have HT := Lib.hid (take_any b A n c ts en s5 1 _ hm.rd (by decide) hn)
    rw [HTK2.out] at HT
    unfold Tok.val at HT
    clear hm HM1 HA
    go_wp2_with fail
    (with_reducible refine HT.out.mono ?_); rintro e w6 ⟨rfl, hm⟩
    have HA2 := Lib.hid (HA1.out.moved hm)
    clear hm HT HA1
    obtain ⟨x0, x1, x2, x3, x4⟩ := blk_cells5 HA2.out.x
    obtain ⟨f0, f1, f2, f3, f4⟩ := blk_fr5 HA2.out.x
    have HA3 := Lib.hid (HA2.out.num HR0.out t1.n)
    go_upto_region 9 with fail
    generalize w6.setCell ⟨g3, 1, none⟩ (.int .i64 t1.n) = W6 at *
    clear x0 x1 x2 x3 x4 f0 f1 f2 f3 f4 HA2
    have HM4 := Lib.hid (must_any b A n c ts en s2 4 ⟨#[93]⟩ _ HA3.out.rd (by decide) hn)
    rw [HM3.out] at HM4
    go_wp2_with fail
    (with_reducible refine HM4.out.mono ?_); rintro e w7 ⟨rfl, hm⟩
    have HA4 := Lib.hid (HA3.out.moved hm)
    clear hm HM4 HA3
    obtain ⟨x0, x1, x2, x3, x4⟩ := blk_cells5 HA4.out.x
    obtain ⟨z0, z1, z2, z3, z4⟩ := blk_cells5 HA4.out.z_
    obtain ⟨f0, f1, f2, f3, f4⟩ := blk_fr5 HA4.out.z_
    have HQ := Lib.hid (set5W_blk HA4.out.z_ (.int .i64 2) (.int .i64 t1.n) (.slice Av mE.length cv) (.slice none 0 0) (.slice none 0 0))
    have HANS := Lib.hid (HA4.out.ans HR0.out)
    go_wp2_with fail
    obtain ⟨q0, q1, q2, q3, q4⟩ := blk_cells5 HQ.out
    unfold set5W at q0 q1 q2 q3 q4
    refine bodyPost_ret (v := .agg #[.int .i64 2, .int .i64 t1.n, .slice Av mE.length cv, .slice none 0 0, .slice none 0 0]) (by simp [results, Tryd.results71, go_sem, q0, q1, q2, q3, q4]) rfl ?_
    exact HANS.out
end Go.Proofs.YtnkbpcenkbihpaaDoor

namespace Go.Proofs.YtnkbpcenkbihpaaDoor
open Go.ChangeShapes Go.WideShapes Go.ChangeAt Go.RowKit
set_option linter.unusedVariables false
set_option linter.unusedSimpArgs false
set_option maxRecDepth 100000
/-- Names up to the bracket. -/
def nsF (ts : List Tok) (en : Int) : Nat → List ByteArray → PS → List ByteArray × PS
  | 0, ns, s => (ns, s)
  | f + 1, ns, s => if s.fe = 0 then (if isF ts s 4 ⟨#[41]⟩ = true then (ns, nextF s) else
      nsF ts en f (ns ++ [(takeF ts en (if ns.length = 0 then s else mustF ts en s 4 ⟨#[44]⟩) 2).1.tx]) (takeF ts en (if ns.length = 0 then s else mustF ts en s 4 ⟨#[44]⟩) 2).2) else (ns, s)
def ofOneF (ts : List Tok) (en : Int) (n : Nat) (rec : PS → PE × PS) (k : Int) (s : PS) : PE × PS :=
  let r := nsF ts en (n + 2) [] (mustF ts en (mustF ts en (takeF ts en s 2).2 2 ⟨#[98, 121]⟩) 4 ⟨#[40]⟩)
  let y := rec (mustF ts en r.2 4 ⟨#[40]⟩)
  (.mk k 0 [] r.1 [y.1], mustF ts en y.2 4 ⟨#[41]⟩)
def ofTwoF (ts : List Tok) (en : Int) (rec : PS → PE × PS) (s : PS) : PE × PS :=
  let y := rec (mustF ts en s 4 ⟨#[40]⟩)
  let k := betweenF ts en y.2
  let z := rec k.2
  (.mk k.1 0 [] [] [y.1, z.1], mustF ts en z.2 4 ⟨#[41]⟩)
def zeroPE : PE := .mk 0 0 [] [] []
/-- A token that begins no expression. -/
def noneF (ts : List Tok) (s : PS) : Bool := (peekF ts s).kd != 1 && kindF (peekF ts s) == 0 && !(isF ts s 4 ⟨#[123]⟩) && !(isF ts s 4 ⟨#[40]⟩)
/-- An expression of at most so many floors. -/
def exprF (ts : List Tok) (en : Int) (n : Nat) : Nat → PS → PE × PS
  | 0, s => if noneF ts s = true then (zeroPE, failF ts en s 1) else (zeroPE, failF ts en s 6)
  | f + 1, s => if noneF ts s = true then (zeroPE, failF ts en s 1)
    else if (peekF ts s).kd = 1 then (.mk 1 (takeF ts en s 1).1.n [] [] [], (takeF ts en s 1).2)
    else if kindF (peekF ts s) ≠ 0 then ofOneF ts en n (exprF ts en n f) (kindF (peekF ts s)) s
    else if isF ts s 4 ⟨#[123]⟩ = true then pickR ts en n s
    else ofTwoF ts en (exprF ts en n f) s
/-- What is told of expr at so many floors. -/
def ExprSaid (b : Nat) (A : Option Addr) (n c : Nat) (ts : List Tok) (en : Int) (f : Nat) : Prop :=
  ∀ (deep : Nat) (s : PS) (w : World), deep + f = 9 → RdAt b A n c ts en s w →
    Calls Tryd.prog 44 #[.pointer (some ⟨b, 0, none⟩), .int .i64 (deep : Nat)] w fun e w' => XAns b A n c ts en (f + 1) (exprF ts en n f s) w e w'
theorem two_ans {b n c d g4 gx gy sx sy : Nat} {A : Option Addr} {ts : List Tok} {en : Int} {s s' : PS} {w0 w : World} {x y : XE} (kk : Int)
    (h0 : RdAt b A n c ts en s' w0) (h : Moved b A n c ts en s w0 w) (hz : Blk w g4 26 [.int .i64 0, .int .i64 0, .slice none 0 0, .slice none 0 0, .slice none 0 0])
    (hx : Kid d sx gx x w) (hy : Kid d sy gy y w) (h4 : w0.heap.size ≤ g4) (hsx : g4 < sx) (hsy : g4 < sy) :
    XAns b A n c ts en (d + 1) (.mk kk 0 [] [] [x.pe, y.pe], s) w0 (.returned (pairX kk w.heap.size x y).val) (set5W (w.alloc (.cells #[.int .i64 x.kd, .int .i64 x.n, x.mv, x.nv, x.kv, .int .i64 y.kd, .int .i64 y.n, y.mv, y.nv, y.kv] 26)) g4 (.int .i64 kk) (.int .i64 0) (.slice none 0 0) (.slice none 0 0) (.slice (some ⟨w.heap.size, 0, none⟩) 2 2)) := by
  have hb := h0.blk.lt
  have hl4 := hz.lt
  have hsz := h.only.size
  have hg1 : w.grownBy (w.alloc (.cells #[.int .i64 x.kd, .int .i64 x.n, x.mv, x.nv, x.kv, .int .i64 y.kd, .int .i64 y.n, y.mv, y.nv, y.kv] 26)) (some g4) := only_alloc (World.grownBy.refl w _) _
  have hg2 := set5W_grown (w.alloc (.cells #[.int .i64 x.kd, .int .i64 x.n, x.mv, x.nv, x.kv, .int .i64 y.kd, .int .i64 y.n, y.mv, y.nv, y.kv] 26)) g4 (.int .i64 kk) (.int .i64 0) (.slice none 0 0) (.slice none 0 0) (.slice (some ⟨w.heap.size, 0, none⟩) 2 2)
  have ho : Only b w0 (w.alloc (.cells #[.int .i64 x.kd, .int .i64 x.n, x.mv, x.nv, x.kv, .int .i64 y.kd, .int .i64 y.n, y.mv, y.nv, y.kv] 26)) := h.only.alloc _
  have ho2 : Only b w0 (set5W (w.alloc (.cells #[.int .i64 x.kd, .int .i64 x.n, x.mv, x.nv, x.kv, .int .i64 y.kd, .int .i64 y.n, y.mv, y.nv, y.kv] 26)) g4 (.int .i64 kk) (.int .i64 0) (.slice none 0 0) (.slice none 0 0) (.slice (some ⟨w.heap.size, 0, none⟩) 2 2)) := ho.of_grown hg2 (fun g e => by injection e with e; omega)
  have hrd := (h.rd.alloc (.cells #[.int .i64 x.kd, .int .i64 x.n, x.mv, x.nv, x.kv, .int .i64 y.kd, .int .i64 y.n, y.mv, y.nv, y.kv] 26)).blk.grown hg2 (fun e => by injection e with e; omega)
  have hbk : Blk (w.alloc (.cells #[.int .i64 x.kd, .int .i64 x.n, x.mv, x.nv, x.kv, .int .i64 y.kd, .int .i64 y.n, y.mv, y.nv, y.kv] 26)) w.heap.size 26 (kcells [x, y]) := Blk.mk (heap_alloc_new w _)
  have hbk2 := hbk.grown hg2 (fun e => by injection e with e; omega)
  have k1 := (hx.grown hg1 hsx).grown hg2 hsx
  have k2 := (hy.grown hg1 hsy).grown hg2 hsy
  refine ⟨pairX kk w.heap.size x y, rfl, rfl, okX_far (FarS.nil 3) (FarS.nil 1) (FarS.slc (n := 2) (size := 5) hbk2 (by omega) rfl (by omega)) (fun q hq => ?_), h0.of hrd ho2 h.rd.le, ho2⟩
  rw [List.mem_cons, List.mem_singleton] at hq
  rcases hq with rfl | rfl
  · exact k1.far.mono (fun q _ hq => by omega)
  · exact k2.far.mono (fun q _ hq => by omega)
end Go.Proofs.YtnkbpcenkbihpaaDoor

namespace Go.Proofs.YtnkbpcenkbihpaaDoor
open Go.ChangeShapes Go.WideShapes Go.ChangeAt Go.RowKit
set_option linter.unusedVariables false
set_option linter.unusedSimpArgs false
set_option maxRecDepth 100000
set_option maxHeartbeats 4000000 in
theorem two_x (b : Nat) (A : Option Addr) (n c : Nat) (ts : List Tok) (en : Int) (f : Nat) (IH : ExprSaid b A n c ts en f) (hn : n ≤ 1000000) (deep : Nat) (s : PS) (w : World) (hd : deep + (f + 1) = 9) (h : RdAt b A n c ts en s w) :
    Calls Tryd.prog 72 #[.pointer (some ⟨b, 0, none⟩), .int .i64 (deep : Nat)] w fun e w' => XAns b A n c ts en (f + 2) (ofTwoF ts en (exprF ts en n f) s) w e w' := by
  have HR0 := Lib.hid h
  have hbw : b < w.heap.size := h.blk.lt
  have HIH := Lib.hid IH
  have hde : IntKind.i64.wrap ((deep : Int) + 1) = (deep : Int) + 1 := by rw [IntKind.wrap_i64]; omega
  have HD := Lib.hid hd
  have HMU := Lib.hid (must_any b A n c ts en s 4 ⟨#[40]⟩ (w.alloc (.cells #[.int .i64 0, .int .i64 0, .slice none 0 0, .slice none 0 0, .slice none 0 0] 26)) (h.alloc _) (by decide) hn)
  have HZ0 := Lib.hid (Blk.mk (heap_alloc_new w (.cells #[.int .i64 0, .int .i64 0, .slice none 0 0, .slice none 0 0, .slice none 0 0] 26)) : Blk _ w.heap.size 26 [.int .i64 0, .int .i64 0, .slice none 0 0, .slice none 0 0, .slice none 0 0])
  have HM0 : Hid (Only b w (w.alloc (.cells #[.int .i64 0, .int .i64 0, .slice none 0 0, .slice none 0 0, .slice none 0 0] 26))) := Lib.hid ((Only.refl b w).alloc _)
  have HFF : Hid (∃ s1 t1 s2 k s3 t2 s4 s5, mustF ts en s 4 ⟨#[40]⟩ = s1 ∧ exprF ts en n f s1 = (t1, s2) ∧ betweenF ts en s2 = (k, s3) ∧ exprF ts en n f s3 = (t2, s4) ∧ mustF ts en s4 4 ⟨#[41]⟩ = s5 ∧ ofTwoF ts en (exprF ts en n f) s = (.mk k 0 [] [] [t1, t2], s5)) := Lib.hid ⟨_, _, _, _, _, _, _, _, rfl, rfl, rfl, rfl, rfl, rfl⟩
  obtain ⟨s1, t1, s2, k, s3, t2, s4, s5, e1, e2, e3, e4, e5, e6⟩ := HFF.out
  rw [e1] at HMU
  rw [e6]
  have E2 := Lib.hid e2; have E3 := Lib.hid e3; have E4 := Lib.hid e4; have E5 := Lib.hid e5
  clear h e1 e2 e3 e4 e5 e6 HFF IH hd
  have HG := Lib.hid (show ∃ g, w.heap.size = g from ⟨_, rfl⟩)
  go_enter Tryd.func72, Tryd.ntmps72
  go_upto_region 1 with fail
  obtain ⟨g4, hg4⟩ := HG.out
  rw [hg4]
  rw [hg4] at HZ0
  have hwg : w.heap.size ≤ g4 := by omega
  clear HG hg4
  generalize w.alloc (.cells #[.int .i64 0, .int .i64 0, .slice none 0 0, .slice none 0 0, .slice none 0 0] 26) = W1 at *
  go_wp2_with fail
  (with_reducible refine HMU.out.mono ?_); rintro e w1 ⟨rfl, hm⟩
  have HMv1 : Hid (Moved b A n c ts en s1 w w1) := Lib.hid ⟨hm.rd, HM0.out.trans hm.only⟩
  have HZ1 := Lib.hid (HZ0.out.only hm.only (by omega))
  have HC1 := Lib.hid (HIH.out (deep + 1) s1 w1 (by have := HD.out; omega) hm.rd)
  rw [E2.out, show ((deep + 1 : Nat) : Int) = (deep : Int) + 1 from rfl] at HC1
  clear hm HMU HM0 HZ0
  go_wp2_with fail
  (with_reducible refine HC1.out.mono ?_); rintro e w2 hx
  obtain ⟨xk, xn, A1, c1, xms, A2, c2, xns, A3, c3, xks, rfl, hp, hf, hm⟩ := hx.forms
  have HP1 := Lib.hid hp
  have hl4 := HZ1.out.lt
  have HK1 := Lib.hid (Kid.made hf hm.only.size)
  have HMv2 : Hid (Moved b A n c ts en s2 w (w2.alloc (.cells #[.int .i64 xk, .int .i64 xn, .slice A1 xms.length c1, .slice A2 xns.length c2, .slice A3 xks.length c3] 26))) := Lib.hid ⟨hm.rd.alloc _, (HMv1.out.only.trans hm.only).alloc _⟩
  have HZ2 := Lib.hid ((HZ1.out.only hm.only (by omega)).alloc (.cells #[.int .i64 xk, .int .i64 xn, .slice A1 xms.length c1, .slice A2 xns.length c2, .slice A3 xks.length c3] 26))
  have HBT := Lib.hid (between_any b A n c ts en s2 (w2.alloc (.cells #[.int .i64 xk, .int .i64 xn, .slice A1 xms.length c1, .slice A2 xns.length c2, .slice A3 xks.length c3] 26)) (hm.rd.alloc _) hn)
  rw [E3.out] at HBT
  have HG5 := Lib.hid (show ∃ g, w2.heap.size = g from ⟨_, rfl⟩)
  have hbs1 : b < w1.heap.size := HMv1.out.rd.blk.lt
  clear hx hp hf hm HC1 HZ1 HMv1
  go_upto_region 3 with fail
  obtain ⟨g5, hg5⟩ := HG5.out
  rw [hg5]
  have HK1' : Hid (Kid (f + 1) w1.heap.size g5 (.mk xk xn (.slice A1 xms.length c1) xms (.slice A2 xns.length c2) xns (.slice A3 xks.length c3) xks) (w2.alloc (.cells #[.int .i64 xk, .int .i64 xn, .slice A1 xms.length c1, .slice A2 xns.length c2, .slice A3 xks.length c3] 26))) := Lib.hid (by have h := HK1.out; rw [hg5] at h; exact h)
  clear HG5 hg5 HK1
  generalize w2.alloc (.cells #[.int .i64 xk, .int .i64 xn, .slice A1 xms.length c1, .slice A2 xns.length c2, .slice A3 xks.length c3] 26) = W3 at *
  go_wp2_with fail
  (with_reducible refine HBT.out.mono ?_); rintro e w4 ⟨rfl, hm⟩
  have HMv3 : Hid (Moved b A n c ts en s3 w w4) := Lib.hid ⟨hm.rd, HMv2.out.only.trans hm.only⟩
  have HZ3 := Lib.hid (HZ2.out.only hm.only (by omega))
  have HK2 := Lib.hid (HK1'.out.grown hm.only.grown hbs1)
  have HC2 := Lib.hid (HIH.out (deep + 1) s3 w4 (by have := HD.out; omega) hm.rd)
  rw [E4.out, show ((deep + 1 : Nat) : Int) = (deep : Int) + 1 from rfl] at HC2
  clear hm HBT HMv2 HZ2 HK1'
  go_wp2_with fail
  (with_reducible refine HC2.out.mono ?_); rintro e w5 hx
  obtain ⟨yk, yn, B1, d1, yms, B2, d2, yns, B3, d3, yks, rfl, hp, hf, hm⟩ := hx.forms
  have HP2 := Lib.hid hp
  have hl44 := HZ3.out.lt
  have HKy := Lib.hid (Kid.made hf hm.only.size)
  have HK3 : Hid (Kid (f + 1) w1.heap.size g5 (.mk xk xn (.slice A1 xms.length c1) xms (.slice A2 xns.length c2) xns (.slice A3 xks.length c3) xks) (w5.alloc (.cells #[.int .i64 yk, .int .i64 yn, .slice B1 yms.length d1, .slice B2 yns.length d2, .slice B3 yks.length d3] 26))) := Lib.hid ((HK2.out.grown hm.only.grown hbs1).grown (only_alloc (World.grownBy.refl w5 (some b)) (.cells #[.int .i64 yk, .int .i64 yn, .slice B1 yms.length d1, .slice B2 yns.length d2, .slice B3 yks.length d3] 26)) hbs1)
  have HMv4 : Hid (Moved b A n c ts en s4 w (w5.alloc (.cells #[.int .i64 yk, .int .i64 yn, .slice B1 yms.length d1, .slice B2 yns.length d2, .slice B3 yks.length d3] 26))) := Lib.hid ⟨hm.rd.alloc _, (HMv3.out.only.trans hm.only).alloc _⟩
  have HZ4 := Lib.hid ((HZ3.out.only hm.only (by omega)).alloc (.cells #[.int .i64 yk, .int .i64 yn, .slice B1 yms.length d1, .slice B2 yns.length d2, .slice B3 yks.length d3] 26))
  have HME := Lib.hid (must_any b A n c ts en s4 4 ⟨#[41]⟩ (w5.alloc (.cells #[.int .i64 yk, .int .i64 yn, .slice B1 yms.length d1, .slice B2 yns.length d2, .slice B3 yks.length d3] 26)) (hm.rd.alloc _) (by decide) hn)
  rw [E5.out] at HME
  have HG7 := Lib.hid (show ∃ g, w5.heap.size = g from ⟨_, rfl⟩)
  have hbs4 : b < w4.heap.size := HMv3.out.rd.blk.lt
  clear hx hp hf hm HC2 HZ3 HMv3 HK2
  go_upto_region 5 with fail
  obtain ⟨g7, hg7⟩ := HG7.out
  rw [hg7]
  have HKy' : Hid (Kid (f + 1) w4.heap.size g7 (.mk yk yn (.slice B1 yms.length d1) yms (.slice B2 yns.length d2) yns (.slice B3 yks.length d3) yks) (w5.alloc (.cells #[.int .i64 yk, .int .i64 yn, .slice B1 yms.length d1, .slice B2 yns.length d2, .slice B3 yks.length d3] 26))) := Lib.hid (by have h := HKy.out; rw [hg7] at h; exact h)
  clear HG7 hg7 HKy
  generalize w5.alloc (.cells #[.int .i64 yk, .int .i64 yn, .slice B1 yms.length d1, .slice B2 yns.length d2, .slice B3 yks.length d3] 26) = W6 at *
  go_wp2_with fail
  (with_reducible refine HME.out.mono ?_); rintro e w7 ⟨rfl, hm⟩
  have HMv5 : Hid (Moved b A n c ts en s5 w w7) := Lib.hid ⟨hm.rd, HMv4.out.only.trans hm.only⟩
  have HZ5 := Lib.hid (HZ4.out.only hm.only (by omega))
  have HKx := Lib.hid (HK3.out.grown hm.only.grown hbs1)
  have HKz := Lib.hid (HKy'.out.grown hm.only.grown hbs4)
  clear hm HME HMv4 HZ4 HK3 HKy'
  have HANS := Lib.hid (two_ans k HR0.out HMv5.out HZ5.out HKx.out HKz.out hwg hl4 hl44)
  rw [HP1.out, HP2.out] at HANS
  obtain ⟨u0, u1, u2, u3, u4⟩ := blk_cells5 HKx.out.blk
  obtain ⟨v0, v1, v2, v3, v4⟩ := blk_cells5 HKz.out.blk
  simp only [XE.kd, XE.n, XE.mv, XE.nv, XE.kv] at u0 u1 u2 u3 u4 v0 v1 v2 v3 v4
  have HZ6 := Lib.hid (HZ5.out.alloc (.cells #[.int .i64 xk, .int .i64 xn, .slice A1 xms.length c1, .slice A2 xns.length c2, .slice A3 xks.length c3, .int .i64 yk, .int .i64 yn, .slice B1 yms.length d1, .slice B2 yns.length d2, .slice B3 yks.length d3] 26))
  obtain ⟨y0, y1, y2, y3, y4⟩ := blk_cells5 HZ6.out
  obtain ⟨z0, z1, z2, z3, z4⟩ := blk_fr5 HZ6.out
  have HQ := Lib.hid (set5W_blk HZ6.out (.int .i64 k) (.int .i64 0) (.slice none 0 0) (.slice none 0 0) (.slice (some ⟨w7.heap.size, 0, none⟩) 2 2))
  go_wp2_with fail
  obtain ⟨q0, q1, q2, q3, q4⟩ := blk_cells5 HQ.out
  unfold set5W at q0 q1 q2 q3 q4
  refine bodyPost_ret (v := (pairX k w7.heap.size (.mk xk xn (.slice A1 xms.length c1) xms (.slice A2 xns.length c2) xns (.slice A3 xks.length c3) xks) (.mk yk yn (.slice B1 yms.length d1) yms (.slice B2 yns.length d2) yns (.slice B3 yks.length d3) yks)).val) (by simp [XE.val, pairX, XE.kd, XE.n, XE.mv, XE.nv, XE.kv, results, Tryd.results72, go_sem, q0, q1, q2, q3, q4]) rfl ?_
  exact HANS.out
end Go.Proofs.YtnkbpcenkbihpaaDoor

namespace Go.Proofs.YtnkbpcenkbihpaaDoor
open Go.ChangeShapes Go.WideShapes Go.ChangeAt Go.RowKit
set_option linter.unusedVariables false
set_option linter.unusedSimpArgs false
set_option maxRecDepth 100000
/-- Within ofOne: both boxes, the names so far. -/
structure OnAt (b : Nat) (A : Option Addr) (n c : Nat) (ts : List Tok) (en : Int) (s : PS) (w0 : World) (g2 g3 : Nat) (k : Int) (v : Value) (ns : List ByteArray) (kv : Value) (w : World) : Prop where
  rd : RdAt b A n c ts en s w
  only : Only b w0 w
  z_ : Blk w g2 26 [.int .i64 0, .int .i64 0, .slice none 0 0, .slice none 0 0, .slice none 0 0]
  x : Blk w g3 26 [.int .i64 k, .int .i64 0, .slice none 0 0, v, kv]
  row : w.ownsRow w0.heap.size 9 1 v ns.length (strs ns)
  ne : ∀ g, v.ownBlock = some g → g3 < g
  l2 : w0.heap.size ≤ g2
  l3 : g2 < g3
  lb : b < w0.heap.size
section
variable {b n c g2 g3 : Nat} {A : Option Addr} {ts : List Tok} {en : Int} {s s' : PS} {w0 w w' : World} {k : Int} {v v' kv : Value} {ns : List ByteArray}
theorem OnAt.moved (h : OnAt b A n c ts en s w0 g2 g3 k v ns kv w) (hm : Moved b A n c ts en s' w w') : OnAt b A n c ts en s' w0 g2 g3 k v ns kv w' := by
  have h2 := h.l2; have h3 := h.l3; have hb := h.lb
  refine ⟨hm.rd, h.only.trans hm.only, h.z_.only hm.only (by omega), h.x.only hm.only (by omega), own_grown h.row hm.only.grown (fun g hg e => ?_), h.ne, h2, h3, hb⟩
  have := (h.row.lt g hg).1
  injection e with e; omega
theorem OnAt.below (h : OnAt b A n c ts en s w0 g2 g3 k v ns kv w) (hb : Below w.heap.size w w') : OnAt b A n c ts en s w0 g2 g3 k v ns kv w' := h.moved ⟨h.rd.below hb, Only.of_below hb⟩
theorem names_grow (ns : List ByteArray) (x : ByteArray) : strs (ns ++ [x]) = strs ns ++ [.string x] := by simp [strs]
/-- The names grown, and laid into the box. -/
theorem OnAt.push (h : OnAt b A n c ts en s w0 g2 g3 k v ns kv w) (h0 : RdAt b A n c ts en s' w0) {m : ByteArray} (hown : w'.ownsRow w0.heap.size 9 1 v' (ns.length + 1) (strs ns ++ [.string m])) (hg : w.grownBy w' v.ownBlock) (hw : Where w v v') :
    OnAt b A n c ts en s w0 g2 g3 k v' (ns ++ [m]) kv (w'.setCell ⟨g3, 3, none⟩ v') := by
  have h2 := h.l2; have h3 := h.l3; have hb := h.lb
  have hr : ∀ g, v.ownBlock = some g → w0.heap.size ≤ g := fun g hg => (h.row.lt g hg).1
  have ho := h.only.of_grown hg hr
  have ho2 := ho.setNew (g := g3) (by omega) 3 v'
  have hne : ∀ g, v'.ownBlock = some g → g3 < g := fun g hg2 => by
    rcases hw with hw | hw
    · exact h.ne g (hw ▸ hg2)
    · have := hw g hg2; have := h.x.lt; omega
  have hbk : Blk w' b 84 [.slice A n c, .int .i64 s.p, .int .i64 en, .int .i64 s.fa, .int .i64 s.fe] := h.rd.blk.grown hg (fun e => by have := hr b e.symm; omega)
  refine ⟨h0.of (hbk.far (p := ⟨g3, 3, none⟩) (show b ≠ g3 by omega) _) ho2 h.rd.le, ho2, ?_, ?_, ?_, hne, h2, h3, hb⟩
  · exact (h.z_.grown hg (fun e => by have := h.ne g2 e.symm; omega)).far (p := ⟨g3, 3, none⟩) (show g2 ≠ g3 by omega) _
  · exact (h.x.grown hg (fun e => by have := h.ne g3 e.symm; omega)).set 3 v'
  · rw [List.length_append, names_grow]
    exact own_grown hown (only_setCell (World.grownBy.refl w' (some g3)) (p := ⟨g3, 3, none⟩) (.inl rfl) v') (fun g hg2 e => by have := hne g hg2; injection e with e; omega)
theorem OnAt.kid (h : OnAt b A n c ts en s w0 g2 g3 k v ns kv w) (h0 : RdAt b A n c ts en s' w0) (y : Value) : OnAt b A n c ts en s w0 g2 g3 k v ns y (w.setCell ⟨g3, 4, none⟩ y) := by
  have h2 := h.l2; have h3 := h.l3; have hb := h.lb
  have ho2 := h.only.setNew (g := g3) (by omega) 4 y
  exact ⟨h0.of (h.rd.blk.far (p := ⟨g3, 4, none⟩) (show b ≠ g3 by omega) _) ho2 h.rd.le, ho2, h.z_.far (p := ⟨g3, 4, none⟩) (show g2 ≠ g3 by omega) _, h.x.set 4 _, own_grown h.row (only_setCell (World.grownBy.refl w (some g3)) (p := ⟨g3, 4, none⟩) (.inl rfl) _) (fun g hg2 e => by have := h.ne g hg2; injection e with e; omega), h.ne, h2, h3, hb⟩
theorem OnAt.ans {d gk sx : Nat} {x : XE} (h : OnAt b A n c ts en s w0 g2 g3 k v ns (.slice (some ⟨gk, 0, none⟩) 1 1) w) (h0 : RdAt b A n c ts en s' w0) (hx : Kid d sx gk x w) (hs : g2 < sx) :
    XAns b A n c ts en (d + 1) (.mk k 0 [] ns [x.pe], s) w0 (.returned (.agg #[.int .i64 k, .int .i64 0, .slice none 0 0, v, .slice (some ⟨gk, 0, none⟩) 1 1])) (set5W w g2 (.int .i64 k) (.int .i64 0) (.slice none 0 0) v (.slice (some ⟨gk, 0, none⟩) 1 1)) := by
  have h2 := h.l2; have h3 := h.l3; have hb := h.lb
  have hlt := hx.lt
  have hg := set5W_grown w g2 (.int .i64 k) (.int .i64 0) (.slice none 0 0) v (.slice (some ⟨gk, 0, none⟩) 1 1)
  have ho := h.only.of_grown hg (fun g e => by injection e with e; omega)
  have hrow := own_grown h.row hg (fun g hg2 e => by have := h.ne g hg2; injection e with e; omega)
  have kx := hx.grown hg hs
  have hbk : Blk (set5W w g2 (.int .i64 k) (.int .i64 0) (.slice none 0 0) v (.slice (some ⟨gk, 0, none⟩) 1 1)) gk 26 (kcells [x]) := kx.blk
  refine ⟨.mk k 0 (.slice none 0 0) [] v ns (.slice (some ⟨gk, 0, none⟩) 1 1) [x], rfl, rfl, okX_far (FarS.nil 3) (FarS.own hrow (fun g hg2 e => by have := (hrow.lt g hg2).1; omega)) (FarS.slc (n := 1) (size := 5) hbk (by omega) rfl (by omega)) (fun q hq => ?_), h0.of (h.rd.blk.grown hg (fun e => by injection e with e; omega)) ho h.rd.le, ho⟩
  rw [List.mem_singleton] at hq
  subst hq
  exact kx.far.mono (fun q _ hq => by omega)
end
theorem name_left {ts : List Tok} {en : Int} {s : PS} {n : Nat} (hl : ts.length = n) (hp : s.p ≤ n) (hf : s.fe = 0) (q : Bool) : (takeF ts en (if q = true then s else mustF ts en s 4 ⟨#[44]⟩) 2).2.p ≤ n ∧ leftF n (takeF ts en (if q = true then s else mustF ts en s 4 ⟨#[44]⟩) 2).2 < leftF n s := by
  cases q with
  | true =>
    rw [if_pos rfl]
    have h := step_take (en := en) hl hp (kd := 2) (by decide)
    exact ⟨h.1.1, h.2 hf⟩
  | false =>
    rw [if_neg (by simp)]
    have h1 := step_must (en := en) hl hp (kd := 4) (by decide) ⟨#[44]⟩
    have h := step_take (en := en) hl h1.1 (kd := 2) (by decide)
    refine ⟨h.1.1, Nat.lt_of_le_of_lt h.1.2 ?_⟩
    unfold mustF
    by_cases hq : isF ts s 4 ⟨#[44]⟩ = true
    · rw [if_pos hq]
      exact leftF_next n s hf (by have := (isF_lt (by decide) hq).2; omega)
    · rw [if_neg hq, leftF_fail ts en s n 1 (by decide) hp]
      have := leftF_zero n s hf hp
      omega
end Go.Proofs.YtnkbpcenkbihpaaDoor

namespace Go.Proofs.YtnkbpcenkbihpaaDoor
open Go.ChangeShapes Go.WideShapes Go.ChangeAt Go.RowKit
set_option linter.unusedVariables false
set_option linter.unusedSimpArgs false
set_option maxRecDepth 100000
set_option maxHeartbeats 4000000 in
theorem one_x (b : Nat) (A : Option Addr) (n c : Nat) (ts : List Tok) (en : Int) (f : Nat) (IH : ExprSaid b A n c ts en f) (hn : n ≤ 1000000) (kd : Int) (deep : Nat) (s : PS) (w : World) (hd : deep + (f + 1) = 9) (h : RdAt b A n c ts en s w) :
    Calls Tryd.prog 70 #[.pointer (some ⟨b, 0, none⟩), .int .i64 kd, .int .i64 (deep : Nat)] w fun e w' => XAns b A n c ts en (f + 2) (ofOneF ts en n (exprF ts en n f) kd s) w e w' := by
  have HR0 := Lib.hid h
  have HLEN := Lib.hid h.len
  have hbw : b < w.heap.size := h.blk.lt
  have HIH := Lib.hid IH
  have hde : IntKind.i64.wrap ((deep : Int) + 1) = (deep : Int) + 1 := by rw [IntKind.wrap_i64]; omega
  have HD := Lib.hid hd
  obtain ⟨i0, hi0, hz0, hz1, hz2⟩ := info_parts Tryd.infoStr5
  have HTA := Lib.hid (take_any b A n c ts en s 2 ((w.alloc (.cells #[.int .i64 0, .int .i64 0, .slice none 0 0, .slice none 0 0, .slice none 0 0] 26)).alloc (.cells #[.int .i64 kd, .int .i64 0, .slice none 0 0, .slice none 0 0, .slice none 0 0] 26)) ((h.alloc _).alloc _) (by decide) hn)
  have HP0 : Hid (OnAt b A n c ts en s w w.heap.size (w.heap.size + 1) kd (.slice none 0 0) [] (.slice none 0 0) ((w.alloc (.cells #[.int .i64 0, .int .i64 0, .slice none 0 0, .slice none 0 0, .slice none 0 0] 26)).alloc (.cells #[.int .i64 kd, .int .i64 0, .slice none 0 0, .slice none 0 0, .slice none 0 0] 26))) := Lib.hid ⟨(h.alloc _).alloc _, ((Only.of_below (Below.refl w.heap.size w)).alloc _).alloc _, (Blk.mk (heap_alloc_new w _)).alloc _, by have hh := (Blk.mk (heap_alloc_new (w.alloc (.cells #[.int .i64 0, .int .i64 0, .slice none 0 0, .slice none 0 0, .slice none 0 0] 26)) (.cells #[.int .i64 kd, .int .i64 0, .slice none 0 0, .slice none 0 0, .slice none 0 0] 26)) : Blk _ (w.alloc (.cells #[.int .i64 0, .int .i64 0, .slice none 0 0, .slice none 0 0, .slice none 0 0] 26)).heap.size 26 [.int .i64 kd, .int .i64 0, .slice none 0 0, .slice none 0 0, .slice none 0 0]); simpa using hh, own_nil _ _ _ _, (fun g hg => by cases hg), Nat.le_refl _, Nat.lt_succ_self _, hbw⟩
  have HFF : Hid (∃ t0 s1 s2 s3 nE sE s4 t1 s5 s6, takeF ts en s 2 = (t0, s1) ∧ mustF ts en s1 2 ⟨#[98, 121]⟩ = s2 ∧ mustF ts en s2 4 ⟨#[40]⟩ = s3 ∧ nsF ts en (n + 2) [] s3 = (nE, sE) ∧ mustF ts en sE 4 ⟨#[40]⟩ = s4 ∧ exprF ts en n f s4 = (t1, s5) ∧ mustF ts en s5 4 ⟨#[41]⟩ = s6 ∧ ofOneF ts en n (exprF ts en n f) kd s = (.mk kd 0 [] nE [t1], s6)) := Lib.hid ⟨_, _, _, _, _, _, _, _, _, _, rfl, rfl, rfl, rfl, rfl, rfl, rfl, rfl⟩
  obtain ⟨t0, s1, s2, s3, nE, sE, s4, t1, s5, s6, e1, e2, e3, e4, e5, e6, e7, e8⟩ := HFF.out
  rw [e1] at HTA
  rw [e8]
  unfold Tok.val at HTA
  have E2 := Lib.hid e2; have E3 := Lib.hid e3; have HMS := Lib.hid e4; have E5 := Lib.hid e5; have E6 := Lib.hid e6; have E7 := Lib.hid e7
  clear h e1 e2 e3 e4 e5 e6 e7 e8 HFF IH hd
  have HG := Lib.hid (show ∃ g, w.heap.size = g from ⟨_, rfl⟩)
  have HG3 := Lib.hid (show ∃ g, w.heap.size + 1 = g from ⟨_, rfl⟩)
  go_enter Tryd.func70, Tryd.ntmps70
  go_upto_region 2 with fail
  obtain ⟨g3, hg3'⟩ := HG3.out
  obtain ⟨g2, hg2'⟩ := HG.out
  rw [hg3'] at HP0 ⊢
  rw [hg2'] at HP0 ⊢
  clear HG HG3
  generalize (w.alloc (.cells #[.int .i64 0, .int .i64 0, .slice none 0 0, .slice none 0 0, .slice none 0 0] 26)).alloc (.cells #[.int .i64 kd, .int .i64 0, .slice none 0 0, .slice none 0 0, .slice none 0 0] 26) = W2 at *
  go_wp2_with fail
  (with_reducible refine HTA.out.mono ?_); rintro e w1 ⟨rfl, hm⟩
  have HP1 := Lib.hid (HP0.out.moved hm)
  have HX := Lib.hid (must_any b A n c ts en s1 2 ⟨#[98, 121]⟩ _ hm.rd (by decide) hn)
  rw [E2.out] at HX
  clear hm HTA HP0
  go_wp2_with fail
  (with_reducible refine HX.out.mono ?_); rintro e w2 ⟨rfl, hm⟩
  have HP2 := Lib.hid (HP1.out.moved hm)
  have HY := Lib.hid (must_any b A n c ts en s2 4 ⟨#[40]⟩ _ hm.rd (by decide) hn)
  rw [E3.out] at HY
  clear hm HX HP1
  go_wp2_with fail
  (with_reducible refine HY.out.mono ?_); rintro e w3 ⟨rfl, hm⟩
  have HP3 := Lib.hid (HP2.out.moved hm)
  clear hm HY HP2
  go_upto_block 0 with fail
  go_cut [] from 16 to 40 (fun wx => ∃ v, OnAt b A n c ts en sE w g2 g3 kd v nE (.slice none 0 0) wx)
  case first =>
    go_wp2_with fail
    go_loopg [] (n + 2) (fun g wr => ∃ (s' : PS) (ns : List ByteArray) (v : Value), leftF n s' ≤ g ∧ ns.length + leftF n s' ≤ n + 2 ∧ nsF ts en g ns s' = (nE, sE) ∧ OnAt b A n c ts en s' w g2 g3 kd v ns (.slice none 0 0) wr)
    case atStart => exact ⟨s3, [], .slice none 0 0, by unfold leftF; split <;> omega, by unfold leftF; simp only [List.length_nil]; split <;> omega, HMS.out, HP3.out⟩
    case round =>
      obtain ⟨s', ns, v, hfu, hml, hms, hat⟩ := hrel
      have HF := Lib.hid hms; have HA := Lib.hid hat
      have HFU := Lib.hid hfu; have HML := Lib.hid hml
      have HLE := Lib.hid hat.rd.le
      clear hms hat hfu hml HMS HP3
      cases gk with
      | zero => exact absurd HFU.out (by have := leftF_pos n s' HLE.out; omega)
      | succ g =>
        obtain ⟨c0, c1, c2, c3, c4⟩ := HA.out.rd.cells
        by_cases hfe : s'.fe = 0
        · have t1 : (s'.fe == 0) = true := by rw [hfe]; rfl
          cases hq : isF ts s' 4 ⟨#[41]⟩ with
          | true =>
            have HE := Lib.hid (show (ns, nextF s') = (nE, sE) by rw [← HF.out]; unfold nsF; rw [if_pos hfe, if_pos hq])
            have HS := Lib.hid (skip_yes (tx := ⟨#[41]⟩) HA.out.rd (show (4 : Int) ≠ 0 by decide) hn hq)
            clear hq hfe HF
            go_wp2_with fail
            (with_reducible refine HS.out.mono ?_); rintro e w5 ⟨rfl, hm⟩
            have HX := Lib.hid (HA.out.moved hm)
            clear hm
            go_wp2_with fail
            go_meet
            have he := HE.out
            injection he with he1 he2
            rw [← he1, ← he2]; exact ⟨v, HX.out⟩
          | false =>
            have HS := Lib.hid (skip_no (tx := ⟨#[41]⟩) HA.out.rd (show (4 : Int) ≠ 0 by decide) hn hq)
            have HF2 : Hid (∃ s2 : PS, (if ns.length = 0 then s' else mustF ts en s' 4 ⟨#[44]⟩) = s2 ∧ nsF ts en g (ns ++ [(takeF ts en s2 2).1.tx]) (takeF ts en s2 2).2 = (nE, sE) ∧ (takeF ts en s2 2).2.p ≤ n ∧ leftF n (takeF ts en s2 2).2 < leftF n s') := Lib.hid ⟨_, rfl, by rw [← HF.out]; conv => rhs; unfold nsF; rw [if_pos hfe, if_neg (by rw [hq]; simp)], by simpa using name_left (en := en) HLEN.out HLE.out hfe (decide (ns.length = 0))⟩
            obtain ⟨sx, hsx, hmx, hpx, hlx⟩ := HF2.out
            have HSX := Lib.hid hsx; have HMX := Lib.hid hmx; have HLX := Lib.hid hlx
            obtain ⟨Av, cv, hv, _, _⟩ := own_slice HA.out.row
            subst hv
            clear hq hfe HF HF2 hsx hmx hpx hlx
            go_wp2_with fail
            (with_reducible refine HS.out.mono ?_); rintro e w5 ⟨rfl, hm⟩
            have HA2 := Lib.hid (HA.out.moved hm)
            clear hm HS HA c0 c1 c2 c3 c4
            obtain ⟨x0, x1, x2, x3, x4⟩ := blk_cells5 HA2.out.x
            obtain ⟨p5, hp5⟩ : ∃ p, decide (0 < ns.length) = p := ⟨_, rfl⟩
            have HPP := Lib.hid hp5
            go_upto_if 30 with fail
            clear hp5
            go_cut [] from 31 to 32 (fun wx => OnAt b A n c ts en sx w g2 g3 kd (.slice Av ns.length cv) ns (.slice none 0 0) wx)
            case first =>
              cases p5 with
              | false =>
                have h0 : ns.length = 0 := by have := of_decide_eq_false HPP.out; omega
                have HE := Lib.hid (show s' = sx by rw [← HSX.out, if_pos h0])
                clear h0
                go_wp2_with fail
                go_meet
                rw [← HE.out]; exact HA2.out
              | true =>
                have h0 : ¬ ns.length = 0 := by have := of_decide_eq_true HPP.out; omega
                have HE := Lib.hid (show mustF ts en s' 4 ⟨#[44]⟩ = sx by rw [← HSX.out, if_neg h0])
                have HM := Lib.hid (must_any b A n c ts en s' 4 ⟨#[44]⟩ _ HA2.out.rd (by decide) hn)
                rw [HE.out] at HM
                clear h0
                go_wp2_with fail
                (with_reducible refine HM.out.mono ?_); rintro e w6 ⟨rfl, hm⟩
                have HX := Lib.hid (HA2.out.moved hm)
                clear hm
                go_wp2_with fail
                go_meet
                exact HX.out
            case rest =>
              have HA3 := Lib.hid hcut
              clear hcut HA2 x0 x1 x2 x3 x4
              obtain ⟨⟨tk, tn, ta, tx⟩, sN, hmN⟩ : ∃ m sN, takeF ts en sx 2 = (m, sN) := ⟨_, _, rfl⟩
              have HMX2 := Lib.hid (show nsF ts en g (ns ++ [tx]) sN = (nE, sE) by have h := HMX.out; rw [hmN] at h; exact h)
              have HLX2 := Lib.hid (show leftF n sN < leftF n s' by have h := HLX.out; rw [hmN] at h; exact h)
              have HMT := Lib.hid (fun V (hV : RdAt b A n c ts en sx V) => by have h := take_any b A n c ts en sx 2 V hV (by decide) hn; rw [hmN] at h; unfold Tok.val at h; exact h)
              clear HMX HLX hmN
              go_upto_region 8 with fail
              obtain ⟨D, hD⟩ : ∃ D, wc.drew = D := ⟨_, rfl⟩
              have HAD := Lib.hid (show OnAt b A n c ts en sx w g2 g3 kd (.slice Av ns.length cv) ns (.slice none 0 0) D by rw [← hD]; exact HA3.out.below (Below.refl _ _).drew)
              obtain ⟨x0, x1, x2, x3, x4⟩ := blk_cells5 HAD.out.x
              have tok1 : True := trivial
              have tok2 : True := trivial
              clear HA3 x0 x1 x2 x4
              go_region_law (first
                | (have tk := tok1; (try go_simp); go_at_call 69; (with_reducible refine (HMT.out _ HAD.out.rd).mono ?_); rintro e wm ⟨rfl, hm⟩; have HAM := Lib.hid (HAD.out.moved hm); have HAB := Lib.hid (HAM.out.below ((Below.refl wm.heap.size wm).alloc (Nat.le_refl _) (.cells #[.string tx] 9))); have y2 := (blk_cells5 HAM.out.x).2.2.2.1; have z2 := (blk_cells5 HAB.out.x).2.2.2.1; have HX := Lib.hid (show Sees (wm.alloc (.cells #[.string tx] 9)) (wm.alloc (.cells #[.string tx] 9)).heap.size 1 (some ⟨wm.heap.size, 0, none⟩) 1 [.string tx] from (Blk.mk (heap_alloc_new wm _) : Blk _ wm.heap.size 9 [.string tx]).sees rfl (List.prefix_refl _)); have hbs : w.heap.size ≤ (wm.alloc (.cells #[.string tx] 9)).heap.size := HAB.out.only.size; clear tok1 tk hm)
                | (have tk := tok2; refine step_append_at3 rfl (.tmp 34) (.tmp 38) 23 rfl w.heap.size 9 i0 (.string ⟨#[]⟩) 1 16 Tryd.underlying23 hi0 hz0 hz1 hz2 rfl (by decide) (.slice Av ns.length cv) ns.length (strs ns) (by first | rfl | (simp [Act.eval]; done)) HAB.out.row _ _ 1 1 [.string tx] (by first | rfl | (simp [Act.eval]; done)) HX.out (by simp [Value.oneCell']) (by have := HML.out; unfold maxLen; omega) (by have := HML.out; omega) hbs ?_; intro v9 w9 hown9 hgr9 hwh9; obtain ⟨A9, c9, hA9, _, _⟩ := own_slice hown9; subst hA9; have HPU := Lib.hid (HAB.out.push HR0.out hown9 hgr9 hwh9); have hne9 : ∀ q, (Value.slice Av ns.length cv).ownBlock = some q → g3 < q := HAB.out.ne; have HXB := Lib.hid (HAB.out.x.grown hgr9 (fun e => by have := hne9 g3 e.symm; omega)); have f9 := HXB.out.frozen 3; have y9 := HXB.out.cell 3; clear tok2 tk hown9 hgr9 hwh9)
                | fail)
              all_goals
                clear HAD HAM HAB HX x3 y2 z2 hbs
                go_wp2_with fail
                go_roundg g
                case measure => omega
                case rel =>
                  have h1 := HLX2.out; have h2 := HFU.out; have h3 := HML.out
                  exact ⟨sN, ns ++ [tx], _, by omega, by rw [List.length_append, List.length_singleton]; omega, HMX2.out, HPU.out⟩
        · have t1 : (s'.fe == 0) = false := by rw [beq_eq_false_iff_ne]; exact hfe
          have HE := Lib.hid (show (ns, s') = (nE, sE) by rw [← HF.out]; unfold nsF; rw [if_neg hfe])
          clear hfe HF
          go_wp2_with fail
          go_meet
          have he := HE.out
          injection he with he1 he2
          rw [← he1, ← he2]; exact ⟨v, HA.out⟩
  case rest =>
    obtain ⟨v, hat⟩ := hcut
    obtain ⟨Av, cv, hv, _, _⟩ := own_slice hat.row
    subst hv
    have HA := Lib.hid hat
    have HM1 := Lib.hid (must_any b A n c ts en sE 4 ⟨#[40]⟩ _ hat.rd (by decide) hn)
    rw [E5.out] at HM1
    clear hat HP3 HMS
    go_wp2_with fail
    (with_reducible refine HM1.out.mono ?_); rintro e w5 ⟨rfl, hm⟩
    have HA1 := Lib.hid (HA.out.moved hm)
    have HC1 := Lib.hid (HIH.out (deep + 1) s4 w5 (by have := HD.out; omega) hm.rd)
    rw [E6.out, show ((deep + 1 : Nat) : Int) = (deep : Int) + 1 from rfl] at HC1
    clear hm HM1 HA
    go_wp2_with fail
    (with_reducible refine HC1.out.mono ?_); rintro e w6 hx
    obtain ⟨xk, xn, A1, c1, xms, A2, c2, xns, A3, c3, xks, rfl, hp, hf, hm⟩ := hx.forms
    have HPE := Lib.hid hp
    have hl2 := HA1.out.z_.lt
    have hl3 := HA1.out.x.lt
    have HK1 := Lib.hid (Kid.made hf hm.only.size)
    have HA2 := Lib.hid ((HA1.out.moved hm).below ((Below.refl w6.heap.size w6).alloc (Nat.le_refl _) (.cells #[.int .i64 xk, .int .i64 xn, .slice A1 xms.length c1, .slice A2 xns.length c2, .slice A3 xks.length c3] 26)))
    have HA3 := Lib.hid (HA2.out.kid HR0.out (.slice (some ⟨w6.heap.size, 0, none⟩) 1 1))
    have HK2 := Lib.hid (HK1.out.grown (only_setCell (World.grownBy.refl (w6.alloc (.cells #[.int .i64 xk, .int .i64 xn, .slice A1 xms.length c1, .slice A2 xns.length c2, .slice A3 xks.length c3] 26)) (some g3)) (p := ⟨g3, 4, none⟩) (.inl rfl) (.slice (some ⟨w6.heap.size, 0, none⟩) 1 1)) hl3)
    clear hx hp hf hm HC1 HA1 HK1
    obtain ⟨x0, x1, x2, x3, x4⟩ := blk_cells5 HA2.out.x
    obtain ⟨f0, f1, f2, f3, f4⟩ := blk_fr5 HA2.out.x
    have HG6 := Lib.hid (show ∃ g, w6.heap.size = g from ⟨_, rfl⟩)
    go_upto_region 11 with fail
    obtain ⟨g6, hg6⟩ := HG6.out
    generalize (w6.alloc (.cells #[.int .i64 xk, .int .i64 xn, .slice A1 xms.length c1, .slice A2 xns.length c2, .slice A3 xks.length c3] 26)).setCell ⟨g3, 4, none⟩ (.slice (some ⟨w6.heap.size, 0, none⟩) 1 1) = W7 at *
    rw [hg6] at HA3 HK2
    clear x0 x1 x2 x3 x4 f0 f1 f2 f3 f4 HA2 HG6 hg6
    have HM4 := Lib.hid (must_any b A n c ts en s5 4 ⟨#[41]⟩ _ HA3.out.rd (by decide) hn)
    rw [E7.out] at HM4
    go_wp2_with fail
    (with_reducible refine HM4.out.mono ?_); rintro e w8 ⟨rfl, hm⟩
    have HA4 := Lib.hid (HA3.out.moved hm)
    have HK3 := Lib.hid (HK2.out.grown hm.only.grown (by omega))
    clear hm HM4 HA3 HK2
    obtain ⟨x0, x1, x2, x3, x4⟩ := blk_cells5 HA4.out.x
    obtain ⟨z0, z1, z2, z3, z4⟩ := blk_cells5 HA4.out.z_
    obtain ⟨f0, f1, f2, f3, f4⟩ := blk_fr5 HA4.out.z_
    have HQ := Lib.hid (set5W_blk HA4.out.z_ (.int .i64 kd) (.int .i64 0) (.slice none 0 0) (.slice Av nE.length cv) (.slice (some ⟨g6, 0, none⟩) 1 1))
    have HANS := Lib.hid (HA4.out.ans HR0.out HK3.out hl2)
    rw [HPE.out] at HANS
    go_wp2_with fail
    obtain ⟨q0, q1, q2, q3, q4⟩ := blk_cells5 HQ.out
    unfold set5W at q0 q1 q2 q3 q4
    refine bodyPost_ret (v := .agg #[.int .i64 kd, .int .i64 0, .slice none 0 0, .slice Av nE.length cv, .slice (some ⟨g6, 0, none⟩) 1 1]) (by simp [results, Tryd.results70, go_sem, q0, q1, q2, q3, q4]) rfl ?_
    exact HANS.out
end Go.Proofs.YtnkbpcenkbihpaaDoor

namespace Go.Proofs.YtnkbpcenkbihpaaDoor
open Go.ChangeShapes Go.WideShapes Go.ChangeAt Go.RowKit
set_option linter.unusedVariables false
set_option linter.unusedSimpArgs false
set_option maxRecDepth 100000
/-- Within expr: both boxes. -/
structure ExAt (b : Nat) (A : Option Addr) (n c : Nat) (ts : List Tok) (en : Int) (s : PS) (w0 : World) (g4 g5 : Nat) (t : Tok) (w : World) : Prop where
  rd : RdAt b A n c ts en s w
  only : Only b w0 w
  z : Blk w g4 26 [.int .i64 0, .int .i64 0, .slice none 0 0, .slice none 0 0, .slice none 0 0]
  tk : Blk w g5 43 [.int .i64 t.kd, .int .i64 t.n, .int .i64 t.at_, .string t.tx]
  l4 : w0.heap.size ≤ g4
  l5 : g4 < g5
  lb : b < w0.heap.size
section
variable {b n c g4 g5 d : Nat} {A : Option Addr} {ts : List Tok} {en : Int} {s s' : PS} {w0 w w' : World} {t : Tok}
theorem ExAt.moved (h : ExAt b A n c ts en s w0 g4 g5 t w) (hm : Moved b A n c ts en s' w w') : ExAt b A n c ts en s' w0 g4 g5 t w' := by
  have h2 := h.l4; have h3 := h.l5; have hb := h.lb
  exact ⟨hm.rd, h.only.trans hm.only, h.z.only hm.only (by omega), h.tk.only hm.only (by omega), h2, h3, hb⟩
theorem ExAt.below (h : ExAt b A n c ts en s w0 g4 g5 t w) (hb : Below w.heap.size w w') : ExAt b A n c ts en s w0 g4 g5 t w' := h.moved ⟨h.rd.below hb, Only.of_below hb⟩
/-- A leaf, laid into the answer. -/
theorem ExAt.leaf (h : ExAt b A n c ts en s w0 g4 g5 t w) (h0 : RdAt b A n c ts en s' w0) (d : Nat) (kd y : Int) :
    XAns b A n c ts en (d + 1) (.mk kd y [] [] [], s) w0 (.returned (.agg #[.int .i64 kd, .int .i64 y, .slice none 0 0, .slice none 0 0, .slice none 0 0])) (set5W w g4 (.int .i64 kd) (.int .i64 y) (.slice none 0 0) (.slice none 0 0) (.slice none 0 0)) := by
  have h2 := h.l4; have hb := h.lb
  have hg := set5W_grown w g4 (.int .i64 kd) (.int .i64 y) (.slice none 0 0) (.slice none 0 0) (.slice none 0 0)
  have ho := h.only.of_grown hg (fun g e => by injection e with e; omega)
  exact ⟨.mk kd y (.slice none 0 0) [] (.slice none 0 0) [] (.slice none 0 0) [], rfl, rfl, okX_far (FarS.nil 3) (FarS.nil 1) (FarS.nil 5) (fun x hx => absurd hx List.not_mem_nil), h0.of (h.rd.blk.grown hg (fun e => by injection e with e; omega)) ho h.rd.le, ho⟩
/-- An answer handed on. -/
theorem ExAt.pass {x : XE} {r : PE × PS} (h : ExAt b A n c ts en s w0 g4 g5 t w) (h0 : RdAt b A n c ts en s' w0) (hx : x.pe = r.1) (hf : FarS (fun q => q < w.heap.size) (okX d x) w') (hm : Moved b A n c ts en r.2 w w') :
    XAns b A n c ts en d r w0 (.returned x.val) (set5W w' g4 (.int .i64 x.kd) (.int .i64 x.n) x.mv x.nv x.kv) := by
  have h2 := h.l4; have hb := h.lb
  have hl := h.z.lt
  have hsz := h.only.size
  have hg := set5W_grown w' g4 (.int .i64 x.kd) (.int .i64 x.n) x.mv x.nv x.kv
  have ho := (h.only.trans hm.only).of_grown hg (fun g e => by injection e with e; omega)
  exact ⟨x, hx, rfl, (hf.grown hg (fun g e => by injection e with e; omega)).mono (fun q _ hq => by omega), h0.of (hm.rd.blk.grown hg (fun e => by injection e with e; omega)) ho hm.rd.le, ho⟩
end
set_option maxHeartbeats 8000000 in
theorem expr_step (b : Nat) (A : Option Addr) (n c : Nat) (ts : List Tok) (en : Int) (hn : n ≤ 1000000) (f : Nat) (IH : ∀ f', f = f' + 1 → ExprSaid b A n c ts en f') : ExprSaid b A n c ts en f := by
  intro deep s w hd h
  have HR0 := Lib.hid h
  have hbw : b < w.heap.size := h.blk.lt
  have HIH := Lib.hid IH
  have HD := Lib.hid hd
  obtain ⟨t, ht⟩ : ∃ t, peekF ts s = t := ⟨_, rfl⟩
  obtain ⟨k, hk⟩ : ∃ k, kindF t = k := ⟨_, rfl⟩
  have HPK := Lib.hid (peek_any b A n c ts en s (w.alloc (.cells #[.int .i64 0, .int .i64 0, .slice none 0 0, .slice none 0 0, .slice none 0 0] 26)) (h.alloc _))
  rw [ht] at HPK
  unfold Tok.val at HPK
  have HKD := Lib.hid (fun V => kind_any t V)
  rw [hk] at HKD
  unfold Tok.val at HKD
  have HT := Lib.hid ht; have HK := Lib.hid hk
  have HIS := Lib.hid (fun V (hV : RdAt b A n c ts en s V) (tx : ByteArray) => is_any b A n c ts en s 4 tx V hV)
  have HX0 : Hid (∀ w1, Below (w.alloc (.cells #[.int .i64 0, .int .i64 0, .slice none 0 0, .slice none 0 0, .slice none 0 0] 26)).heap.size (w.alloc (.cells #[.int .i64 0, .int .i64 0, .slice none 0 0, .slice none 0 0, .slice none 0 0] 26)) w1 → ExAt b A n c ts en s w w.heap.size w1.heap.size t (w1.alloc (.cells #[.int .i64 t.kd, .int .i64 t.n, .int .i64 t.at_, .string t.tx] 43))) := Lib.hid (fun w1 hb => by
    have hz := (Blk.mk (heap_alloc_new w (.cells #[.int .i64 0, .int .i64 0, .slice none 0 0, .slice none 0 0, .slice none 0 0] 26)) : Blk _ w.heap.size 26 [.int .i64 0, .int .i64 0, .slice none 0 0, .slice none 0 0, .slice none 0 0])
    have hl := hz.lt
    have hs := hb.size
    exact ⟨((h.alloc (.cells #[.int .i64 0, .int .i64 0, .slice none 0 0, .slice none 0 0, .slice none 0 0] 26)).below hb).alloc _, ((((Only.refl b w).alloc (.cells #[.int .i64 0, .int .i64 0, .slice none 0 0, .slice none 0 0, .slice none 0 0] 26)).trans (Only.of_below hb)).alloc _), (hz.below hb hl).alloc _, Blk.mk (heap_alloc_new w1 _), Nat.le_refl _, by omega, hbw⟩)
  clear h ht hk IH hd
  have HG := Lib.hid (show ∃ g, w.heap.size = g from ⟨_, rfl⟩)
  go_enter Tryd.func44, Tryd.ntmps44
  go_upto_region 1 with fail
  obtain ⟨g4, hg4⟩ := HG.out
  rw [hg4]
  rw [hg4] at HX0
  clear HG hg4
  generalize w.alloc (.cells #[.int .i64 0, .int .i64 0, .slice none 0 0, .slice none 0 0, .slice none 0 0] 26) = W1 at *
  go_wp2_with fail
  (with_reducible refine HPK.out.mono ?_); rintro e w1 ⟨rfl, hb1⟩
  have HX1 := Lib.hid (HX0.out w1 hb1)
  have HG5 := Lib.hid (show ∃ g, w1.heap.size = g from ⟨_, rfl⟩)
  clear hb1 HX0 HPK
  go_upto_region 2 with fail
  obtain ⟨g5, hg5⟩ := HG5.out
  rw [hg5]
  have HX2 : Hid (ExAt b A n c ts en s w g4 g5 t (w1.alloc (.cells #[.int .i64 t.kd, .int .i64 t.n, .int .i64 t.at_, .string t.tx] 43))) := Lib.hid (by have h := HX1.out; rw [hg5] at h; exact h)
  clear HX1 HG5 hg5
  generalize w1.alloc (.cells #[.int .i64 t.kd, .int .i64 t.n, .int .i64 t.at_, .string t.tx] 43) = W2 at *
  obtain ⟨x0, x1, x2, x3⟩ := blk_cells4 HX2.out.tk
  go_wp2_with fail
  (with_reducible refine (HKD.out _).mono ?_); rintro e w3 ⟨rfl, hb⟩
  have HX3 := Lib.hid (HX2.out.below hb)
  clear hb HX2 x0 x1 x2 x3 HKD
  by_cases h1 : t.kd = 1
  · have a1 : (t.kd != 1) = false := by rw [h1]; rfl
    have a2 : (t.kd == 1) = true := by rw [h1]; rfl
    have HXL := HX3
    obtain ⟨x0, x1, x2, x3⟩ := blk_cells4 HXL.out.tk
    have HN := Lib.hid (show noneF ts s = false by unfold noneF; rw [HT.out, h1]; rfl)
    cases f with
    | zero =>
      have HE := Lib.hid (show exprF ts en n 0 s = (zeroPE, failF ts en s 6) by unfold exprF; rw [if_neg (by rw [HN.out]; simp)])
      have hd8 : ¬ (deep : Int) ≤ 8 := by have := HD.out; omega
      have HC := Lib.hid (fail_any b A n c ts en s 6 _ HXL.out.rd)
      go_wp2_with fail
      (with_reducible refine HC.out.mono ?_); rintro e wf ⟨rfl, hm⟩
      have HXF := Lib.hid (HXL.out.moved hm)
      clear hm HC
      obtain ⟨z0, z1, z2, z3, z4⟩ := blk_cells5 HXF.out.z
      obtain ⟨f0, f1, f2, f3, f4⟩ := blk_fr5 HXF.out.z
      have HQ := Lib.hid (set5W_blk HXF.out.z (.int .i64 0) (.int .i64 0) (.slice none 0 0) (.slice none 0 0) (.slice none 0 0))
      have HANS := Lib.hid (HXF.out.leaf HR0.out 0 0 0)
      go_wp2_with fail
      obtain ⟨q0, q1, q2, q3, q4⟩ := blk_cells5 HQ.out
      unfold set5W at q0 q1 q2 q3 q4
      refine bodyPost_ret (v := .agg #[.int .i64 0, .int .i64 0, .slice none 0 0, .slice none 0 0, .slice none 0 0]) (by simp [results, Tryd.results44, go_sem, q0, q1, q2, q3, q4]) rfl ?_
      rw [HE.out]; exact HANS.out
    | succ f =>
      have hd8 : (deep : Int) ≤ 8 := by have := HD.out; omega
      obtain ⟨⟨tk, tn, ta, tx⟩, s9, hm9⟩ : ∃ m sN, takeF ts en s 1 = (m, sN) := ⟨_, _, rfl⟩
      have HE := Lib.hid (show exprF ts en n (f + 1) s = (.mk 1 tn [] [] [], s9) by unfold exprF; rw [if_neg (by rw [HN.out]; simp), HT.out, if_pos h1, hm9])
      have HC := Lib.hid (take_any b A n c ts en s 1 _ HXL.out.rd (by decide) hn)
      rw [hm9] at HC
      unfold Tok.val at HC
      go_wp2_with fail
      (with_reducible refine HC.out.mono ?_); rintro e wf ⟨rfl, hm⟩
      have HXF := Lib.hid (HXL.out.moved hm)
      clear hm HC
      obtain ⟨z0, z1, z2, z3, z4⟩ := blk_cells5 HXF.out.z
      obtain ⟨f0, f1, f2, f3, f4⟩ := blk_fr5 HXF.out.z
      have HQ := Lib.hid (set5W_blk HXF.out.z (.int .i64 1) (.int .i64 tn) (.slice none 0 0) (.slice none 0 0) (.slice none 0 0))
      have HANS := Lib.hid (HXF.out.leaf HR0.out (f + 1) 1 tn)
      go_wp2_with fail
      obtain ⟨q0, q1, q2, q3, q4⟩ := blk_cells5 HQ.out
      unfold set5W at q0 q1 q2 q3 q4
      refine bodyPost_ret (v := .agg #[.int .i64 1, .int .i64 tn, .slice none 0 0, .slice none 0 0, .slice none 0 0]) (by simp [results, Tryd.results44, go_sem, q0, q1, q2, q3, q4]) rfl ?_
      rw [HE.out]; exact HANS.out
  · have a1 : (t.kd != 1) = true := by rw [bne_iff_ne]; exact h1
    have a2 : (t.kd == 1) = false := by rw [beq_eq_false_iff_ne]; exact h1
    by_cases h2 : k = 0
    · have b1 : (k == 0) = true := by rw [h2]; rfl
      have b2 : (k != 0) = false := by rw [h2]; rfl
      obtain ⟨x0, x1, x2, x3⟩ := blk_cells4 HX3.out.tk
      cases hq : isF ts s 4 ⟨#[123]⟩ with
      | true =>
        have HC := Lib.hid (HIS.out _ HX3.out.rd ⟨#[123]⟩)
        rw [hq] at HC
        go_wp2_with fail
        (with_reducible refine HC.out.mono ?_); rintro e w4 ⟨rfl, hb⟩
        have HXL := Lib.hid (HX3.out.below hb)
        clear hb HC
        obtain ⟨x0, x1, x2, x3⟩ := blk_cells4 HXL.out.tk
        have HN := Lib.hid (show noneF ts s = false by unfold noneF; rw [hq]; simp)
        cases f with
        | zero =>
          have HE := Lib.hid (show exprF ts en n 0 s = (zeroPE, failF ts en s 6) by unfold exprF; rw [if_neg (by rw [HN.out]; simp)])
          have hd8 : ¬ (deep : Int) ≤ 8 := by have := HD.out; omega
          have HC := Lib.hid (fail_any b A n c ts en s 6 _ HXL.out.rd)
          go_wp2_with fail
          (with_reducible refine HC.out.mono ?_); rintro e wf ⟨rfl, hm⟩
          have HXF := Lib.hid (HXL.out.moved hm)
          clear hm HC
          obtain ⟨z0, z1, z2, z3, z4⟩ := blk_cells5 HXF.out.z
          obtain ⟨f0, f1, f2, f3, f4⟩ := blk_fr5 HXF.out.z
          have HQ := Lib.hid (set5W_blk HXF.out.z (.int .i64 0) (.int .i64 0) (.slice none 0 0) (.slice none 0 0) (.slice none 0 0))
          have HANS := Lib.hid (HXF.out.leaf HR0.out 0 0 0)
          go_wp2_with fail
          obtain ⟨q0, q1, q2, q3, q4⟩ := blk_cells5 HQ.out
          unfold set5W at q0 q1 q2 q3 q4
          refine bodyPost_ret (v := .agg #[.int .i64 0, .int .i64 0, .slice none 0 0, .slice none 0 0, .slice none 0 0]) (by simp [results, Tryd.results44, go_sem, q0, q1, q2, q3, q4]) rfl ?_
          rw [HE.out]; exact HANS.out
        | succ f =>
          have hd8 : (deep : Int) ≤ 8 := by have := HD.out; omega
          have HE := Lib.hid (show exprF ts en n (f + 1) s = pickR ts en n s by unfold exprF; rw [if_neg (by rw [HN.out]; simp), HT.out, HK.out, if_neg h1, if_neg (by rw [h2]; simp), if_pos hq])
          have HC := Lib.hid (HIS.out _ HXL.out.rd ⟨#[123]⟩)
          rw [hq] at HC
          go_wp2_with fail
          (with_reducible refine HC.out.mono ?_); rintro e w5 ⟨rfl, hb⟩
          have HXM := Lib.hid (HXL.out.below hb)
          clear hb HC
          obtain ⟨x0, x1, x2, x3⟩ := blk_cells4 HXM.out.tk
          have HC := Lib.hid ((pick_x b A n c ts en s _ HXM.out.rd hn).mono (fun e w9 hh => hh.floors (f + 1)))
          go_wp2_with fail
          (with_reducible refine HC.out.mono ?_); rintro e wp hx
          obtain ⟨xk, xn, A1, c1, xms, A2, c2, xns, A3, c3, xks, rfl, hp, hf, hm⟩ := hx.forms
          have HANS := Lib.hid (HXM.out.pass HR0.out hp hf hm)
          have HZP := Lib.hid ((HXM.out.moved hm).z)
          clear hx hp hf hm HC
          obtain ⟨z0, z1, z2, z3, z4⟩ := blk_cells5 HZP.out
          obtain ⟨f0, f1, f2, f3, f4⟩ := blk_fr5 HZP.out
          have HQ := Lib.hid (set5W_blk HZP.out (.int .i64 xk) (.int .i64 xn) (.slice A1 xms.length c1) (.slice A2 xns.length c2) (.slice A3 xks.length c3))
          go_wp2_with fail
          obtain ⟨q0, q1, q2, q3, q4⟩ := blk_cells5 HQ.out
          unfold set5W at q0 q1 q2 q3 q4
          refine bodyPost_ret (v := .agg #[.int .i64 xk, .int .i64 xn, .slice A1 xms.length c1, .slice A2 xns.length c2, .slice A3 xks.length c3]) (by simp [results, Tryd.results44, go_sem, q0, q1, q2, q3, q4]) rfl ?_
          rw [HE.out, show f + 1 + 1 = 1 + (f + 1) by omega]; exact HANS.out
      | false =>
        have HC := Lib.hid (HIS.out _ HX3.out.rd ⟨#[123]⟩)
        rw [hq] at HC
        go_wp2_with fail
        (with_reducible refine HC.out.mono ?_); rintro e w4 ⟨rfl, hb⟩
        have HX4 := Lib.hid (HX3.out.below hb)
        clear hb HC
        obtain ⟨x0, x1, x2, x3⟩ := blk_cells4 HX4.out.tk
        cases hq2 : isF ts s 4 ⟨#[40]⟩ with
        | true =>
          have HC := Lib.hid (HIS.out _ HX4.out.rd ⟨#[40]⟩)
          rw [hq2] at HC
          go_wp2_with fail
          (with_reducible refine HC.out.mono ?_); rintro e w5 ⟨rfl, hb⟩
          have HXL := Lib.hid (HX4.out.below hb)
          clear hb HC
          obtain ⟨x0, x1, x2, x3⟩ := blk_cells4 HXL.out.tk
          have HN := Lib.hid (show noneF ts s = false by unfold noneF; rw [hq2]; simp)
          cases f with
          | zero =>
            have HE := Lib.hid (show exprF ts en n 0 s = (zeroPE, failF ts en s 6) by unfold exprF; rw [if_neg (by rw [HN.out]; simp)])
            have hd8 : ¬ (deep : Int) ≤ 8 := by have := HD.out; omega
            have HC := Lib.hid (fail_any b A n c ts en s 6 _ HXL.out.rd)
            go_wp2_with fail
            (with_reducible refine HC.out.mono ?_); rintro e wf ⟨rfl, hm⟩
            have HXF := Lib.hid (HXL.out.moved hm)
            clear hm HC
            obtain ⟨z0, z1, z2, z3, z4⟩ := blk_cells5 HXF.out.z
            obtain ⟨f0, f1, f2, f3, f4⟩ := blk_fr5 HXF.out.z
            have HQ := Lib.hid (set5W_blk HXF.out.z (.int .i64 0) (.int .i64 0) (.slice none 0 0) (.slice none 0 0) (.slice none 0 0))
            have HANS := Lib.hid (HXF.out.leaf HR0.out 0 0 0)
            go_wp2_with fail
            obtain ⟨q0, q1, q2, q3, q4⟩ := blk_cells5 HQ.out
            unfold set5W at q0 q1 q2 q3 q4
            refine bodyPost_ret (v := .agg #[.int .i64 0, .int .i64 0, .slice none 0 0, .slice none 0 0, .slice none 0 0]) (by simp [results, Tryd.results44, go_sem, q0, q1, q2, q3, q4]) rfl ?_
            rw [HE.out]; exact HANS.out
          | succ f =>
            have hd8 : (deep : Int) ≤ 8 := by have := HD.out; omega
            have HE := Lib.hid (show exprF ts en n (f + 1) s = ofTwoF ts en (exprF ts en n f) s by unfold exprF; rw [if_neg (by rw [HN.out]; simp), HT.out, HK.out, if_neg h1, if_neg (by rw [h2]; simp), if_neg (by rw [hq]; simp)])
            have HC := Lib.hid (HIS.out _ HXL.out.rd ⟨#[123]⟩)
            rw [hq] at HC
            go_wp2_with fail
            (with_reducible refine HC.out.mono ?_); rintro e w6 ⟨rfl, hb⟩
            have HXM := Lib.hid (HXL.out.below hb)
            clear hb HC
            obtain ⟨x0, x1, x2, x3⟩ := blk_cells4 HXM.out.tk
            have HC := Lib.hid (two_x b A n c ts en f (HIH.out f rfl) hn deep s _ HD.out HXM.out.rd)
            go_wp2_with fail
            (with_reducible refine HC.out.mono ?_); rintro e wp hx
            obtain ⟨xk, xn, A1, c1, xms, A2, c2, xns, A3, c3, xks, rfl, hp, hf, hm⟩ := hx.forms
            have HANS := Lib.hid (HXM.out.pass HR0.out hp hf hm)
            have HZP := Lib.hid ((HXM.out.moved hm).z)
            clear hx hp hf hm HC
            obtain ⟨z0, z1, z2, z3, z4⟩ := blk_cells5 HZP.out
            obtain ⟨f0, f1, f2, f3, f4⟩ := blk_fr5 HZP.out
            have HQ := Lib.hid (set5W_blk HZP.out (.int .i64 xk) (.int .i64 xn) (.slice A1 xms.length c1) (.slice A2 xns.length c2) (.slice A3 xks.length c3))
            go_wp2_with fail
            obtain ⟨q0, q1, q2, q3, q4⟩ := blk_cells5 HQ.out
            unfold set5W at q0 q1 q2 q3 q4
            refine bodyPost_ret (v := .agg #[.int .i64 xk, .int .i64 xn, .slice A1 xms.length c1, .slice A2 xns.length c2, .slice A3 xks.length c3]) (by simp [results, Tryd.results44, go_sem, q0, q1, q2, q3, q4]) rfl ?_
            rw [HE.out]; exact HANS.out
        | false =>
          have HC := Lib.hid (HIS.out _ HX4.out.rd ⟨#[40]⟩)
          rw [hq2] at HC
          go_wp2_with fail
          (with_reducible refine HC.out.mono ?_); rintro e w5 ⟨rfl, hb⟩
          have HX5 := Lib.hid (HX4.out.below hb)
          clear hb HC
          obtain ⟨x0, x1, x2, x3⟩ := blk_cells4 HX5.out.tk
          have HE := Lib.hid (show exprF ts en n f s = (zeroPE, failF ts en s 1) by
            have hno : noneF ts s = true := by unfold noneF; rw [HT.out, HK.out, a1, b1, hq, hq2]; rfl
            cases f with
            | zero => unfold exprF; rw [if_pos hno]
            | succ f => unfold exprF; rw [if_pos hno])
          have HC := Lib.hid (fail_any b A n c ts en s 1 _ HX5.out.rd)
          go_wp2_with fail
          (with_reducible refine HC.out.mono ?_); rintro e wf ⟨rfl, hm⟩
          have HXF := Lib.hid (HX5.out.moved hm)
          clear hm HC
          obtain ⟨z0, z1, z2, z3, z4⟩ := blk_cells5 HXF.out.z
          obtain ⟨f0, f1, f2, f3, f4⟩ := blk_fr5 HXF.out.z
          have HQ := Lib.hid (set5W_blk HXF.out.z (.int .i64 0) (.int .i64 0) (.slice none 0 0) (.slice none 0 0) (.slice none 0 0))
          have HANS := Lib.hid (HXF.out.leaf HR0.out f 0 0)
          go_wp2_with fail
          obtain ⟨q0, q1, q2, q3, q4⟩ := blk_cells5 HQ.out
          unfold set5W at q0 q1 q2 q3 q4
          refine bodyPost_ret (v := .agg #[.int .i64 0, .int .i64 0, .slice none 0 0, .slice none 0 0, .slice none 0 0]) (by simp [results, Tryd.results44, go_sem, q0, q1, q2, q3, q4]) rfl ?_
          rw [HE.out]; exact HANS.out
    · have b1 : (k == 0) = false := by rw [beq_eq_false_iff_ne]; exact h2
      have b2 : (k != 0) = true := by rw [bne_iff_ne]; exact h2
      have HXL := HX3
      obtain ⟨x0, x1, x2, x3⟩ := blk_cells4 HXL.out.tk
      have HN := Lib.hid (show noneF ts s = false by unfold noneF; rw [HT.out, HK.out, b1]; simp)
      cases f with
      | zero =>
        have HE := Lib.hid (show exprF ts en n 0 s = (zeroPE, failF ts en s 6) by unfold exprF; rw [if_neg (by rw [HN.out]; simp)])
        have hd8 : ¬ (deep : Int) ≤ 8 := by have := HD.out; omega
        have HC := Lib.hid (fail_any b A n c ts en s 6 _ HXL.out.rd)
        go_wp2_with fail
        (with_reducible refine HC.out.mono ?_); rintro e wf ⟨rfl, hm⟩
        have HXF := Lib.hid (HXL.out.moved hm)
        clear hm HC
        obtain ⟨z0, z1, z2, z3, z4⟩ := blk_cells5 HXF.out.z
        obtain ⟨f0, f1, f2, f3, f4⟩ := blk_fr5 HXF.out.z
        have HQ := Lib.hid (set5W_blk HXF.out.z (.int .i64 0) (.int .i64 0) (.slice none 0 0) (.slice none 0 0) (.slice none 0 0))
        have HANS := Lib.hid (HXF.out.leaf HR0.out 0 0 0)
        go_wp2_with fail
        obtain ⟨q0, q1, q2, q3, q4⟩ := blk_cells5 HQ.out
        unfold set5W at q0 q1 q2 q3 q4
        refine bodyPost_ret (v := .agg #[.int .i64 0, .int .i64 0, .slice none 0 0, .slice none 0 0, .slice none 0 0]) (by simp [results, Tryd.results44, go_sem, q0, q1, q2, q3, q4]) rfl ?_
        rw [HE.out]; exact HANS.out
      | succ f =>
        have hd8 : (deep : Int) ≤ 8 := by have := HD.out; omega
        have HE := Lib.hid (show exprF ts en n (f + 1) s = ofOneF ts en n (exprF ts en n f) k s by unfold exprF; rw [if_neg (by rw [HN.out]; simp), HT.out, HK.out, if_neg h1, if_pos h2])
        have HC := Lib.hid (one_x b A n c ts en f (HIH.out f rfl) hn k deep s _ HD.out HXL.out.rd)
        go_wp2_with fail
        (with_reducible refine HC.out.mono ?_); rintro e wp hx
        obtain ⟨xk, xn, A1, c1, xms, A2, c2, xns, A3, c3, xks, rfl, hp, hf, hm⟩ := hx.forms
        have HANS := Lib.hid (HXL.out.pass HR0.out hp hf hm)
        have HZP := Lib.hid ((HXL.out.moved hm).z)
        clear hx hp hf hm HC
        obtain ⟨z0, z1, z2, z3, z4⟩ := blk_cells5 HZP.out
        obtain ⟨f0, f1, f2, f3, f4⟩ := blk_fr5 HZP.out
        have HQ := Lib.hid (set5W_blk HZP.out (.int .i64 xk) (.int .i64 xn) (.slice A1 xms.length c1) (.slice A2 xns.length c2) (.slice A3 xks.length c3))
        go_wp2_with fail
        obtain ⟨q0, q1, q2, q3, q4⟩ := blk_cells5 HQ.out
        unfold set5W at q0 q1 q2 q3 q4
        refine bodyPost_ret (v := .agg #[.int .i64 xk, .int .i64 xn, .slice A1 xms.length c1, .slice A2 xns.length c2, .slice A3 xks.length c3]) (by simp [results, Tryd.results44, go_sem, q0, q1, q2, q3, q4]) rfl ?_
        rw [HE.out]; exact HANS.out
/-- expr reads what exprF tells. -/
theorem expr_x (b : Nat) (A : Option Addr) (n c : Nat) (ts : List Tok) (en : Int) (hn : n ≤ 1000000) : ∀ f, ExprSaid b A n c ts en f
  | 0 => expr_step b A n c ts en hn 0 (fun f' h => by omega)
  | f + 1 => expr_step b A n c ts en hn (f + 1) (fun f' h => by injection h with h; subst h; exact expr_x b A n c ts en hn f)
end Go.Proofs.YtnkbpcenkbihpaaDoor

namespace Go.Proofs.YtnkbpcenkbihpaaDoor
open Go.ChangeShapes Go.WideShapes Go.ChangeAt Go.RowKit
set_option linter.unusedVariables false
set_option linter.unusedSimpArgs false
set_option maxRecDepth 100000
/-- Within Quote: a row of its own of these bytes. -/
structure QAt (w : World) (A : Option Addr) (n c : Nat) (l : List UInt8) (wx : World) : Prop where
  row : wx.ownsRow w.heap.size 5 1 (.slice A n c) n (Lib.byteCells l)
  len : l.length = n
  bel : Below w.heap.size w wx
theorem QAt.one {w : World} (b : UInt8) (z : Int) (hz : z = b.toNat) : QAt w (some ⟨w.heap.size, 0, none⟩) 1 1 [b] (w.alloc (.cells #[.int .u8 z] 5)) := by
  subst hz
  exact ⟨(Blk.mk (heap_alloc_new w _) : Blk _ w.heap.size 5 [.int .u8 (b.toNat : Int)]).owns (n := 1) (cap := 1) (size := 1) (Nat.le_refl _) (Nat.le_refl _) (by unfold maxLen; omega) rfl, rfl, (Below.refl _ _).alloc (Nat.le_refl _) _⟩
theorem QAt.next {w wx w3 : World} {A A3 : Option Addr} {n c c3 : Nat} {l : List UInt8} {o : Obj} (h : QAt w A n c l wx) (b : UInt8) (hown : w3.ownsRow w.heap.size 5 1 (.slice A3 (n + 1) c3) (n + 1) (Lib.byteCells l ++ Lib.byteCells [b])) (hg : (wx.alloc o).grownBy w3 (Value.slice A n c).ownBlock) : QAt w A3 (n + 1) c3 (l ++ [b]) w3 :=
  ⟨by rw [Lib.byteCells_append]; exact hown, by rw [List.length_append, h.len]; rfl, (h.bel.alloc h.bel.size o).grown hg (Nat.le_trans h.bel.size (by simp)) (fun g hg => (h.row.lt g hg).1)⟩
theorem byte_eq {x : UInt8} {k : Nat} (hk : k < 256) : ((x.toNat : Int) == (k : Int)) = decide (x = UInt8.ofNat k) := by
  rw [Bool.eq_iff_iff, beq_iff_eq, decide_eq_true_iff]
  constructor
  · intro h; exact UInt8.toNat_inj.1 (by rw [UInt8.toNat_ofNat']; omega)
  · intro h; rw [h, UInt8.toNat_ofNat']; omega
theorem escL_snoc (s : ByteArray) (k : Nat) (h : k < s.size) : escL (s.data.toList.take (k + 1)) = escL (s.data.toList.take k) ++ (if escB s[k] then [92, s[k]] else [s[k]]) := by
  rw [take_snoc_b s k h, escL_append, escL_one]
end Go.Proofs.YtnkbpcenkbihpaaDoor

namespace Go.Proofs.YtnkbpcenkbihpaaDoor
open Go.ChangeShapes Go.WideShapes Go.ChangeAt Go.RowKit
set_option linter.unusedVariables false
set_option linter.unusedSimpArgs false
set_option maxRecDepth 100000
/-- Decimal digits, none of nought. -/
def preD (u : Nat) : List UInt8 := if u = 0 then [] else Lib.decDigits u
theorem decD_step (u : Nat) : Lib.decDigits u = preD (u / 10) ++ [UInt8.ofNat (48 + u % 10)] := by
  by_cases h : u < 10
  · rw [Lib.decDigits, dif_pos h, preD, if_pos (by omega), List.nil_append, Nat.mod_eq_of_lt h]
  · rw [Lib.decDigits, dif_neg h, preD, if_neg (by omega)]
theorem preD_pos {u : Nat} (h : 0 < u) : preD u = Lib.decDigits u := by rw [preD, if_neg (by omega)]
theorem ba_cat (a b : List UInt8) : (⟨a.toArray⟩ : ByteArray) ++ ⟨b.toArray⟩ = ⟨(a ++ b).toArray⟩ := by
  show ByteArray.append _ _ = _
  apply ByteArray.ext
  simp
def NumInv (U u : Nat) (l : List UInt8) : Prop := (l = [] ∧ u = U) ∨ (l ≠ [] ∧ u ≤ U ∧ Lib.decDigits U = preD u ++ l)
theorem NumInv.le {U u : Nat} {l : List UInt8} (h : NumInv U u l) : u ≤ U := by
  rcases h with ⟨_, h⟩ | ⟨_, h, _⟩ <;> omega
theorem decD_len (u : Nat) : (Lib.decDigits u).length = Lib.nDigits u := by
  induction u using Nat.strongRecOn with
  | _ u ih =>
    rw [Lib.decDigits, Lib.nDigits]
    split
    · rfl
    · rw [List.length_append, ih _ (by omega)]; rfl
theorem NumInv.len {U u : Nat} {l : List UInt8} (h : NumInv U u l) (hU : U ≤ 9223372036854775808) : l.length ≤ 20 := by
  rcases h with ⟨h, _⟩ | ⟨_, _, h⟩
  · rw [h]; simp
  · have h1 := congrArg List.length h
    rw [decD_len, List.length_append] at h1
    have := Lib.nDigits_le20 U (by omega)
    omega
theorem NumInv.next {U u : Nat} {l : List UInt8} (h : NumInv U u l) (hu : l = [] ∨ 0 < u) : NumInv U (u / 10) (UInt8.ofNat (48 + u % 10) :: l) := by
  have hl := h.le
  refine .inr ⟨by simp, by omega, ?_⟩
  rcases h with ⟨h1, h2⟩ | ⟨h1, _, h2⟩
  · subst h1; subst h2; exact decD_step u
  · have h3 : 0 < u := hu.resolve_left h1
    rw [h2, preD_pos h3, decD_step u, List.append_assoc]; rfl
end Go.Proofs.YtnkbpcenkbihpaaDoor

namespace Go.Proofs.YtnkbpcenkbihpaaDoor
open Go.ChangeShapes Go.WideShapes Go.ChangeAt Go.RowKit
set_option linter.unusedVariables false
set_option maxRecDepth 100000
/-- Signs of two, words of one. -/
def opsL : List ByteArray := [⟨#[43]⟩, ⟨#[45]⟩, ⟨#[42]⟩, ⟨#[47]⟩, ⟨#[37]⟩, ⟨#[61, 61]⟩, ⟨#[33, 61]⟩, ⟨#[60]⟩, ⟨#[60, 61]⟩, ⟨#[62]⟩, ⟨#[62, 61]⟩, ⟨#[97, 110, 100]⟩, ⟨#[111, 114]⟩, ⟨#[117, 110, 108, 101, 115, 115]⟩]
def aggsL : List ByteArray := [⟨#[115, 117, 109]⟩, ⟨#[109, 105, 110]⟩, ⟨#[109, 97, 120]⟩, ⟨#[99, 111, 117, 110, 116]⟩]
/-- Names with commas between. -/
def joinN : List ByteArray → List UInt8
  | [] => []
  | x :: l => x.data.toList ++ (if l.isEmpty then [] else 44 :: joinN l)
theorem joinN_snoc (l : List ByteArray) (x : ByteArray) : joinN (l ++ [x]) = joinN l ++ (if l.isEmpty then x.data.toList else 44 :: x.data.toList) := by
  induction l with
  | nil => simp [joinN]
  | cons y l ih =>
    rw [List.cons_append, joinN, joinN, ih]
    cases l <;> simp [joinN]
/-- An expression's text. -/
def printX : Nat → XE → List UInt8
  | 0, _ => []
  | d + 1, x =>
    if x.kd = 1 then Lib.itoa x.n
    else if x.kd = 2 then 123 :: (joinM x.ms ++ (125 :: 91 :: (Lib.itoa x.n ++ [93])))
    else if 17 ≤ x.kd then (aggsL.getD (x.kd - 17).toNat ⟨#[]⟩).data.toList ++ ([32, 98, 121, 32, 40] ++ (joinN x.ns ++ ([41, 32, 40] ++ ((x.kids.head?.map (printX d)).getD [] ++ [41]))))
    else 40 :: ((x.kids.head?.map (printX d)).getD [] ++ (32 :: ((opsL.getD (x.kd - 3).toNat ⟨#[]⟩).data.toList ++ (32 :: ((x.kids[1]?.map (printX d)).getD [] ++ [41])))))
/-- What can be printed: of so many floors, with few matchers and names, short ones. -/
def goodX : Nat → XE → Prop
  | 0, _ => False
  | d + 1, x => 1 ≤ x.kd ∧ x.kd ≤ 20 ∧ I64 x.n ∧ (x.kd = 2 → x.ms.length ≤ 6 ∧ ∀ m ∈ x.ms, m.1.size ≤ 24 ∧ m.2.1.size ≤ 24 ∧ 1 ≤ m.2.2 ∧ m.2.2 ≤ 4)
      ∧ (17 ≤ x.kd → x.ns.length ≤ 6 ∧ (∀ s ∈ x.ns, s.size ≤ 24) ∧ ∃ a, x.kids = [a] ∧ goodX d a)
      ∧ (3 ≤ x.kd → x.kd ≤ 16 → ∃ a b, x.kids = [a, b] ∧ goodX d a ∧ goodX d b)
theorem goodX_more : ∀ (d : Nat) (x : XE), goodX d x → goodX (d + 1) x
  | 0, _, h => h.elim
  | d + 1, x, h => ⟨h.1, h.2.1, h.2.2.1, h.2.2.2.1, fun h16 => by
      obtain ⟨h1, h2, a, e, h3⟩ := h.2.2.2.2.1 h16
      exact ⟨h1, h2, a, e, goodX_more d a h3⟩, fun h3 h15 => by
      obtain ⟨a, b, e, h1, h2⟩ := h.2.2.2.2.2 h3 h15
      exact ⟨a, b, e, goodX_more d a h1, goodX_more d b h2⟩⟩
theorem keepNum_good {x : XE} {d : Nat} {hi : Int} (hhi : hi ≤ 9) (h : x.kd = 1 ∧ -3 ≤ x.n ∧ x.n ≤ hi ∧ x.ms = [] ∧ x.ns = [] ∧ x.kids = []) : goodX (d + 1) x := by
  obtain ⟨h1, h2, h3, h4, h5, h6⟩ := h
  exact ⟨by omega, by omega, by unfold I64; omega, fun e => absurd e (by omega), fun e => absurd e (by omega), fun e => absurd e (by omega)⟩
theorem keepN_pos {d : Nat} {x : XE} (h : keepN d x) : 0 < d := by
  cases d with
  | zero => exact h.elim
  | succ d => omega
theorem keepV_pos {d : Nat} {x : XE} (h : keepV d x) : 0 < d := by
  cases d with
  | zero => exact h.elim
  | succ d => omega
theorem keepN_good : ∀ (d : Nat) (x : XE), keepN d x → goodX d x
  | 0, _, h => h.elim
  | d + 1, x, h => by
    rcases h with h | ⟨h1, h2, h3, h4, h5, a, b, hk, ha, hb⟩
    · exact keepNum_good (by omega) h
    · have hd := keepN_pos hb
      obtain ⟨d', rfl⟩ : ∃ d', d = d' + 1 := ⟨d - 1, by omega⟩
      exact ⟨by omega, by omega, by unfold I64; omega, fun e => absurd e (by omega), fun e => absurd e (by omega), fun _ _ => ⟨a, b, hk, keepNum_good (by omega) ha, keepN_good _ b hb⟩⟩
theorem keepName_size : ∀ a, a < 4 → (keepNames.getD a ⟨#[]⟩).size ≤ 4 := by
  intro a ha
  match a, ha with
  | 0, _ => decide
  | 1, _ => decide
  | 2, _ => decide
  | 3, _ => decide
theorem keepValue_size : ∀ a, a < 8 → (keepValues.getD a ⟨#[]⟩).size ≤ 3 := by
  intro a ha
  match a, ha with
  | 0, _ => decide
  | 1, _ => decide
  | 2, _ => decide
  | 3, _ => decide
  | 4, _ => decide
  | 5, _ => decide
  | 6, _ => decide
  | 7, _ => decide
theorem keepMs_good {ms : List Mtc} (h : keepMs ms) : ms.length ≤ 6 ∧ ∀ m ∈ ms, m.1.size ≤ 24 ∧ m.2.1.size ≤ 24 ∧ 1 ≤ m.2.2 ∧ m.2.2 ≤ 4 := by
  obtain ⟨c, _, h⟩ := h
  have h0 : (⟨#[110, 97, 109, 101]⟩ : ByteArray).size ≤ 24 := by decide
  have h1 : (⟨#[c]⟩ : ByteArray).size ≤ 24 := by show #[c].size ≤ 24; simp
  rcases h with rfl | ⟨a, q, kd, ha, hq, hk1, hk4, rfl⟩
  · refine ⟨by simp, fun m hm => ?_⟩
    rw [List.mem_singleton] at hm; subst hm
    exact ⟨h0, h1, Int.le_refl _, (by decide : (1 : Int) ≤ 4)⟩
  · refine ⟨by simp, fun m hm => ?_⟩
    rw [List.mem_cons, List.mem_singleton] at hm
    rcases hm with rfl | rfl
    · exact ⟨h0, h1, Int.le_refl _, (by decide : (1 : Int) ≤ 4)⟩
    · have h2 := keepName_size a (by omega)
      have h3 := keepValue_size q (by omega)
      exact ⟨by show (keepNames.getD a ⟨#[]⟩).size ≤ 24; omega, by show (keepValues.getD q ⟨#[]⟩).size ≤ 24; omega, hk1, hk4⟩
theorem keepNs_good {ns : List ByteArray} (h : keepNs ns) : ns.length ≤ 4 ∧ ∀ s ∈ ns, s.size ≤ 4 := by
  refine ⟨h.length_le, fun s hs => ?_⟩
  have hm : s ∈ keepNames := h.subset hs
  have : ∀ s ∈ keepNames, s.size ≤ 4 := by decide
  exact this s hm
theorem keepV_good : ∀ (d : Nat) (x : XE), keepV d x → goodX d x
  | 0, _, h => h.elim
  | d + 1, x, h => by
    rcases h with ⟨h1, h2, h3, h4, h5, h6⟩ | ⟨h1, h2, h3, h4, h5, a, b, hk, ha, hb⟩ | ⟨h1, h2, h3, h4, h5, a, b, hk, ha, hb⟩ | ⟨h1, h2, h3, h4, h5, a, b, hk, ha, hb⟩ | ⟨h1, h2, h3, h4, h5, a, hk, ha⟩
    · exact ⟨by omega, by omega, by unfold I64; omega, fun _ => keepMs_good h4, fun e => absurd e (by omega), fun e => absurd e (by omega)⟩
    · have hd := keepV_pos ha
      obtain ⟨d', rfl⟩ : ∃ d', d = d' + 1 := ⟨d - 1, by omega⟩
      exact ⟨by omega, by omega, by unfold I64; omega, fun e => absurd e (by omega), fun e => absurd e (by omega), fun _ _ => ⟨a, b, hk, keepV_good _ a ha, keepNum_good (by omega) hb⟩⟩
    · exact ⟨by omega, by omega, by unfold I64; omega, fun e => absurd e (by omega), fun e => absurd e (by omega), fun _ _ => ⟨a, b, hk, keepV_good _ a ha, keepV_good _ b hb⟩⟩
    · exact ⟨by omega, by omega, by unfold I64; omega, fun e => absurd e (by omega), fun e => absurd e (by omega), fun _ _ => ⟨a, b, hk, keepV_good _ a ha, keepN_good _ b hb⟩⟩
    · have hn := keepNs_good h5
      exact ⟨by omega, by omega, by unfold I64; omega, fun e => absurd e (by omega), fun _ => ⟨by omega, fun s hs => by have := hn.2 s hs; omega, a, hk, keepV_good _ a ha⟩, fun _ e => absurd e (by omega)⟩
theorem printX_two {d : Nat} {x a b : XE} {o : Nat} (h1 : ¬ x.kd = 1) (h2 : ¬ x.kd = 2) (h3 : ¬ 17 ≤ x.kd) (hk : x.kids = [a, b]) (ho : (x.kd - 3).toNat = o) : printX (d + 1) x = 40 :: (printX d a ++ (32 :: ((opsL.getD o ⟨#[]⟩).data.toList ++ (32 :: (printX d b ++ [41]))))) := by
  rw [printX, if_neg h1, if_neg h2, if_neg h3, hk, ho]; rfl
theorem printX_one {d : Nat} {x a : XE} {o : Nat} (h1 : ¬ x.kd = 1) (h2 : ¬ x.kd = 2) (h3 : 17 ≤ x.kd) (hk : x.kids = [a]) (ho : (x.kd - 17).toNat = o) : printX (d + 1) x = (aggsL.getD o ⟨#[]⟩).data.toList ++ ([32, 98, 121, 32, 40] ++ (joinN x.ns ++ ([41, 32, 40] ++ (printX d a ++ [41])))) := by
  rw [printX, if_neg h1, if_neg h2, if_pos h3, hk, ho]; rfl
end Go.Proofs.YtnkbpcenkbihpaaDoor

namespace Go.Proofs.YtnkbpcenkbihpaaDoor
open Go.ChangeShapes Go.WideShapes Go.ChangeAt Go.RowKit
set_option linter.unusedVariables false
set_option linter.unusedSimpArgs false
set_option maxRecDepth 100000
def signs5 : List ByteArray := [⟨#[]⟩, ⟨#[61]⟩, ⟨#[33, 61]⟩, ⟨#[94, 61]⟩, ⟨#[33, 94]⟩]
theorem signs5_at : ∀ q : Nat, 1 ≤ q → q ≤ 4 → signs5[q]? = some (signF q) := by
  intro q h1 h4
  match q, h1, h4 with
  | 1, _, _ => rfl
  | 2, _, _ => rfl
  | 3, _, _ => rfl
  | 4, _, _ => rfl
theorem signF_size (k : Int) : (signF k).size ≤ 2 := by
  unfold signF
  split
  · decide
  · split
    · decide
    · split
      · decide
      · split <;> decide
/-- A matcher that can be printed. -/
def MtcFits (m : Mtc) : Prop := m.1.size ≤ 24 ∧ m.2.1.size ≤ 24 ∧ 1 ≤ m.2.2 ∧ m.2.2 ≤ 4
theorem ba_len (a : ByteArray) : a.data.toList.length = a.size := by simp
theorem mtcL_len {m : Mtc} (h : MtcFits m) : (mtcL m).length ≤ 76 := by
  unfold mtcL
  rw [List.length_append, List.length_append, ba_len, ba_len]
  have h1 := h.1
  have h2 := quoteL_length_le m.2.1.data.toList
  rw [ba_len] at h2
  have h3 := h.2.1
  have h4 := signF_size m.2.2
  omega
theorem joinM_len : ∀ {l : List Mtc}, (∀ m ∈ l, MtcFits m) → (joinM l).length ≤ 77 * l.length
  | [], _ => by simp [joinM]
  | x :: l, h => by
    have h1 := mtcL_len (h x List.mem_cons_self)
    have h2 := joinM_len (l := l) (fun m hm => h m (List.mem_cons_of_mem _ hm))
    unfold joinM
    rw [List.length_append, List.length_cons]
    split
    · simp; omega
    · rw [List.length_cons]; omega
/-- Within matchers' loop. -/
structure MsAt (w0 : World) (gs : Nat) (A : Option Addr) (n : Nat) (l : List Mtc) (w : World) : Prop where
  sg : Blk w gs 9 (strs signs5)
  ms : Sees w w0.heap.size 3 A n (mtcs l)
  bel : Below w0.heap.size w0 w
theorem MsAt.below {w0 w w' : World} {gs : Nat} {A : Option Addr} {n : Nat} {l : List Mtc} (h : MsAt w0 gs A n l w) (hb : Below w.heap.size w w') : MsAt w0 gs A n l w' :=
  ⟨h.sg.below hb h.sg.lt, h.ms.below (hb.mono h.bel.size), h.bel.trans (hb.mono h.bel.size)⟩
end Go.Proofs.YtnkbpcenkbihpaaDoor

namespace Go.Proofs.YtnkbpcenkbihpaaDoor
open Go.ChangeShapes Go.WideShapes Go.ChangeAt Go.RowKit
set_option linter.unusedVariables false
set_option linter.unusedSimpArgs false
set_option maxRecDepth 100000
theorem joinN_len : ∀ {l : List ByteArray}, (∀ s ∈ l, s.size ≤ 24) → (joinN l).length ≤ 25 * l.length
  | [], _ => by simp [joinN]
  | x :: l, h => by
    have h1 := h x List.mem_cons_self
    have h2 := joinN_len (l := l) (fun m hm => h m (List.mem_cons_of_mem _ hm))
    unfold joinN
    rw [List.length_append, List.length_cons, ba_len]
    split
    · simp; omega
    · rw [List.length_cons]; omega
theorem itoa_len {n : Int} (h : I64 n) : (Lib.itoa n).length ≤ 21 := by
  unfold I64 at h
  exact Lib.itoa_length_le n h.1 h.2
theorem opsL_size : ∀ q : Nat, (opsL.getD q ⟨#[]⟩).size ≤ 6 := by
  intro q
  by_cases h : q < 14
  · have : ∀ q : Fin 14, (opsL.getD q ⟨#[]⟩).size ≤ 6 := by decide
    exact this ⟨q, h⟩
  · rw [List.getD_eq_getElem?_getD, List.getElem?_eq_none (show opsL.length ≤ q by show 14 ≤ q; omega)]; decide
theorem aggsL_size : ∀ q : Nat, (aggsL.getD q ⟨#[]⟩).size ≤ 5 := by
  intro q
  by_cases h : q < 4
  · have : ∀ q : Fin 4, (aggsL.getD q ⟨#[]⟩).size ≤ 5 := by decide
    exact this ⟨q, h⟩
  · rw [List.getD_eq_getElem?_getD, List.getElem?_eq_none (show aggsL.length ≤ q by show 4 ≤ q; omega)]; decide
theorem printX_len : ∀ (d : Nat) (x : XE), goodX d x → (printX d x).length + 50 ≤ 500 * 2 ^ (d + 1)
  | 0, _, h => h.elim
  | d + 1, x, h => by
    obtain ⟨h1, h20, hn, h2, h17, h3⟩ := h
    have hp := two_pow' d
    unfold printX
    have hi := itoa_len hn
    split
    · omega
    · split
      · next hk =>
        obtain ⟨g1, g2⟩ := h2 hk
        have := joinM_len (l := x.ms) g2
        simp only [List.length_cons, List.length_append, List.length_nil]
        omega
      · split
        · next hk =>
          obtain ⟨g1, g2, a, e, g3⟩ := h17 hk
          have k1 := printX_len d a g3
          have k2 := joinN_len (l := x.ns) g2
          have k3 := aggsL_size (x.kd - 17).toNat
          rw [e]
          simp only [List.length_cons, List.length_append, List.length_nil, List.head?_cons, Option.map_some, Option.getD_some, ba_len]
          omega
        · next hk1 hk2 hk =>
          obtain ⟨a, b, e, g1, g2⟩ := h3 (by omega) (by omega)
          have k1 := printX_len d a g1
          have k2 := printX_len d b g2
          have k3 := opsL_size (x.kd - 3).toNat
          rw [e]
          simp only [List.length_cons, List.length_append, List.length_nil, List.head?_cons, Option.map_some, Option.getD_some, ba_len, List.getElem?_cons_succ, List.getElem?_cons_zero]
          omega
where
  two_pow' (d : Nat) : 2 ^ (d + 1 + 1) = 2 ^ (d + 1) + 2 ^ (d + 1) ∧ 2 ≤ 2 ^ (d + 1) := by
    have h1 : 2 ^ (d + 1 + 1) = 2 ^ (d + 1) * 2 := Nat.pow_succ ..
    have h2 : 2 ^ (d + 1) = 2 ^ d * 2 := Nat.pow_succ ..
    have h3 : 1 ≤ 2 ^ d := Nat.one_le_two_pow
    omega
end Go.Proofs.YtnkbpcenkbihpaaDoor

namespace Go.Proofs.YtnkbpcenkbihpaaDoor
open Go.ChangeShapes Go.WideShapes Go.ChangeAt Go.RowKit
set_option linter.unusedVariables false
set_option linter.unusedSimpArgs false
set_option maxRecDepth 100000
/-- There are tokens, at most so many. -/
def Cuts (l : List UInt8) (n : Nat) (rest : List UInt8) : Prop := ∃ ts, CutR l ts rest ∧ ts.length ≤ n
theorem Cuts.nil (rest : List UInt8) : Cuts [] 0 rest := ⟨[], CutR.nil rest, Nat.le_refl _⟩
theorem Cuts.blank {l rest : List UInt8} {n : Nat} (b : UInt8) (hb : (b.toNat == 32 || b.toNat == 10) = true) (h : Cuts l n rest) : Cuts (b :: l) n rest := by
  obtain ⟨ts, h1, h2⟩ := h
  exact ⟨_, CutR.blank b hb h1, by rw [List.length_map]; exact h2⟩
theorem Cuts.tok {l rest : List UInt8} {n : Nat} (t : Tok) (ht : okTok t) (h0 : t.at_ = 0) (hf : FollowL t (l ++ rest)) (h : Cuts l n rest) : Cuts (tokL t ++ l) (n + 1) rest := by
  obtain ⟨ts, h1, h2⟩ := h
  exact ⟨_, CutR.tok t ht h0 hf h1, by rw [List.length_cons, List.length_map]; omega⟩
theorem Cuts.append {l l2 rest : List UInt8} {n m : Nat} (h : Cuts l n (l2 ++ rest)) (h2 : Cuts l2 m rest) : Cuts (l ++ l2) (n + m) rest := by
  obtain ⟨ts, h1, h3⟩ := h
  obtain ⟨us, h4, h5⟩ := h2
  exact ⟨_, h1.append h4 rfl, by rw [List.length_append, List.length_map]; omega⟩
theorem Cuts.more {l rest : List UInt8} {n m : Nat} (h : Cuts l n rest) (hm : n ≤ m) : Cuts l m rest := by
  obtain ⟨ts, h1, h2⟩ := h
  exact ⟨ts, h1, by omega⟩
/-- One sign ahead. -/
theorem Cuts.sign {l rest : List UInt8} {n : Nat} (x : ByteArray) (hx : x ∈ signsL) (hf : ∀ c r, l ++ rest = c :: r → signOk x.data.toList c = true) (h : Cuts l n rest) : Cuts (x.data.toList ++ l) (n + 1) rest :=
  h.tok ⟨4, 0, 0, x⟩ (.inr (.inr (.inr ⟨rfl, rfl, hx⟩))) rfl (fun c r e => hf c r e)
theorem Cuts.word {l rest : List UInt8} {n : Nat} (x : ByteArray) {c : UInt8} {r : List UInt8} (e : x.data.toList = c :: r) (hc : smallN c.toNat = true) (hr : ∀ y ∈ r, withinN y.toNat = true) (hl : r.length ≤ 23) (hf : ∀ c r, l ++ rest = c :: r → withinN c.toNat = false) (h : Cuts l n rest) : Cuts (x.data.toList ++ l) (n + 1) rest :=
  h.tok ⟨2, 0, 0, x⟩ (.inr (.inl ⟨rfl, rfl, c, r, e, hc, hr, hl⟩)) rfl (fun c r e => by show (!withinN c.toNat) = true; rw [hf c r e]; rfl)
theorem Cuts.text {l rest : List UInt8} {n : Nat} (x : ByteArray) (hx : x.size ≤ 24) (h : Cuts l n rest) : Cuts (quoteL x.data.toList ++ l) (n + 1) rest :=
  h.tok ⟨3, 0, 0, x⟩ (.inr (.inr (.inl ⟨rfl, rfl, hx⟩))) rfl (fun c r e => rfl)
theorem Cuts.num {l rest : List UInt8} {n : Nat} (z : Int) (hz : I64 z) (hf : ∀ c r, l ++ rest = c :: r → digitN c.toNat = false) (h : Cuts l n rest) : Cuts (Lib.itoa z ++ l) (n + 1) rest :=
  h.tok ⟨1, z, 0, ⟨#[]⟩⟩ (.inl ⟨rfl, hz, rfl⟩) rfl (fun c r e => by show (!digitN c.toNat) = true; rw [hf c r e]; rfl)
/-- No digit follows. -/
def NoDigit (rest : List UInt8) : Prop := ∀ c r, rest = c :: r → digitN c.toNat = false
theorem head_is {c d : UInt8} {l r : List UInt8} (e : d :: l = c :: r) : c = d := by injection e with e _; exact e.symm
/-- klaxonkeep's names are words. -/
theorem keepName_word2 {x : ByteArray} (h : x ∈ keepNames) : ∃ c r, x.data.toList = c :: r ∧ smallN c.toNat = true ∧ (∀ y ∈ r, withinN y.toNat = true) ∧ r.length ≤ 23 := by
  simp only [keepNames, List.mem_cons, List.not_mem_nil, or_false] at h
  rcases h with rfl | rfl | rfl | rfl
  · exact ⟨97, [], rfl, by decide, by simp, by simp⟩
  · exact ⟨98, [], rfl, by decide, by simp, by simp⟩
  · exact ⟨99, [], rfl, by decide, by simp, by simp⟩
  · exact ⟨110, [97, 109, 101], rfl, by decide, by decide, by simp⟩
theorem signF_mem {kd : Int} (h1 : 1 ≤ kd) (h4 : kd ≤ 4) : signF kd ∈ signsL ∧ ∃ c r, (signF kd).data.toList = c :: r ∧ withinN c.toNat = false := by
  have hk : kd = 1 ∨ kd = 2 ∨ kd = 3 ∨ kd = 4 := by omega
  rcases hk with rfl | rfl | rfl | rfl
  · exact ⟨(by simp [signsL] : (⟨#[61]⟩ : ByteArray) ∈ signsL), 61, [], rfl, by decide⟩
  · exact ⟨(by simp [signsL] : (⟨#[33, 61]⟩ : ByteArray) ∈ signsL), 33, [61], rfl, by decide⟩
  · exact ⟨(by simp [signsL] : (⟨#[94, 61]⟩ : ByteArray) ∈ signsL), 94, [61], rfl, by decide⟩
  · exact ⟨(by simp [signsL] : (⟨#[33, 94]⟩ : ByteArray) ∈ signsL), 33, [94], rfl, by decide⟩
theorem signOk_quote (s : List UInt8) : signOk s 34 = true := by
  unfold signOk
  split
  · decide
  · split
    · decide
    · rfl
/-- A matcher's text: three tokens. -/
theorem mtc_cuts {x : Mtc} {l rest : List UInt8} {n : Nat} (hn : x.1 ∈ keepNames) (hv : x.2.1.size ≤ 24) (h1 : 1 ≤ x.2.2) (h4 : x.2.2 ≤ 4) (h : Cuts l n rest) : Cuts (mtcL x ++ l) (n + 3) rest := by
  obtain ⟨c, r, e, hc, hr, hl⟩ := keepName_word2 hn
  obtain ⟨hs, d, q, es, hd⟩ := signF_mem h1 h4
  have k1 := (h.text x.2.1 hv).sign (signF x.2.2) hs (fun c r e => by
    have : c = 34 := by unfold quoteL at e; exact head_is e
    rw [this]; exact signOk_quote _)
  have k2 := k1.word x.1 e hc hr hl (fun c' r' e' => by
    rw [es] at e'
    have : c' = d := head_is (show d :: (q ++ (quoteL x.2.1.data.toList ++ l) ++ rest) = c' :: r' by simpa using e')
    rw [this]; exact hd)
  unfold mtcL
  rw [List.append_assoc, List.append_assoc]
  exact k2
theorem keepNames_mem {a : Nat} (h : a < 3) : keepNames.getD a ⟨#[]⟩ ∈ keepNames := by
  match a, h with
  | 0, _ => exact (show (⟨#[97]⟩ : ByteArray) ∈ keepNames by simp [keepNames])
  | 1, _ => exact (show (⟨#[98]⟩ : ByteArray) ∈ keepNames by simp [keepNames])
  | 2, _ => exact (show (⟨#[99]⟩ : ByteArray) ∈ keepNames by simp [keepNames])
theorem comma_cuts {l rest : List UInt8} {n : Nat} (h : Cuts l n rest) : Cuts (44 :: l) (n + 1) rest :=
  h.sign ⟨#[44]⟩ (by simp [signsL]) (fun c r e => by unfold signOk; rw [if_neg (by decide), if_neg (by decide)])
theorem sign1_cuts {l rest : List UInt8} {n : Nat} (b : UInt8) (hb : (⟨#[b]⟩ : ByteArray) ∈ signsL) (h1 : ¬ (b = 61 ∨ b = 60 ∨ b = 62)) (h2 : b ≠ 45) (h : Cuts l n rest) : Cuts (b :: l) (n + 1) rest :=
  h.sign ⟨#[b]⟩ hb (fun c r e => by
    unfold signOk
    rw [if_neg (fun h => h1 (by simpa using h)), if_neg (fun h => h2 (by simpa using h))])
/-- The matchers' texts. -/
theorem keepMs_cuts {ms : List Mtc} (h : keepMs ms) {l rest : List UInt8} {n : Nat} (hc : Cuts l n rest) : Cuts (joinM ms ++ l) (n + 7) rest := by
  obtain ⟨c, _, h⟩ := h
  have hn : (⟨#[110, 97, 109, 101]⟩ : ByteArray) ∈ keepNames := by simp [keepNames]
  have h1 : (⟨#[c]⟩ : ByteArray).size ≤ 24 := by show #[c].size ≤ 24; simp
  rcases h with rfl | ⟨a, q, kd, ha, hq, hk1, hk4, rfl⟩
  · have k := mtc_cuts (x := (⟨#[110, 97, 109, 101]⟩, ⟨#[c]⟩, 1)) hn h1 (Int.le_refl 1) (by omega : (1 : Int) ≤ 4) hc
    unfold joinM
    simp only [List.isEmpty_nil, if_true, List.append_nil]
    exact k.more (by omega)
  · have h3 := keepValue_size q (by omega)
    have k1 := mtc_cuts (x := (keepNames.getD a ⟨#[]⟩, keepValues.getD q ⟨#[]⟩, kd)) (keepNames_mem ha) (by show (keepValues.getD q ⟨#[]⟩).size ≤ 24; omega) hk1 hk4 hc
    have k2 := mtc_cuts (x := (⟨#[110, 97, 109, 101]⟩, ⟨#[c]⟩, 1)) hn h1 (Int.le_refl 1) (by omega : (1 : Int) ≤ 4) (comma_cuts k1)
    have e : joinM [(⟨#[110, 97, 109, 101]⟩, ⟨#[c]⟩, 1), (keepNames.getD a ⟨#[]⟩, keepValues.getD q ⟨#[]⟩, kd)] ++ l = mtcL (⟨#[110, 97, 109, 101]⟩, ⟨#[c]⟩, 1) ++ (44 :: (mtcL (keepNames.getD a ⟨#[]⟩, keepValues.getD q ⟨#[]⟩, kd) ++ l)) := by
      unfold joinM joinM joinM
      simp
    rw [e]
    exact k2.more (by omega)
/-- Names with commas between, a sign behind. -/
theorem joinN_cuts : ∀ (ns : List ByteArray), (∀ x ∈ ns, x ∈ keepNames) → ∀ {l rest : List UInt8} {n : Nat}, Cuts (41 :: l) n rest → Cuts (joinN ns ++ (41 :: l)) (n + 2 * ns.length) rest
  | [], _, l, rest, n, h => by simpa [joinN] using h
  | x :: ns, hm, l, rest, n, h => by
    obtain ⟨c, r, e, hc, hr, hl⟩ := keepName_word2 (hm x List.mem_cons_self)
    have ih := joinN_cuts ns (fun y hy => hm y (List.mem_cons_of_mem _ hy)) h
    unfold joinN
    cases ns with
    | nil =>
      simp only [List.isEmpty_nil, if_true, List.append_nil, List.length_singleton]
      exact (h.word x e hc hr hl (fun d q e => by rw [head_is (show 41 :: (l ++ rest) = d :: q from e)]; decide)).more (by omega)
    | cons y ns =>
      simp only [List.isEmpty_cons, Bool.false_eq_true, if_false, List.append_assoc]
      exact ((comma_cuts ih).word x e hc hr hl (fun d q e => by rw [head_is (show 44 :: (joinN (y :: ns) ++ 41 :: l ++ rest) = d :: q from e)]; decide)).more (by simp only [List.length_cons]; omega)
theorem aggs_word : ∀ o, o < 4 → ∃ c r, (aggsL.getD o ⟨#[]⟩).data.toList = c :: r ∧ smallN c.toNat = true ∧ (∀ y ∈ r, withinN y.toNat = true) ∧ r.length ≤ 23 := by
  intro o h
  match o, h with
  | 0, _ => exact ⟨115, [117, 109], rfl, by decide, by decide, by simp⟩
  | 1, _ => exact ⟨109, [105, 110], rfl, by decide, by decide, by simp⟩
  | 2, _ => exact ⟨109, [97, 120], rfl, by decide, by decide, by simp⟩
  | 3, _ => exact ⟨99, [111, 117, 110, 116], rfl, by decide, by decide, by simp⟩
/-- An operator, blanks on both sides. -/
theorem op_cuts {o : Nat} (h : o < 14) {l rest : List UInt8} {n : Nat} (hc : Cuts l n rest) : Cuts ((opsL.getD o ⟨#[]⟩).data.toList ++ (32 :: l)) (n + 1) rest := by
  have hb := hc.blank 32 (by decide)
  have hs : ∀ x : ByteArray, x ∈ signsL → Cuts (x.data.toList ++ (32 :: l)) (n + 1) rest := fun x hx => hb.sign x hx (fun c r e => by
    rw [head_is (show 32 :: (l ++ rest) = c :: r from e)]
    exact (by simpa [follow] using follow_blank (t := ⟨4, 0, 0, x⟩) (.inr (.inr (.inr ⟨rfl, rfl, hx⟩))) 32 (.inl rfl)))
  have hw : ∀ (x : ByteArray) (c : UInt8) (r : List UInt8), x.data.toList = c :: r → smallN c.toNat = true → (∀ y ∈ r, withinN y.toNat = true) → r.length ≤ 23 → Cuts (x.data.toList ++ (32 :: l)) (n + 1) rest := fun x c r e h1 h2 h3 =>
    hb.word x e h1 h2 h3 (fun d q e => by rw [head_is (show 32 :: (l ++ rest) = d :: q from e)]; decide)
  match o, h with
  | 0, _ => exact hs ⟨#[43]⟩ (by simp [signsL])
  | 1, _ => exact hs ⟨#[45]⟩ (by simp [signsL])
  | 2, _ => exact hs ⟨#[42]⟩ (by simp [signsL])
  | 3, _ => exact hs ⟨#[47]⟩ (by simp [signsL])
  | 4, _ => exact hs ⟨#[37]⟩ (by simp [signsL])
  | 5, _ => exact hs ⟨#[61, 61]⟩ (by simp [signsL])
  | 6, _ => exact hs ⟨#[33, 61]⟩ (by simp [signsL])
  | 7, _ => exact hs ⟨#[60]⟩ (by simp [signsL])
  | 8, _ => exact hs ⟨#[60, 61]⟩ (by simp [signsL])
  | 9, _ => exact hs ⟨#[62]⟩ (by simp [signsL])
  | 10, _ => exact hs ⟨#[62, 61]⟩ (by simp [signsL])
  | 11, _ => exact hw ⟨#[97, 110, 100]⟩ 97 [110, 100] rfl (by decide) (by decide) (by simp)
  | 12, _ => exact hw ⟨#[111, 114]⟩ 111 [114] rfl (by decide) (by decide) (by simp)
  | 13, _ => exact hw ⟨#[117, 110, 108, 101, 115, 115]⟩ 117 [110, 108, 101, 115, 115] rfl (by decide) (by decide) (by simp)
/-- An expression of two, its kids' texts ahead and behind. -/
theorem two_cuts {a b rest : List UInt8} {o n m : Nat} (ho : o < 14) (ha : ∀ r, NoDigit r → Cuts a n r) (hb : ∀ r, NoDigit r → Cuts b m r) : Cuts (40 :: (a ++ (32 :: ((opsL.getD o ⟨#[]⟩).data.toList ++ (32 :: (b ++ [41])))))) (n + m + 3) rest := by
  have k1 : Cuts [41] 1 rest := sign1_cuts 41 (by simp [signsL]) (by decide) (by decide) (Cuts.nil rest)
  have k2 := (hb ([41] ++ rest) (fun c r e => by rw [head_is (show 41 :: rest = c :: r from e)]; decide)).append k1
  have k3 := (op_cuts ho k2).blank 32 (by decide)
  have k4 := (ha (32 :: ((opsL.getD o ⟨#[]⟩).data.toList ++ (32 :: (b ++ [41]))) ++ rest) (fun c r e => by rw [head_is (show 32 :: (((opsL.getD o ⟨#[]⟩).data.toList ++ (32 :: (b ++ [41]))) ++ rest) = c :: r from e)]; decide)).append k3
  exact (sign1_cuts 40 (by simp [signsL]) (by decide) (by decide) k4).more (by omega)
theorem num_cuts {d : Nat} {x : XE} {hi : Int} (hhi : hi ≤ 9) (h : x.kd = 1 ∧ -3 ≤ x.n ∧ x.n ≤ hi ∧ x.ms = [] ∧ x.ns = [] ∧ x.kids = []) : ∀ r, NoDigit r → Cuts (printX (d + 1) x) 1 r := by
  intro r hr
  have e : printX (d + 1) x = Lib.itoa x.n ++ [] := by rw [printX, if_pos h.1, List.append_nil]
  rw [e]
  exact (Cuts.nil r).num x.n (by obtain ⟨_, h1, h2, _⟩ := h; unfold I64; omega) hr
theorem keepN_cuts : ∀ (d : Nat) (x : XE), keepN d x → ∃ n, 2 * (n + 3) ≤ 15 * 2 ^ d ∧ ∀ r, NoDigit r → Cuts (printX d x) n r
  | 0, _, h => h.elim
  | d + 1, x, h => by
    obtain ⟨hp1, hp2⟩ := (show 2 ^ (d + 1) = 2 ^ d + 2 ^ d ∧ 1 ≤ 2 ^ d from ⟨by rw [Nat.pow_succ]; omega, Nat.one_le_two_pow⟩)
    rcases h with h | ⟨h1, h2, h3, h4, h5, a, b, hk, ha, hb⟩
    · exact ⟨1, by omega, num_cuts (by omega) h⟩
    · have hd := keepN_pos hb
      obtain ⟨d', rfl⟩ : ∃ d', d = d' + 1 := ⟨d - 1, by omega⟩
      obtain ⟨m, hm, hc⟩ := keepN_cuts _ b hb
      refine ⟨1 + m + 3, by omega, fun r hr => ?_⟩
      rw [printX_two (o := (x.kd - 3).toNat) (by omega) (by omega) (by omega) hk rfl]
      exact two_cuts (by omega) (num_cuts (by omega) ha) hc
theorem keepV_cuts : ∀ (d : Nat) (x : XE), keepV d x → ∃ n, 2 * (n + 3) ≤ 15 * 2 ^ d ∧ ∀ r, NoDigit r → Cuts (printX d x) n r
  | 0, _, h => h.elim
  | d + 1, x, h => by
    obtain ⟨hp1, hp2⟩ := (show 2 ^ (d + 1) = 2 ^ d + 2 ^ d ∧ 1 ≤ 2 ^ d from ⟨by rw [Nat.pow_succ]; omega, Nat.one_le_two_pow⟩)
    rcases h with ⟨h1, h2, h3, h4, h5, h6⟩ | ⟨h1, h2, h3, h4, h5, a, b, hk, ha, hb⟩ | ⟨h1, h2, h3, h4, h5, a, b, hk, ha, hb⟩ | ⟨h1, h2, h3, h4, h5, a, b, hk, ha, hb⟩ | ⟨h1, h2, h3, h4, h5, a, hk, ha⟩
    · refine ⟨12, by omega, fun r hr => ?_⟩
      have e : printX (d + 1) x = 123 :: (joinM x.ms ++ (125 :: 91 :: (Lib.itoa x.n ++ [93]))) := by rw [printX, if_neg (by omega), if_pos h1]
      rw [e]
      have k1 : Cuts [93] 1 r := sign1_cuts 93 (by simp [signsL]) (by decide) (by decide) (Cuts.nil r)
      have k2 := k1.num x.n (by unfold I64; omega) (fun c q e => by rw [head_is (show 93 :: r = c :: q from e)]; decide)
      have k3 := sign1_cuts 125 (by simp [signsL]) (by decide) (by decide) (sign1_cuts 91 (by simp [signsL]) (by decide) (by decide) k2)
      exact (sign1_cuts 123 (by simp [signsL]) (by decide) (by decide) (keepMs_cuts h4 k3)).more (by omega)
    · have hd := keepV_pos ha
      obtain ⟨d', rfl⟩ : ∃ d', d = d' + 1 := ⟨d - 1, by omega⟩
      obtain ⟨m, hm, hc⟩ := keepV_cuts _ a ha
      have hq : 1 ≤ 2 ^ d' := Nat.one_le_two_pow
      have hq2 : 2 ^ (d' + 1) = 2 ^ d' + 2 ^ d' := by rw [Nat.pow_succ]; omega
      refine ⟨m + 1 + 3, by omega, fun r hr => ?_⟩
      rw [printX_two (o := (x.kd - 3).toNat) (by omega) (by omega) (by omega) hk rfl]
      exact two_cuts (by omega) hc (num_cuts (by omega) hb)
    · obtain ⟨m, hm, hc⟩ := keepV_cuts _ a ha
      obtain ⟨m2, hm2, hc2⟩ := keepV_cuts _ b hb
      refine ⟨m + m2 + 3, by omega, fun r hr => ?_⟩
      rw [printX_two (o := (x.kd - 3).toNat) (by omega) (by omega) (by omega) hk rfl]
      exact two_cuts (by omega) hc hc2
    · obtain ⟨m, hm, hc⟩ := keepV_cuts _ a ha
      obtain ⟨m2, hm2, hc2⟩ := keepN_cuts _ b hb
      refine ⟨m + m2 + 3, by omega, fun r hr => ?_⟩
      rw [printX_two (o := (x.kd - 3).toNat) (by omega) (by omega) (by omega) hk rfl]
      exact two_cuts (by omega) hc hc2
    · have hd := keepV_pos ha
      obtain ⟨d', rfl⟩ : ∃ d', d = d' + 1 := ⟨d - 1, by omega⟩
      have hq : 1 ≤ 2 ^ d' := Nat.one_le_two_pow
      have hq2 : 2 ^ (d' + 1) = 2 ^ d' + 2 ^ d' := by rw [Nat.pow_succ]; omega
      obtain ⟨m, hm, hc⟩ := keepV_cuts _ a ha
      have hn4 := h5.length_le
      refine ⟨m + 14, by omega, fun r hr => ?_⟩
      rw [printX_one (o := (x.kd - 17).toNat) (by omega) (by omega) (by omega) hk rfl]
      obtain ⟨c, q, e, hcc, hqq, hll⟩ := aggs_word (x.kd - 17).toNat (by omega)
      have k1 : Cuts [41] 1 r := sign1_cuts 41 (by simp [signsL]) (by decide) (by decide) (Cuts.nil r)
      have k2 := (hc ([41] ++ r) (fun c q e => by rw [head_is (show 41 :: r = c :: q from e)]; decide)).append k1
      have k3 := (sign1_cuts 40 (by simp [signsL]) (by decide) (by decide) k2).blank 32 (by decide)
      have k4 := sign1_cuts 41 (by simp [signsL]) (by decide) (by decide) k3
      have k5 := joinN_cuts x.ns (fun y hy => h5.subset hy) k4
      have k6 := (sign1_cuts 40 (by simp [signsL]) (by decide) (by decide) k5).blank 32 (by decide)
      have k7 := (k6.word ⟨#[98, 121]⟩ (c := 98) (r := [121]) rfl (by decide) (by decide) (by simp) (fun c q e => by rw [head_is (show 32 :: _ = c :: q from e)]; decide)).blank 32 (by decide)
      have k8 := k7.word (aggsL.getD (x.kd - 17).toNat ⟨#[]⟩) e hcc hqq hll (fun c q e => by rw [head_is (show 32 :: _ = c :: q from e)]; decide)
      have h44 : keepNames.length = 4 := rfl
      exact k8.more (by omega)
/-- The text of an expression of numbers, and its tokens. -/
theorem keepV_toks {x : XE} (h : keepV 5 x) : ∃ ts, tokF (printX 5 x) = (ts, (printX 5 x).length) ∧ ts.length ≤ 237 ∧ ∀ t ∈ ts, okTok t := by
  obtain ⟨n, hn, hc⟩ := keepV_cuts 5 x h
  obtain ⟨ts, h1, h2⟩ := hc [] (fun c r e => by cases e)
  have h3 : (2 : Nat) ^ 5 = 32 := rfl
  exact ⟨ts, h1.tokF (by omega), by omega, h1.ok⟩
end Go.Proofs.YtnkbpcenkbihpaaDoor

namespace Go.Proofs.YtnkbpcenkbihpaaDoor
open Go.ChangeShapes Go.WideShapes Go.ChangeAt Go.RowKit
set_option linter.unusedVariables false
set_option maxRecDepth 100000
theorem int_ne {a b : Int} (h : ¬ a = b) : (a == b) = false := by rw [beq_eq_false_iff_ne]; exact h
set_option maxHeartbeats 1000000 in
theorem sign_any (k : Int) (w : World) : Calls Tryd.prog 47 #[.int .i64 k] w fun e w' => e = .returned (.string (signF k)) ∧ w = w' := by
  by_cases h1 : k = 1
  · subst h1; go_enter Tryd.func47, Tryd.ntmps47
    go_wp2_with fail
    go_ret
    exact ⟨rfl, rfl⟩
  · by_cases h2 : k = 2
    · subst h2; go_enter Tryd.func47, Tryd.ntmps47
      go_wp2_with fail
      go_ret
      exact ⟨rfl, rfl⟩
    · by_cases h3 : k = 3
      · subst h3; go_enter Tryd.func47, Tryd.ntmps47
        go_wp2_with fail
        go_ret
        exact ⟨rfl, rfl⟩
      · by_cases h4 : k = 4
        · subst h4; go_enter Tryd.func47, Tryd.ntmps47
          go_wp2_with fail
          go_ret
          exact ⟨rfl, rfl⟩
        · have HS := Lib.hid (show signF k = ⟨#[]⟩ by unfold signF; rw [if_neg h1, if_neg h2, if_neg h3, if_neg h4])
          have t1 := int_ne h1; have t2 := int_ne h2; have t3 := int_ne h3; have t4 := int_ne h4
          go_enter Tryd.func47, Tryd.ntmps47
          go_wp2_with fail
          go_ret
          exact ⟨by rw [HS.out]; rfl, rfl⟩
/-- May x be a matcher. -/
def mtcOk (x : Mtc) : Bool := wordF x.1 && (decide (x.2.1.size ≤ 24) && !decide (signF x.2.2 = ⟨#[]⟩))
/-- May these be matchers. -/
def rightM (ms : List Mtc) : Bool := decide (ms.length ≤ 6) && ms.all mtcOk
theorem rightM_bad {ms : List Mtc} {x : Mtc} (hx : x ∈ ms) (h : mtcOk x = false) : rightM ms = false := by
  have : ms.all mtcOk = false := by rw [List.all_eq_false]; exact ⟨x, hx, by rw [h]; simp⟩
  rw [rightM, this, Bool.and_false]
theorem ba_empty {s : ByteArray} (h : ¬ s = ⟨#[]⟩) : s.toList ≠ [] := fun e => h (ba_ext (by rw [e]; exact (ba_list []).symm))
set_option maxHeartbeats 2000000 in
theorem rightM_any (A2 : Option Addr) (n2 c2 B2 : Nat) (ms : List Mtc) (w : World) (h2 : Sees w B2 3 A2 n2 (mtcs ms)) (hB2 : B2 ≤ w.heap.size) (hn2 : n2 ≤ 9223372036854775807) :
    Calls Tryd.prog 25 #[.slice A2 n2 c2] w fun e w' => e = .returned (.bool (rightM ms)) ∧ Below w.heap.size w w' := by
  have H2 := Lib.hid h2
  have HL := Lib.hid h2.mtc_len
  clear h2
  by_cases h6 : n2 ≤ 6
  · have j6 : ¬ (6 : Int) < n2 := by omega
    have H6 := Lib.hid h6
    go_enter Tryd.func25, Tryd.ntmps25
    go_wp2_with fail
    go_loopg [10] n2 (fun g x10 wr => ∃ k : Nat, k + g = n2 ∧ x10 = .int .i64 k ∧ Below w.heap.size w wr ∧ ∀ x ∈ ms.take k, mtcOk x = true)
    case atStart => exact ⟨0, by omega, rfl, Below.refl _ _, (fun x hx => by simp at hx)⟩
    case round =>
      obtain ⟨k, hkg, rfl, hbel, hno⟩ := hrel
      have HB := Lib.hid hbel; have HNO := Lib.hid hno
      have hws := hbel.size
      clear hbel hno
      cases gk with
      | zero =>
        obtain rfl : k = n2 := by omega
        have HE := Lib.hid (show rightM ms = true by
          have h1 : ms.all mtcOk = true := List.all_eq_true.2 (fun x hx => HNO.out x (by rw [List.take_of_length_le (by rw [HL.out]; exact Nat.le_refl _)]; exact hx))
          rw [rightM, h1, HL.out, decide_eq_true H6.out]; rfl)
        go_wp2_with fail
        go_ret
        exact ⟨by rw [HE.out]; rfl, HB.out⟩
      | succ g =>
        have hlt : k < n2 := by omega
        obtain ⟨ad, hkl, rfl, c0, c1, c2⟩ := (H2.out.below (HB.out.mono hB2)).mtc hlt
        have hal := World.block_lt_of_cell? wr _ c0
        have HT := Lib.hid (List.take_succ_eq_append_getElem hkl)
        have HM := Lib.hid (List.getElem_mem hkl)
        generalize ms[k] = p at *
        obtain ⟨a, b, kd⟩ := p
        simp only at c0 c1 c2
        have HBA := Lib.hid (HB.out.alloc hws (.cells #[.string a, .string b, .int .i64 kd] 54))
        have HR : Hid (mtcOk (a, b, kd) = false → rightM ms = false) := Lib.hid (rightM_bad HM.out)
        have HN : Hid (mtcOk (a, b, kd) = true → ∀ x ∈ ms.take (k + 1), mtcOk x = true) := Lib.hid (fun h x hx => by
          rw [HT.out] at hx
          rcases List.mem_append.1 hx with hx | hx
          · exact HNO.out x hx
          · rw [List.mem_singleton] at hx; rw [hx]; exact h)
        have HOK : Hid (mtcOk (a, b, kd) = (wordF a && (decide (b.size ≤ 24) && !decide (signF kd = ⟨#[]⟩)))) := Lib.hid rfl
        have HW := Lib.hid (fun W => word_any a W)
        have HS := Lib.hid (fun W => sign_any kd W)
        clear HT HM
        generalize wordF a = wa at *
        generalize signF kd = s at *
        cases wa with
        | false =>
          have HE := Lib.hid (HR.out (by rw [HOK.out]; rfl))
          clear HR HN HOK
          go_wp2_with fail
          (with_reducible refine (HW.out _).mono ?_); rintro e w1 ⟨rfl, rfl⟩
          go_wp2_with fail
          go_ret
          exact ⟨by rw [HE.out]; rfl, HBA.out⟩
        | true =>
          by_cases hb2 : b.size ≤ 24
          · have y2 : ¬ (24 : Int) < b.size := by omega
            by_cases hs : s = ⟨#[]⟩
            · have HE := Lib.hid (HR.out (by rw [HOK.out, decide_eq_true hs]; simp))
              subst hs
              clear HR HN HOK
              go_wp2_with fail
              (with_reducible refine (HW.out _).mono ?_); rintro e w1 ⟨rfl, rfl⟩
              go_wp2_with fail
              (with_reducible refine (HS.out _).mono ?_); rintro e w1 ⟨rfl, rfl⟩
              go_wp2_with fail
              go_ret
              exact ⟨by rw [HE.out]; rfl, HBA.out⟩
            · have HN1 := Lib.hid (HN.out (by rw [HOK.out, decide_eq_false hs, decide_eq_true hb2]; rfl))
              have t0 := ba_empty hs
              have t1 : (s.toList == []) = false := by rw [beq_eq_false_iff_ne]; exact t0
              have t2 : s.toList.isEmpty = false := by cases hq : s.toList with | nil => exact absurd hq t0 | cons x y => rfl
              clear HR HN HOK hs
              go_wp2_with fail
              (with_reducible refine (HW.out _).mono ?_); rintro e w1 ⟨rfl, rfl⟩
              go_wp2_with fail
              (with_reducible refine (HS.out _).mono ?_); rintro e w1 ⟨rfl, rfl⟩
              go_wp2_with fail
              go_roundg g
              case measure => omega
              case rel => exact ⟨k + 1, by omega, by go_num, HBA.out, HN1.out⟩
          · have y2 : (24 : Int) < b.size := by omega
            have HE := Lib.hid (HR.out (by rw [HOK.out, decide_eq_false hb2]; simp))
            clear HR HN HOK
            go_wp2_with fail
            (with_reducible refine (HW.out _).mono ?_); rintro e w1 ⟨rfl, rfl⟩
            go_wp2_with fail
            go_ret
            exact ⟨by rw [HE.out]; rfl, HBA.out⟩
  · have j6 : (6 : Int) < n2 := by omega
    have HE := Lib.hid (show rightM ms = false by rw [rightM, HL.out, decide_eq_false h6]; rfl)
    go_enter Tryd.func25, Tryd.ntmps25
    go_wp2_with fail
    go_ret
    exact ⟨by rw [HE.out]; rfl, Below.refl _ _⟩
end Go.Proofs.YtnkbpcenkbihpaaDoor

namespace Go.Proofs.YtnkbpcenkbihpaaDoor
open Go.ChangeShapes Go.WideShapes Go.ChangeAt Go.RowKit
set_option linter.unusedVariables false
set_option linter.unusedSimpArgs false
set_option maxRecDepth 100000
/-- What an expression of one comes to. -/
def oneT (ns : List ByteArray) (tys : List Int) : Int := if namesF ns = true ∧ tys = [2] then 2 else 0
/-- .. of two. -/
def twoT (k : Int) (ns : List ByteArray) (tys : List Int) : Int := match ns, tys with
  | [], [a, b] => if a = 0 ∨ b = 0 then 0 else if k ≤ 7 ∧ a = 1 ∧ b = 1 then 1 else if k ≤ 7 then 2 else if k ≤ 13 ∧ a ≠ 2 then 0 else if 13 < k ∧ (a ≠ 2 ∨ b ≠ 2) then 0 else 2
  | _, _ => 0
mutual
def PE.ty : PE → Int
  | .mk k n ms ns ks => if k = 1 then (if ms.length + ns.length + ks.length = 0 then 1 else 0)
    else if k = 2 then (if ns.length + ks.length = 0 ∧ rightM ms = true ∧ 1 ≤ n ∧ n ≤ 1048576 then 2 else 0)
    else if ¬ (ms.length = 0 ∧ n = 0) then 0
    else if wordX k ≠ ⟨#[]⟩ then oneT ns (tysP ks)
    else if signX k ≠ ⟨#[]⟩ then twoT k ns (tysP ks) else 0
def tysP : List PE → List Int
  | [] => []
  | x :: l => x.ty :: tysP l
end
theorem tysP_length (l : List XE) : (tysP (pesX l)).length = l.length := by
  induction l with
  | nil => rfl
  | cons x l ih => simp [pesX, tysP, ih]
mutual
/-- An expression whose rows are short (their lengths are summed without overflow). -/
def PE.small : PE → Prop
  | .mk _ _ ms ns ks => ms.length ≤ 1000002 ∧ ns.length ≤ 1000002 ∧ ks.length ≤ 1000002 ∧ smallP ks
def smallP : List PE → Prop
  | [] => True
  | x :: l => x.small ∧ smallP l
end
theorem smallP_mem : ∀ (l : List XE), smallP (pesX l) → ∀ x ∈ l, x.pe.small
  | [], _ => fun x hx => absurd hx List.not_mem_nil
  | y :: l, h => fun x hx => by
    have h' : y.pe.small ∧ smallP (pesX l) := h
    rcases List.mem_cons.1 hx with rfl | hx
    · exact h'.1
    · exact smallP_mem l h'.2 x hx
/-- What is told of Type at trees of so many floors. -/
def TypeSaid (d : Nat) : Prop := ∀ (x : XE) (w : World), x.pe.small → okX d x w → Calls Tryd.prog 10 #[x.val] w fun e w' => e = .returned (.int .i64 x.pe.ty) ∧ Below w.heap.size w w'
theorem Slc.slice {w : World} {size n c : Nat} {A : Option Addr} {xs : List Value} {m : Nat} (h : Slc w size (.slice A m c) n xs) : Sees w w.heap.size size A n xs ∧ n ≤ c ∧ c ≤ 9223372036854775807 := by
  obtain ⟨A', c', e, h1, h2⟩ := h
  injection e with e1 e2 e3
  subst e1; subst e3
  exact ⟨h1, h2⟩
set_option maxHeartbeats 2000000 in
theorem typeOne_x (d : Nat) (IH : TypeSaid d) (kk nn : Int) (A1 : Option Addr) (c1 : Nat) (ms : List Mtc) (A2 : Option Addr) (c2 : Nat) (ns : List ByteArray) (A3 : Option Addr) (c3 : Nat) (ks : List XE) (w : World) (hs : smallP (pesX ks))
    (h : okX (d + 1) (.mk kk nn (.slice A1 ms.length c1) ms (.slice A2 ns.length c2) ns (.slice A3 ks.length c3) ks) w) :
    Calls Tryd.prog 27 #[.agg #[.int .i64 kk, .int .i64 nn, .slice A1 ms.length c1, .slice A2 ns.length c2, .slice A3 ks.length c3]] w fun e w' => e = .returned (.int .i64 (oneT ns (tysP (pesX ks)))) ∧ Below w.heap.size w w' := by
  obtain ⟨_, h2, h3, h4⟩ := h
  obtain ⟨s2, m2, m2'⟩ := Slc.slice h2
  obtain ⟨s3, m3, m3'⟩ := Slc.slice h3
  replace s3 : Sees w w.heap.size 5 A3 ks.length (kcells ks) := s3
  have hb : Below w.heap.size w (w.alloc (.cells #[.int .i64 kk, .int .i64 nn, .slice A1 ms.length c1, .slice A2 ns.length c2, .slice A3 ks.length c3] 26)) := (Below.refl _ _).alloc (Nat.le_refl _) _
  have HB := Lib.hid hb
  have HX := Lib.hid (Blk.mk (heap_alloc_new w (.cells #[.int .i64 kk, .int .i64 nn, .slice A1 ms.length c1, .slice A2 ns.length c2, .slice A3 ks.length c3] 26)) : Blk _ w.heap.size 26 [.int .i64 kk, .int .i64 nn, .slice A1 ms.length c1, .slice A2 ns.length c2, .slice A3 ks.length c3])
  have HN := Lib.hid (names_x A2 ns.length c2 _ ns (w.alloc (.cells #[.int .i64 kk, .int .i64 nn, .slice A1 ms.length c1, .slice A2 ns.length c2, .slice A3 ks.length c3] 26)) (s2.below hb) m2 m2')
  have H3 := Lib.hid (s3.below hb)
  have HI := Lib.hid (fun x (hx : x ∈ ks) => IH x (w.alloc (.cells #[.int .i64 kk, .int .i64 nn, .slice A1 ms.length c1, .slice A2 ns.length c2, .slice A3 ks.length c3] 26)) (smallP_mem ks hs x hx) (okX_below hb d x (h4 x hx)))
  have HOK := Lib.hid (fun x (hx : x ∈ ks) => okX_below hb d x (h4 x hx))
  have HT : Hid (oneT ns (tysP (pesX ks)) = if namesF ns = true ∧ tysP (pesX ks) = [2] then 2 else 0) := Lib.hid rfl
  obtain ⟨q, hq⟩ : ∃ q, oneT ns (tysP (pesX ks)) = q := ⟨_, rfl⟩
  rw [hq] at HT ⊢
  clear h2 h3 h4 s2 s3 hb IH hq m3 m3' hs
  go_enter Tryd.func27, Tryd.ntmps27
  go_upto_region 1 with fail
  generalize w.alloc (.cells #[.int .i64 kk, .int .i64 nn, .slice A1 ms.length c1, .slice A2 ns.length c2, .slice A3 ks.length c3] 26) = W1 at *
  obtain ⟨x0, x1, x2, x3, x4⟩ := blk_cells5 HX.out
  cases hn : namesF ns with
  | false =>
    rw [hn] at HN
    have HE := Lib.hid (show q = 0 by rw [HT.out, if_neg (by rw [hn]; simp)])
    clear hn
    go_wp2_with fail
    (with_reducible refine HN.out.mono ?_); rintro e w' ⟨rfl, rfl⟩
    go_wp2_with fail
    go_ret
    exact ⟨by rw [HE.out]; rfl, HB.out⟩
  | true =>
    rw [hn] at HN
    match ks with
    | [] =>
      have HE := Lib.hid (show q = 0 by rw [HT.out, if_neg (fun h => absurd h.2 (by simp [pesX, tysP]))])
      clear hn
      go_wp2_with fail
      (with_reducible refine HN.out.mono ?_); rintro e w' ⟨rfl, rfl⟩
      go_wp2_with fail
      go_ret
      exact ⟨by rw [HE.out]; rfl, HB.out⟩
    | a :: b :: l =>
      have t1 : (((l.length + 1 + 1 : Nat) : Int) != 1) = true := by rw [bne_iff_ne]; omega
      have t2 : ((l.length : Int) + 1 + 1 != 1) = true := by rw [bne_iff_ne]; omega
      have HE := Lib.hid (show q = 0 by rw [HT.out, if_neg (fun h => absurd h.2 (by simp [pesX, tysP]))])
      clear hn
      go_wp2_with fail
      (with_reducible refine HN.out.mono ?_); rintro e w' ⟨rfl, rfl⟩
      go_wp2_with fail
      go_ret
      exact ⟨by rw [HE.out]; rfl, HB.out⟩
    | [a] =>
      obtain ⟨ad, hl, rfl, c0, c1', c2', c3', c4⟩ := H3.out.kid (k := 0) (by simp)
      have e0 : ad.add (0 * 5) = ad := by first | (simp [go_sem]; done) | (unfold Addr.add; split <;> simp_all)
      rw [e0] at c0 c1' c2' c3' c4
      obtain ⟨B1, e1, B2, e2, B3, e3, v1, v2, v3⟩ := okX_forms (HOK.out a (by simp))
      have HIA := Lib.hid (HI.out a (by simp))
      have HE := Lib.hid (show q = if a.pe.ty = 2 then 2 else 0 by rw [HT.out]; simp [hn, pesX, tysP])
      obtain ⟨ak, an, amv, ams, anv, ans, akv, aks⟩ := a
      simp only [XE.mv, XE.nv, XE.kv, XE.ms, XE.ns, XE.kids] at v1 v2 v3
      subst v1; subst v2; subst v3
      simp only [List.getElem_cons_zero, XE.kd, XE.n, XE.mv, XE.nv, XE.kv, XE.val] at c0 c1' c2' c3' c4 HIA
      clear hn
      generalize (XE.pe _).ty = ta at *
      go_wp2_with fail
      (with_reducible refine HN.out.mono ?_); rintro e w' ⟨rfl, rfl⟩
      go_wp2_with fail
      (with_reducible refine HIA.out.mono ?_); rintro e w2 ⟨rfl, hb2⟩
      have HB2 := Lib.hid (HB.out.trans (hb2.mono HB.out.size))
      clear hb2
      by_cases ht : ta = 2
      · have t1 : (ta != 2) = false := by rw [ht]; rfl
        have HE2 := Lib.hid (show q = 2 by rw [HE.out, if_pos ht])
        clear ht
        go_wp2_with fail
        go_ret
        exact ⟨by rw [HE2.out]; rfl, HB2.out⟩
      · have t1 : (ta != 2) = true := by rw [bne_iff_ne]; exact ht
        have HE2 := Lib.hid (show q = 0 by rw [HE.out, if_neg ht])
        clear ht
        go_wp2_with fail
        go_ret
        exact ⟨by rw [HE2.out]; rfl, HB2.out⟩
end Go.Proofs.YtnkbpcenkbihpaaDoor

namespace Go.Proofs.YtnkbpcenkbihpaaDoor
open Go.ChangeShapes Go.WideShapes Go.ChangeAt Go.RowKit
set_option linter.unusedVariables false
set_option linter.unusedSimpArgs false
set_option maxRecDepth 100000
theorem kidT_cells0 {V : World} {ad : Addr} {u0 u1 u2 u3 u4 : Value} {r : List Value} (h : ∀ j u, (u0 :: u1 :: u2 :: u3 :: u4 :: r)[j]? = some u → V.cell? (ad.add j) = some u) :
    V.cell? ad = some u0 ∧ V.cell? ⟨ad.block, ad.off + 1, none⟩ = some u1 ∧ V.cell? ⟨ad.block, ad.off + 2, none⟩ = some u2 ∧ V.cell? ⟨ad.block, ad.off + 3, none⟩ = some u3 ∧ V.cell? ⟨ad.block, ad.off + 4, none⟩ = some u4 := by
  have h0 := h 0 _ rfl
  rw [add_zero'] at h0
  have hs : ∀ j, 0 < j → (⟨ad.block, ad.off + j, none⟩ : Addr) = ad.add j := fun j hj => by
    have := add_spelt ad 0 j hj
    rwa [add_zero', Nat.zero_add] at this
  exact ⟨h0, by rw [hs 1 (by omega)]; exact h 1 _ rfl, by rw [hs 2 (by omega)]; exact h 2 _ rfl, by rw [hs 3 (by omega)]; exact h 3 _ rfl, by rw [hs 4 (by omega)]; exact h 4 _ rfl⟩
theorem kidT_cells5 {V : World} {ad : Addr} {a0 a1 a2 a3 a4 u0 u1 u2 u3 u4 : Value} (h : ∀ j u, [a0, a1, a2, a3, a4, u0, u1, u2, u3, u4][j]? = some u → V.cell? (ad.add j) = some u) :
    V.cell? ⟨ad.block, ad.off + 5, none⟩ = some u0 ∧ V.cell? ⟨ad.block, ad.off + 5 + 1, none⟩ = some u1 ∧ V.cell? ⟨ad.block, ad.off + 5 + 2, none⟩ = some u2 ∧ V.cell? ⟨ad.block, ad.off + 5 + 3, none⟩ = some u3 ∧ V.cell? ⟨ad.block, ad.off + 5 + 4, none⟩ = some u4 := by
  have hs : ∀ j, 0 < j → (⟨ad.block, ad.off + j, none⟩ : Addr) = ad.add j := fun j hj => by
    have := add_spelt ad 0 j hj
    rwa [add_zero', Nat.zero_add] at this
  exact ⟨by rw [hs 5 (by omega)]; exact h 5 _ rfl, by rw [Nat.add_assoc, hs _ (by omega)]; exact h 6 _ rfl, by rw [Nat.add_assoc, hs _ (by omega)]; exact h 7 _ rfl, by rw [Nat.add_assoc, hs _ (by omega)]; exact h 8 _ rfl, by rw [Nat.add_assoc, hs _ (by omega)]; exact h 9 _ rfl⟩
/-- Within typeOfTwo: the box and both kids. -/
structure T2At (w : World) (bx d : Nat) (kk nn : Int) (v2 v3 : Value) (ad : Addr) (c3 : Nat) (a b : XE) (W : World) : Prop where
  bel : Below w.heap.size w W
  box : Blk W bx 26 [.int .i64 kk, .int .i64 nn, v2, v3, .slice (some ad) 2 c3]
  see : Sees W W.heap.size 5 (some ad) 2 (kcells [a, b])
  oka : okX d a W
  okb : okX d b W
theorem T2At.below {w W W' : World} {bx d c3 : Nat} {kk nn : Int} {v2 v3 : Value} {ad : Addr} {a b : XE} (h : T2At w bx d kk nn v2 v3 ad c3 a b W) (hb : Below W.heap.size W W') : T2At w bx d kk nn v2 v3 ad c3 a b W' :=
  ⟨h.bel.trans (hb.mono h.bel.size), h.box.below hb h.box.lt, (h.see.below hb).more hb.size, okX_below hb d a h.oka, okX_below hb d b h.okb⟩
theorem T2At.cell {w W : World} {bx d c3 : Nat} {kk nn : Int} {v2 v3 : Value} {ad : Addr} {a b : XE} (h : T2At w bx d kk nn v2 v3 ad c3 a b W) : ∀ j u, [.int .i64 a.kd, .int .i64 a.n, a.mv, a.nv, a.kv, .int .i64 b.kd, .int .i64 b.n, b.mv, b.nv, b.kv][j]? = some u → W.cell? (ad.add j) = some u := by
  obtain ⟨ad', e, _, hc⟩ := h.see.at_ (by omega)
  injection e with e
  subst e
  exact hc
end Go.Proofs.YtnkbpcenkbihpaaDoor

namespace Go.Proofs.YtnkbpcenkbihpaaDoor
open Go.ChangeShapes Go.WideShapes Go.ChangeAt Go.RowKit
set_option linter.unusedVariables false
set_option linter.unusedSimpArgs false
set_option maxRecDepth 100000
set_option maxHeartbeats 4000000 in
theorem typeTwo_x (d : Nat) (IH : TypeSaid d) (kk nn : Int) (A1 : Option Addr) (c1 : Nat) (ms : List Mtc) (A2 : Option Addr) (c2 : Nat) (ad : Addr) (c3 : Nat) (xa xb : XE) (w : World) (hsa : xa.pe.small) (hsb : xb.pe.small)
    (h : okX (d + 1) (.mk kk nn (.slice A1 ms.length c1) ms (.slice A2 0 c2) [] (.slice (some ad) 2 c3) [xa, xb]) w) :
    Calls Tryd.prog 29 #[.agg #[.int .i64 kk, .int .i64 nn, .slice A1 ms.length c1, .slice A2 0 c2, .slice (some ad) 2 c3]] w fun e w' => e = .returned (.int .i64 (twoT kk [] [xa.pe.ty, xb.pe.ty])) ∧ Below w.heap.size w w' := by
  obtain ⟨_, h2, h3, h4⟩ := h
  obtain ⟨s3, m3, m3'⟩ := Slc.slice h3
  replace s3 : Sees w w.heap.size 5 (some ad) 2 (kcells [xa, xb]) := s3
  have hb : Below w.heap.size w (w.alloc (.cells #[.int .i64 kk, .int .i64 nn, .slice A1 ms.length c1, .slice A2 0 c2, .slice (some ad) 2 c3] 26)) := (Below.refl _ _).alloc (Nat.le_refl _) _
  obtain ⟨v2, hv2⟩ : ∃ v, Value.slice A1 ms.length c1 = v := ⟨_, rfl⟩
  obtain ⟨v3, hv3⟩ : ∃ v, Value.slice A2 0 c2 = v := ⟨_, rfl⟩
  have HA : Hid (T2At w w.heap.size d kk nn (.slice A1 ms.length c1) (.slice A2 0 c2) ad c3 xa xb (w.alloc (.cells #[.int .i64 kk, .int .i64 nn, .slice A1 ms.length c1, .slice A2 0 c2, .slice (some ad) 2 c3] 26))) := Lib.hid ⟨hb, Blk.mk (heap_alloc_new w _), (s3.below hb).more hb.size, okX_below hb d xa (h4 xa (by simp [XE.kids])), okX_below hb d xb (h4 xb (by simp [XE.kids]))⟩
  obtain ⟨ta, hta⟩ : ∃ t, xa.pe.ty = t := ⟨_, rfl⟩
  obtain ⟨tb, htb⟩ : ∃ t, xb.pe.ty = t := ⟨_, rfl⟩
  have HTA := Lib.hid (show ∀ V, T2At w w.heap.size d kk nn (.slice A1 ms.length c1) (.slice A2 0 c2) ad c3 xa xb V → Calls Tryd.prog 10 #[.agg #[.int .i64 xa.kd, .int .i64 xa.n, xa.mv, xa.nv, xa.kv]] V fun e w' => e = .returned (.int .i64 ta) ∧ Below V.heap.size V w' from fun V hV => by rw [← hta]; exact IH xa V hsa hV.oka)
  have HTB := Lib.hid (show ∀ V, T2At w w.heap.size d kk nn (.slice A1 ms.length c1) (.slice A2 0 c2) ad c3 xa xb V → Calls Tryd.prog 10 #[.agg #[.int .i64 xb.kd, .int .i64 xb.n, xb.mv, xb.nv, xb.kv]] V fun e w' => e = .returned (.int .i64 tb) ∧ Below V.heap.size V w' from fun V hV => by rw [← htb]; exact IH xb V hsb hV.okb)
  rw [hta, htb]
  obtain ⟨q, hq⟩ : ∃ q, twoT kk [] [ta, tb] = q := ⟨_, rfl⟩
  rw [hq]
  have HQ := Lib.hid hq
  clear h2 h3 h4 s3 hb IH hq hta htb hv2 hv3 m3 m3' hsa hsb
  have HG := Lib.hid (show ∃ g, w.heap.size = g from ⟨_, rfl⟩)
  go_enter Tryd.func29, Tryd.ntmps29
  go_upto_region 1 with fail
  obtain ⟨bx, hbx⟩ := HG.out
  rw [hbx]
  rw [hbx] at HA HTA HTB
  clear HG hbx
  generalize w.alloc (.cells #[.int .i64 kk, .int .i64 nn, .slice A1 ms.length c1, .slice A2 0 c2, .slice (some ad) 2 c3] 26) = W1 at *
  obtain ⟨x0, x1, x2, x3, x4⟩ := blk_cells5 HA.out.box
  go_upto_region 3 with fail
  clear x0 x1 x2 x3 x4
  generalize Value.slice A1 ms.length c1 = v2 at HA HTA HTB
  generalize Value.slice A2 0 c2 = v3 at HA HTA HTB
  go_cut [3, 4] from 15 to 24 (fun y3 y4 wx => y3 = .int .i64 ta ∧ y4 = .int .i64 tb ∧ T2At w bx d kk nn v2 v3 ad c3 xa xb wx)
  case first =>
    refine wp_region_facts (R := fun a b => Below a.heap.size a b) (G := (fun W => T2At w bx d kk nn v2 v3 ad c3 xa xb W)) (V := fun i' u' W => match i' with | 0 => u' = .pointer (some ⟨bx, 4, none⟩) | 1 => u' = .slice (some ad) 2 c3 | 2 => u' = .pointer (some ad) | 3 => u' = .agg #[.int .i64 xa.kd, .int .i64 xa.n, xa.mv, xa.nv, xa.kv] | 4 => u' = .int .i64 ta | 5 => u' = .pointer (some ⟨bx, 4, none⟩) | 6 => u' = .slice (some ad) 2 c3 | 7 => u' = .pointer (some (ad.add 5)) | 8 => u' = .agg #[.int .i64 xb.kd, .int .i64 xb.n, xb.mv, xb.nv, xb.kv] | 9 => u' = .int .i64 tb | 10 => u' = .int .i64 ta | 11 => u' = .int .i64 tb | _ => True) (by kernel_rfl) (fun w => Below.refl _ _) (fun a b c h1 h2 => h1.trans (h2.mono h1.size)) (by kernel_rfl) (by kernel_rfl) ?hG ⟨?o0, ?o1, ?o2, ?o3, ?o4, ?o5, ?o6, ?o7, ?o8, ?o9, ?o10, ?o11, trivial⟩ ?hend
    case o0 =>
      intro a w hfr hG hd
      refine ⟨fun hw => ?_, fun hw => absurd hw (by simp [Region.wanted])⟩
      have s1 : a.tmps.getD 1 undef = .pointer (some ⟨bx, 0, none⟩) := hfr.at 1 (by kernel_rfl)
      refine op_yields (.pointer (some ⟨bx, 4, none⟩)) ?_ ?_ ?_
      · simp only [execOp, resolve, List.map_toArray, List.map_cons, List.map_nil, Act.eval, s1]; simp [go_sem, -Array.getD_eq_getD_getElem?, s1]
      · exact Below.refl _ _
      · exact (fun _ _ => rfl)
    case o1 =>
      intro a w hfr hG hd
      obtain ⟨d0, _⟩ := hd
      refine ⟨fun hw => ?_, fun hw => absurd hw (by simp [Region.wanted])⟩
      have s15 : a.tmps.getD 15 undef = .pointer (some ⟨bx, 4, none⟩) := (d0 rfl).now
      have z4 := hG.now.box.cell 4; simp only [List.getElem?_cons_zero, List.getElem?_cons_succ] at z4
      refine op_yields (.slice (some ad) 2 c3) ?_ ?_ ?_
      · simp only [execOp, resolve, List.map_toArray, List.map_cons, List.map_nil, Act.eval, s15]; simp [go_sem, -Array.getD_eq_getD_getElem?, s15, z4]
      · exact Below.refl _ _
      · exact (fun _ _ => rfl)
    case o2 =>
      intro a w hfr hG hd
      obtain ⟨d0, _⟩ := hd
      refine ⟨fun hw => ?_, fun hw => absurd hw (by simp [Region.wanted])⟩
      have s16 : a.tmps.getD 16 undef = .slice (some ad) 2 c3 := (d0 rfl).now
      refine op_yields (.pointer (some ad)) ?_ ?_ ?_
      · simp only [execOp, resolve, List.map_toArray, List.map_cons, List.map_nil, Act.eval, s16]; simp [go_sem, -Array.getD_eq_getD_getElem?, s16]
      · exact Below.refl _ _
      · exact (fun _ _ => rfl)
    case o3 =>
      intro a w hfr hG hd
      obtain ⟨d0, _⟩ := hd
      refine ⟨fun hw => ?_, fun hw => absurd hw (by simp [Region.wanted])⟩
      have s17 : a.tmps.getD 17 undef = .pointer (some ad) := (d0 rfl).now
      obtain ⟨z0, z1, z2, z3, z4⟩ := kidT_cells0 (hG.now.cell)
      refine op_yields (.agg #[.int .i64 xa.kd, .int .i64 xa.n, xa.mv, xa.nv, xa.kv]) ?_ ?_ ?_
      · simp only [execOp, resolve, List.map_toArray, List.map_cons, List.map_nil, Act.eval, s17]; simp [go_sem, -Array.getD_eq_getD_getElem?, s17, z0, z1, z2, z3, z4]
      · exact Below.refl _ _
      · exact (fun _ _ => rfl)
    case o4 =>
      intro a w hfr hG hd
      obtain ⟨d0, _⟩ := hd
      refine ⟨fun hw => ?_, fun hw => absurd hw (by simp [Region.wanted])⟩
      have s18 : a.tmps.getD 18 undef = .agg #[.int .i64 xa.kd, .int .i64 xa.n, xa.mv, xa.nv, xa.kv] := (d0 rfl).now
      refine op_calls2 ((HTA.out w hG.now).mono fun e' w' hh => ⟨_, hh.1, hh.2, (fun _ _ => rfl)⟩) ?_
      simp only [execOp, resolve, List.map_toArray, List.map_cons, List.map_nil, Act.eval, s18]; simp [go_sem, -Array.getD_eq_getD_getElem?, s18]
    case o5 =>
      intro a w hfr hG hd
      refine ⟨fun hw => ?_, fun hw => absurd hw (by simp [Region.wanted])⟩
      have s1 : a.tmps.getD 1 undef = .pointer (some ⟨bx, 0, none⟩) := hfr.at 1 (by kernel_rfl)
      refine op_yields (.pointer (some ⟨bx, 4, none⟩)) ?_ ?_ ?_
      · simp only [execOp, resolve, List.map_toArray, List.map_cons, List.map_nil, Act.eval, s1]; simp [go_sem, -Array.getD_eq_getD_getElem?, s1]
      · exact Below.refl _ _
      · exact (fun _ _ => rfl)
    case o6 =>
      intro a w hfr hG hd
      obtain ⟨d0, _⟩ := hd
      refine ⟨fun hw => ?_, fun hw => absurd hw (by simp [Region.wanted])⟩
      have s20 : a.tmps.getD 20 undef = .pointer (some ⟨bx, 4, none⟩) := (d0 rfl).now
      have z4 := hG.now.box.cell 4; simp only [List.getElem?_cons_zero, List.getElem?_cons_succ] at z4
      refine op_yields (.slice (some ad) 2 c3) ?_ ?_ ?_
      · simp only [execOp, resolve, List.map_toArray, List.map_cons, List.map_nil, Act.eval, s20]; simp [go_sem, -Array.getD_eq_getD_getElem?, s20, z4]
      · exact Below.refl _ _
      · exact (fun _ _ => rfl)
    case o7 =>
      intro a w hfr hG hd
      obtain ⟨d0, _⟩ := hd
      refine ⟨fun hw => ?_, fun hw => absurd hw (by simp [Region.wanted])⟩
      have s21 : a.tmps.getD 21 undef = .slice (some ad) 2 c3 := (d0 rfl).now
      refine op_yields (.pointer (some (ad.add 5))) ?_ ?_ ?_
      · simp only [execOp, resolve, List.map_toArray, List.map_cons, List.map_nil, Act.eval, s21]; simp [go_sem, -Array.getD_eq_getD_getElem?, s21]
      · exact Below.refl _ _
      · exact (fun _ _ => rfl)
    case o8 =>
      intro a w hfr hG hd
      obtain ⟨d0, _⟩ := hd
      refine ⟨fun hw => ?_, fun hw => absurd hw (by simp [Region.wanted])⟩
      have s22 : a.tmps.getD 22 undef = .pointer (some (ad.add 5)) := (d0 rfl).now
      obtain ⟨z0, z1, z2, z3, z4⟩ := kidT_cells5 (hG.now.cell)
      refine op_yields (.agg #[.int .i64 xb.kd, .int .i64 xb.n, xb.mv, xb.nv, xb.kv]) ?_ ?_ ?_
      · simp only [execOp, resolve, List.map_toArray, List.map_cons, List.map_nil, Act.eval, s22]; simp [go_sem, -Array.getD_eq_getD_getElem?, s22, z0, z1, z2, z3, z4]
      · exact Below.refl _ _
      · exact (fun _ _ => rfl)
    case o9 =>
      intro a w hfr hG hd
      obtain ⟨d0, d1, _⟩ := hd
      refine ⟨fun hw => ?_, fun hw => absurd hw (by simp [Region.wanted])⟩
      have s23 : a.tmps.getD 23 undef = .agg #[.int .i64 xb.kd, .int .i64 xb.n, xb.mv, xb.nv, xb.kv] := (d0 rfl).now
      refine op_calls2 ((HTB.out w hG.now).mono fun e' w' hh => ⟨_, hh.1, hh.2, (fun _ _ => rfl)⟩) ?_
      simp only [execOp, resolve, List.map_toArray, List.map_cons, List.map_nil, Act.eval, s23]; simp [go_sem, -Array.getD_eq_getD_getElem?, s23]
    case o10 =>
      intro a w hfr hG hd
      obtain ⟨d0, d1, d2, d3, d4, d5, d6, d7, d8, d9, d10, d11, _⟩ := hd
      refine ⟨fun hw => ?_, fun hw => absurd hw (by simp [Region.wanted])⟩
      have s19 : a.tmps.getD 19 undef = .int .i64 ta := (d0 rfl).now
      refine op_yields (.int .i64 ta) ?_ ?_ ?_
      · simp only [execOp, resolve, List.map_toArray, List.map_cons, List.map_nil, Act.eval, s19]; simp [go_sem, -Array.getD_eq_getD_getElem?, s19]
      · exact Below.refl _ _
      · exact (fun _ _ => rfl)
    case o11 =>
      intro a w hfr hG hd
      obtain ⟨d0, d1, d2, d3, d4, d5, d6, d7, d8, d9, d10, d11, d12, _⟩ := hd
      refine ⟨fun hw => ?_, fun hw => absurd hw (by simp [Region.wanted])⟩
      have s24 : a.tmps.getD 24 undef = .int .i64 tb := (d0 rfl).now
      refine op_yields (.int .i64 tb) ?_ ?_ ?_
      · simp only [execOp, resolve, List.map_toArray, List.map_cons, List.map_nil, Act.eval, s24]; simp [go_sem, -Array.getD_eq_getD_getElem?, s24]
      · exact Below.refl _ _
      · exact (fun _ _ => rfl)
    case hG => exact fun w' hb => HA.out.below ((Below.refl _ _).drew.trans (hb.mono (by simp)))
    case hend =>
      intro vs w' hG hv
      have key : vs 10 = .int .i64 ta ∧ vs 11 = .int .i64 tb := by
        obtain ⟨_, _, _, _, _, _, _, _, _, _, h10, h11, _⟩ := hv
        exact ⟨h10.now, h11.now⟩
      have HP2 := Lib.hid hG.now
      clear hv hG HA HTA HTB
      simp only [putAll, Act.put, key.1, key.2]
      clear key
      go_simp
      go_wp2_with fail
      go_meet
      exact ⟨rfl, rfl, HP2.out⟩
  case rest =>
    obtain ⟨rfl, rfl, hat⟩ := hcut
    have HB := Lib.hid hat.bel
    obtain ⟨x0, x1, x2, x3, x4⟩ := blk_cells5 hat.box
    clear hat HA HTA HTB
    by_cases a0 : ta = 0
    · have a0e : (ta == 0) = true := by rw [a0]; rfl
      have a0n : (ta != 0) = false := by rw [a0]; rfl
      have HE := Lib.hid (show q = 0 by rw [← HQ.out]; simp [twoT, a0])
      go_wp2_with fail
      go_ret
      exact ⟨by rw [HE.out]; rfl, HB.out⟩
    · have a0e : (ta == 0) = false := by rw [beq_eq_false_iff_ne]; exact a0
      have a0n : (ta != 0) = true := by rw [bne_iff_ne]; exact a0
      by_cases b0 : tb = 0
      · have b0e : (tb == 0) = true := by rw [b0]; rfl
        have b0n : (tb != 0) = false := by rw [b0]; rfl
        have HE := Lib.hid (show q = 0 by rw [← HQ.out]; simp [twoT, a0, b0])
        go_wp2_with fail
        go_ret
        exact ⟨by rw [HE.out]; rfl, HB.out⟩
      · have b0e : (tb == 0) = false := by rw [beq_eq_false_iff_ne]; exact b0
        have b0n : (tb != 0) = true := by rw [bne_iff_ne]; exact b0
        by_cases k7 : kk ≤ 7
        · by_cases a1 : ta = 1
          · have a1e : (ta == 1) = true := by rw [a1]; rfl
            have a1n : (ta != 1) = false := by rw [a1]; rfl
            by_cases b1 : tb = 1
            · have b1e : (tb == 1) = true := by rw [b1]; rfl
              have b1n : (tb != 1) = false := by rw [b1]; rfl
              have HE := Lib.hid (show q = 1 by rw [← HQ.out]; simp [twoT, a0, b0, k7, a1, b1])
              go_wp2_with fail
              go_ret
              exact ⟨by rw [HE.out]; rfl, HB.out⟩
            · have b1e : (tb == 1) = false := by rw [beq_eq_false_iff_ne]; exact b1
              have b1n : (tb != 1) = true := by rw [bne_iff_ne]; exact b1
              have HE := Lib.hid (show q = 2 by rw [← HQ.out]; simp [twoT, a0, b0, k7, a1, b1])
              go_wp2_with fail
              go_ret
              exact ⟨by rw [HE.out]; rfl, HB.out⟩
          · have a1e : (ta == 1) = false := by rw [beq_eq_false_iff_ne]; exact a1
            have a1n : (ta != 1) = true := by rw [bne_iff_ne]; exact a1
            have HE := Lib.hid (show q = 2 by rw [← HQ.out]; simp [twoT, a0, b0, k7, a1])
            go_wp2_with fail
            go_ret
            exact ⟨by rw [HE.out]; rfl, HB.out⟩
        · by_cases k13 : kk ≤ 13
          · have k13n : ¬ 13 < kk := by omega
            by_cases a2 : ta = 2
            · have a2e : (ta == 2) = true := by rw [a2]; rfl
              have a2n : (ta != 2) = false := by rw [a2]; rfl
              have HE := Lib.hid (show q = 2 by rw [← HQ.out]; simp [twoT, a0, b0, k7, k13, a2, k13n])
              go_wp2_with fail
              go_ret
              exact ⟨by rw [HE.out]; rfl, HB.out⟩
            · have a2e : (ta == 2) = false := by rw [beq_eq_false_iff_ne]; exact a2
              have a2n : (ta != 2) = true := by rw [bne_iff_ne]; exact a2
              have HE := Lib.hid (show q = 0 by rw [← HQ.out]; simp [twoT, a0, b0, k7, k13, a2, k13n])
              go_wp2_with fail
              go_ret
              exact ⟨by rw [HE.out]; rfl, HB.out⟩
          · have k13n : 13 < kk := by omega
            by_cases a2 : ta = 2
            · have a2e : (ta == 2) = true := by rw [a2]; rfl
              have a2n : (ta != 2) = false := by rw [a2]; rfl
              by_cases b2 : tb = 2
              · have b2e : (tb == 2) = true := by rw [b2]; rfl
                have b2n : (tb != 2) = false := by rw [b2]; rfl
                have HE := Lib.hid (show q = 2 by rw [← HQ.out]; simp [twoT, a0, b0, k7, k13, a2, b2, k13n])
                go_wp2_with fail
                go_ret
                exact ⟨by rw [HE.out]; rfl, HB.out⟩
              · have b2e : (tb == 2) = false := by rw [beq_eq_false_iff_ne]; exact b2
                have b2n : (tb != 2) = true := by rw [bne_iff_ne]; exact b2
                have HE := Lib.hid (show q = 0 by rw [← HQ.out]; simp [twoT, a0, b0, k7, k13, a2, b2, k13n])
                go_wp2_with fail
                go_ret
                exact ⟨by rw [HE.out]; rfl, HB.out⟩
            · have a2e : (ta == 2) = false := by rw [beq_eq_false_iff_ne]; exact a2
              have a2n : (ta != 2) = true := by rw [bne_iff_ne]; exact a2
              have HE := Lib.hid (show q = 0 by rw [← HQ.out]; simp [twoT, a0, b0, k7, k13, a2, k13n])
              go_wp2_with fail
              go_ret
              exact ⟨by rw [HE.out]; rfl, HB.out⟩
end Go.Proofs.YtnkbpcenkbihpaaDoor

namespace Go.Proofs.YtnkbpcenkbihpaaDoor
open Go.ChangeShapes Go.WideShapes Go.ChangeAt Go.RowKit
set_option linter.unusedVariables false
set_option linter.unusedSimpArgs false
set_option maxRecDepth 100000
set_option maxHeartbeats 2000000 in
theorem typeTwo_no (kk nn : Int) (A1 A2 A3 : Option Addr) (m1 c1 m2 c2 m3 c3 : Nat) (w : World) (hno : ¬ (m2 = 0 ∧ m3 = 2)) :
    Calls Tryd.prog 29 #[.agg #[.int .i64 kk, .int .i64 nn, .slice A1 m1 c1, .slice A2 m2 c2, .slice A3 m3 c3]] w fun e w' => e = .returned (.int .i64 0) ∧ Below w.heap.size w w' := by
  have HB : Hid (Below w.heap.size w (w.alloc (.cells #[.int .i64 kk, .int .i64 nn, .slice A1 m1 c1, .slice A2 m2 c2, .slice A3 m3 c3] 26))) := Lib.hid ((Below.refl _ _).alloc (Nat.le_refl _) _)
  have HX := Lib.hid (Blk.mk (heap_alloc_new w (.cells #[.int .i64 kk, .int .i64 nn, .slice A1 m1 c1, .slice A2 m2 c2, .slice A3 m3 c3] 26)) : Blk _ w.heap.size 26 [.int .i64 kk, .int .i64 nn, .slice A1 m1 c1, .slice A2 m2 c2, .slice A3 m3 c3])
  have HNO := Lib.hid hno
  clear hno
  go_enter Tryd.func29, Tryd.ntmps29
  go_upto_region 1 with fail
  generalize w.alloc (.cells #[.int .i64 kk, .int .i64 nn, .slice A1 m1 c1, .slice A2 m2 c2, .slice A3 m3 c3] 26) = W1 at *
  obtain ⟨x0, x1, x2, x3, x4⟩ := blk_cells5 HX.out
  by_cases h0 : 0 < m2
  · have t0 : decide (0 < m2) = true := decide_eq_true h0
    go_wp2_with fail
    go_ret
    exact ⟨rfl, HB.out⟩
  · have t0 : decide (0 < m2) = false := decide_eq_false h0
    have h3 : ((m3 : Int) != 2) = true := by rw [bne_iff_ne]; have := HNO.out; omega
    clear h0
    go_wp2_with fail
    go_ret
    exact ⟨rfl, HB.out⟩
end Go.Proofs.YtnkbpcenkbihpaaDoor

namespace Go.Proofs.YtnkbpcenkbihpaaDoor
open Go.ChangeShapes Go.WideShapes Go.ChangeAt Go.RowKit
set_option linter.unusedVariables false
set_option linter.unusedSimpArgs false
set_option maxRecDepth 100000
theorem ba_full {s : ByteArray} (h : ¬ s = ⟨#[]⟩) : s.toList.isEmpty = false := by
  cases hq : s.toList with
  | nil =>
    rw [ByteArray.toList_eq] at hq
    exact absurd (by cases s; simp at hq; rw [hq]) h
  | cons => rfl
/-- typeOfTwo, whatever it is given. -/
theorem typeTwo_all (d : Nat) (IH : TypeSaid d) (kk nn : Int) (A1 : Option Addr) (c1 : Nat) (ms : List Mtc) (A2 : Option Addr) (c2 : Nat) (ns : List ByteArray) (A3 : Option Addr) (c3 : Nat) (ks : List XE) (w : World) (hs : smallP (pesX ks))
    (h : okX (d + 1) (.mk kk nn (.slice A1 ms.length c1) ms (.slice A2 ns.length c2) ns (.slice A3 ks.length c3) ks) w) :
    Calls Tryd.prog 29 #[.agg #[.int .i64 kk, .int .i64 nn, .slice A1 ms.length c1, .slice A2 ns.length c2, .slice A3 ks.length c3]] w fun e w' => e = .returned (.int .i64 (twoT kk ns (tysP (pesX ks)))) ∧ Below w.heap.size w w' := by
  by_cases hno : ns.length = 0 ∧ ks.length = 2
  · obtain ⟨h1, h2⟩ := hno
    obtain rfl : ns = [] := List.eq_nil_of_length_eq_zero h1
    match ks, h2 with
    | [a, b], _ =>
      obtain ⟨_, _, h3, _⟩ := id h
      obtain ⟨A', c', e, hsee, _⟩ := h3
      obtain ⟨ad, rfl, _⟩ := hsee.at_ (by simp [XE.kids])
      injection e with e1 e2 e3
      subst e1
      simp only [pesX, smallP] at hs
      exact typeTwo_x d IH kk nn A1 c1 ms A2 c2 ad c3 a b w hs.1 hs.2.1 h
  · have h0 := typeTwo_no kk nn A1 A2 A3 ms.length c1 ns.length c2 ks.length c3 w hno
    have e : twoT kk ns (tysP (pesX ks)) = 0 := by
      unfold twoT
      split
      · rename_i a b he
        exfalso; apply hno
        refine ⟨rfl, ?_⟩
        have := tysP_length ks
        rw [he] at this; simpa using this.symm
      · rfl
    rw [e]; exact h0
set_option maxHeartbeats 4000000 in
theorem type_step (d : Nat) (IH : TypeSaid d) : TypeSaid (d + 1) := by
  intro x w hsm h
  obtain ⟨A1, c1, A2, c2, A3, c3, e1, e2, e3⟩ := okX_forms h
  obtain ⟨kk, nn, mv, ms, nv, ns, kv, ks⟩ := x
  simp only [XE.mv, XE.nv, XE.kv, XE.ms, XE.ns, XE.kids] at e1 e2 e3
  subst e1; subst e2; subst e3
  have HT : Hid ((XE.mk kk nn (.slice A1 ms.length c1) ms (.slice A2 ns.length c2) ns (.slice A3 ks.length c3) ks).pe.ty = if kk = 1 then (if ms.length + ns.length + ks.length = 0 then 1 else 0)
    else if kk = 2 then (if ns.length + ks.length = 0 ∧ rightM ms = true ∧ 1 ≤ nn ∧ nn ≤ 1048576 then 2 else 0)
    else if ¬ (ms.length = 0 ∧ nn = 0) then 0
    else if wordX kk ≠ ⟨#[]⟩ then oneT ns (tysP (pesX ks))
    else if signX kk ≠ ⟨#[]⟩ then twoT kk ns (tysP (pesX ks)) else 0) := Lib.hid (by
      show (PE.mk kk nn ms ns (pesX ks)).ty = _
      unfold PE.ty
      rw [show (pesX ks).length = ks.length by have := tysP_length ks; rw [← this]; exact (by
        have : ∀ l : List PE, (tysP l).length = l.length := fun l => by
          induction l with
          | nil => rfl
          | cons a l ih => simp [tysP, ih]
        exact (this _).symm)])
  obtain ⟨hs1, hs2, hs3, hsk⟩ := (show ms.length ≤ 1000002 ∧ ns.length ≤ 1000002 ∧ (pesX ks).length ≤ 1000002 ∧ smallP (pesX ks) from hsm)
  have hs3' : ks.length ≤ 1000002 := by
    have : ∀ l : List XE, (pesX l).length = l.length := fun l => by
      induction l with
      | nil => rfl
      | cons a l ih => simp [pesX, ih]
    rw [this] at hs3; exact hs3
  obtain ⟨q, hq⟩ : ∃ q, (XE.mk kk nn (.slice A1 ms.length c1) ms (.slice A2 ns.length c2) ns (.slice A3 ks.length c3) ks).pe.ty = q := ⟨_, rfl⟩
  rw [hq] at HT ⊢
  have hb : Below w.heap.size w (w.alloc (.cells #[.int .i64 kk, .int .i64 nn, .slice A1 ms.length c1, .slice A2 ns.length c2, .slice A3 ks.length c3] 26)) := (Below.refl _ _).alloc (Nat.le_refl _) _
  have HB := Lib.hid hb
  have HX := Lib.hid (Blk.mk (heap_alloc_new w (.cells #[.int .i64 kk, .int .i64 nn, .slice A1 ms.length c1, .slice A2 ns.length c2, .slice A3 ks.length c3] 26)) : Blk _ w.heap.size 26 [.int .i64 kk, .int .i64 nn, .slice A1 ms.length c1, .slice A2 ns.length c2, .slice A3 ks.length c3])
  have H0 := Lib.hid (okX_below hb (d + 1) _ h)
  have H1 := Lib.hid (typeOne_x d IH kk nn A1 c1 ms A2 c2 ns A3 c3 ks (w.alloc (.cells #[.int .i64 kk, .int .i64 nn, .slice A1 ms.length c1, .slice A2 ns.length c2, .slice A3 ks.length c3] 26)) hsk H0.out)
  have H2 := Lib.hid (typeTwo_all d IH kk nn A1 c1 ms A2 c2 ns A3 c3 ks (w.alloc (.cells #[.int .i64 kk, .int .i64 nn, .slice A1 ms.length c1, .slice A2 ns.length c2, .slice A3 ks.length c3] 26)) hsk H0.out)
  obtain ⟨m1, m2, m3⟩ := Slc.slice H0.out.1
  have HR := Lib.hid (rightM_any A1 ms.length c1 (w.alloc (.cells #[.int .i64 kk, .int .i64 nn, .slice A1 ms.length c1, .slice A2 ns.length c2, .slice A3 ks.length c3] 26)).heap.size ms (w.alloc (.cells #[.int .i64 kk, .int .i64 nn, .slice A1 ms.length c1, .slice A2 ns.length c2, .slice A3 ks.length c3] 26)) m1 (Nat.le_refl _) (Nat.le_trans m2 m3))
  have HW := Lib.hid (word_x kk (w.alloc (.cells #[.int .i64 kk, .int .i64 nn, .slice A1 ms.length c1, .slice A2 ns.length c2, .slice A3 ks.length c3] 26)))
  have HS := Lib.hid (sign_x kk (w.alloc (.cells #[.int .i64 kk, .int .i64 nn, .slice A1 ms.length c1, .slice A2 ns.length c2, .slice A3 ks.length c3] 26)))
  clear m1 m2 m3 H0 hb hq h hsm hs3 hsk IH
  show Calls Tryd.prog 10 #[.agg #[.int .i64 kk, .int .i64 nn, .slice A1 ms.length c1, .slice A2 ns.length c2, .slice A3 ks.length c3]] w _
  generalize ms.length = lm at *
  generalize ns.length = ln at *
  generalize ks.length = lk at *
  go_enter Tryd.func10, Tryd.ntmps10
  go_upto_region 1 with fail
  generalize w.alloc (.cells #[.int .i64 kk, .int .i64 nn, .slice A1 lm c1, .slice A2 ln c2, .slice A3 lk c3] 26) = W1 at *
  obtain ⟨x0, x1, x2, x3, x4⟩ := blk_cells5 HX.out
  by_cases k1 : kk = 1
  · have t1 : (kk == 1) = true := by rw [k1]; rfl
    by_cases z : lm + ln + lk = 0
    · have t2 : decide ((0 : Int) < (lm : Int) + ln + lk) = false := decide_eq_false (by omega)
      have HE := Lib.hid (show q = 1 by rw [HT.out, if_pos k1, if_pos z])
      have hz1 : lm = 0 := by omega
      have hz2 : ln = 0 := by omega
      have hz3 : lk = 0 := by omega
      subst hz1; subst hz2; subst hz3
      clear k1 t2 z
      go_wp2_with fail
      go_ret
      exact ⟨by rw [HE.out]; rfl, HB.out⟩
    · have t2 : decide ((0 : Int) < (lm : Int) + ln + lk) = true := decide_eq_true (by omega)
      have t3 : 0 < lm + ln + lk := by omega
      have HE := Lib.hid (show q = 0 by rw [HT.out, if_pos k1, if_neg z])
      clear k1 z
      go_wp2_with fail
      go_ret
      exact ⟨by rw [HE.out]; rfl, HB.out⟩
  · have t1 : (kk == 1) = false := by rw [beq_eq_false_iff_ne]; exact k1
    by_cases k2 : kk = 2
    · have t2 : (kk == 2) = true := by rw [k2]; rfl
      by_cases z : ln + lk = 0
      · have hz2 : ln = 0 := by omega
        have hz3 : lk = 0 := by omega
        subst hz2; subst hz3
        cases hr : rightM ms with
        | false =>
          have HE := Lib.hid (show q = 0 by rw [HT.out, if_neg k1, if_pos k2, if_neg (by rw [hr]; simp)])
          rw [hr] at HR
          clear k1 k2 z hr
          go_wp2_with fail
          (with_reducible refine HR.out.mono ?_); rintro e w2 ⟨rfl, hb2⟩
          have HB2 := Lib.hid (HB.out.trans (hb2.mono HB.out.size))
          have HX2 := Lib.hid (HX.out.below hb2 HX.out.lt)
          clear hb2 x0 x1 x2 x3 x4
          obtain ⟨x0, x1, x2, x3, x4⟩ := blk_cells5 HX2.out
          go_wp2_with fail
          go_ret
          exact ⟨by rw [HE.out]; rfl, HB2.out⟩
        | true =>
          rw [hr] at HR
          by_cases n1 : 1 ≤ nn
          · have n1' : ¬ nn < 1 := by omega
            have n1b : decide (nn < 1) = false := decide_eq_false n1'
            by_cases n2 : nn ≤ 1048576
            · have n2' : ¬ 1048576 < nn := by omega
              have n2b : decide (1048576 < nn) = false := decide_eq_false n2'
              have HE := Lib.hid (show q = 2 by rw [HT.out, if_neg k1, if_pos k2, if_pos ⟨z, hr, n1, n2⟩])
              clear k1 k2 z hr
              go_wp2_with fail
              (with_reducible refine HR.out.mono ?_); rintro e w2 ⟨rfl, hb2⟩
              have HB2 := Lib.hid (HB.out.trans (hb2.mono HB.out.size))
              have HX2 := Lib.hid (HX.out.below hb2 HX.out.lt)
              clear hb2 x0 x1 x2 x3 x4
              obtain ⟨x0, x1, x2, x3, x4⟩ := blk_cells5 HX2.out
              go_wp2_with fail
              go_ret
              exact ⟨by rw [HE.out]; rfl, HB2.out⟩
            · have n2' : 1048576 < nn := by omega
              have n2b : decide (1048576 < nn) = true := decide_eq_true n2'
              have HE := Lib.hid (show q = 0 by rw [HT.out, if_neg k1, if_pos k2, if_neg (fun h => n2 h.2.2.2)])
              clear k1 k2 z hr
              go_wp2_with fail
              (with_reducible refine HR.out.mono ?_); rintro e w2 ⟨rfl, hb2⟩
              have HB2 := Lib.hid (HB.out.trans (hb2.mono HB.out.size))
              have HX2 := Lib.hid (HX.out.below hb2 HX.out.lt)
              clear hb2 x0 x1 x2 x3 x4
              obtain ⟨x0, x1, x2, x3, x4⟩ := blk_cells5 HX2.out
              go_wp2_with fail
              go_ret
              exact ⟨by rw [HE.out]; rfl, HB2.out⟩
          · have n1' : nn < 1 := by omega
            have n1b : decide (nn < 1) = true := decide_eq_true n1'
            have HE := Lib.hid (show q = 0 by rw [HT.out, if_neg k1, if_pos k2, if_neg (fun h => n1 h.2.2.1)])
            clear k1 k2 z hr
            go_wp2_with fail
            (with_reducible refine HR.out.mono ?_); rintro e w2 ⟨rfl, hb2⟩
            have HB2 := Lib.hid (HB.out.trans (hb2.mono HB.out.size))
            have HX2 := Lib.hid (HX.out.below hb2 HX.out.lt)
            clear hb2 x0 x1 x2 x3 x4
            obtain ⟨x0, x1, x2, x3, x4⟩ := blk_cells5 HX2.out
            go_wp2_with fail
            go_ret
            exact ⟨by rw [HE.out]; rfl, HB2.out⟩
      · have t3 : 0 < ln + lk := by omega
        have t3b : decide ((0 : Int) < (ln : Int) + lk) = true := decide_eq_true (by omega)
        have HE := Lib.hid (show q = 0 by rw [HT.out, if_neg k1, if_pos k2, if_neg (fun h => z h.1)])
        clear k1 k2 z
        go_wp2_with fail
        go_ret
        exact ⟨by rw [HE.out]; rfl, HB.out⟩
    · have t2 : (kk == 2) = false := by rw [beq_eq_false_iff_ne]; exact k2
      have HT2 := Lib.hid (show q = if ¬ (lm = 0 ∧ nn = 0) then 0
        else if wordX kk ≠ ⟨#[]⟩ then oneT ns (tysP (pesX ks))
        else if signX kk ≠ ⟨#[]⟩ then twoT kk ns (tysP (pesX ks)) else 0 by rw [HT.out, if_neg k1, if_neg k2])
      clear HT k1 k2 HR
      by_cases z : lm = 0
      · subst z
        by_cases zn : nn = 0
        · subst zn
          have HT3 := Lib.hid (show q = if wordX kk ≠ ⟨#[]⟩ then oneT ns (tysP (pesX ks))
            else if signX kk ≠ ⟨#[]⟩ then twoT kk ns (tysP (pesX ks)) else 0 by rw [HT2.out, if_neg (by simp)])
          clear HT2
          generalize wordX kk = wd at *
          generalize signX kk = sg at *
          generalize oneT ns (tysP (pesX ks)) = q1 at *
          generalize twoT kk ns (tysP (pesX ks)) = q2 at *
          by_cases hwd : wd = ⟨#[]⟩
          · have HT4 := Lib.hid (show q = if sg ≠ ⟨#[]⟩ then q2 else 0 by rw [HT3.out, if_neg (by simpa using hwd)])
            clear HT3 H1
            subst hwd
            go_wp2_with fail
            (with_reducible refine HW.out.mono ?_); rintro e w' ⟨rfl, rfl⟩
            go_wp2_with fail
            (with_reducible refine HS.out.mono ?_); rintro e w' ⟨rfl, rfl⟩
            by_cases hsg : sg = ⟨#[]⟩
            · have HE := Lib.hid (show q = 0 by rw [HT4.out, if_neg (by simpa using hsg)])
              clear HT4
              subst hsg
              go_wp2_with fail
              go_ret
              exact ⟨by rw [HE.out]; rfl, HB.out⟩
            · have v1 : sg.toList.isEmpty = false := ba_full hsg
              have HE := Lib.hid (show q = q2 by rw [HT4.out, if_pos hsg])
              clear HT4
              go_wp2_with fail
              (with_reducible refine H2.out.mono ?_); rintro e w2 ⟨rfl, hb2⟩
              have HB2 := Lib.hid (HB.out.trans (hb2.mono HB.out.size))
              clear hb2
              go_wp2_with fail
              go_ret
              exact ⟨by rw [HE.out]; rfl, HB2.out⟩
          · have u1 : wd.toList.isEmpty = false := ba_full hwd
            have HE := Lib.hid (show q = q1 by rw [HT3.out, if_pos hwd])
            clear HT3 H2 HS
            go_wp2_with fail
            (with_reducible refine HW.out.mono ?_); rintro e w' ⟨rfl, rfl⟩
            go_wp2_with fail
            (with_reducible refine H1.out.mono ?_); rintro e w2 ⟨rfl, hb2⟩
            have HB2 := Lib.hid (HB.out.trans (hb2.mono HB.out.size))
            clear hb2
            go_wp2_with fail
            go_ret
            exact ⟨by rw [HE.out]; rfl, HB2.out⟩
        · have n1 : (nn != 0) = true := by rw [bne_iff_ne]; exact zn
          have n2 : (nn == 0) = false := by rw [beq_eq_false_iff_ne]; exact zn
          have HE := Lib.hid (show q = 0 by rw [HT2.out, if_pos (fun h => zn h.2)])
          clear HT2 zn
          go_wp2_with fail
          go_ret
          exact ⟨by rw [HE.out]; rfl, HB.out⟩
      · have t3 : decide (0 < lm) = true := decide_eq_true (by omega)
        have HE := Lib.hid (show q = 0 by rw [HT2.out, if_pos (fun h => z h.1)])
        clear HT2 z
        go_wp2_with fail
        go_ret
        exact ⟨by rw [HE.out]; rfl, HB.out⟩
theorem type_any : ∀ d, TypeSaid d
  | 0 => fun x w _ h => h.elim
  | d + 1 => type_step d (type_any d)
end Go.Proofs.YtnkbpcenkbihpaaDoor
