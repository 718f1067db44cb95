/- Texts, merged in one. -/
import Derived.Test.YtcaapbbbekggiaaGreatDoorBase
import Derived.Deep.CutBlock
import Derived.Deep.DeepCutAuto
import Derived.Deep.RegionLaw
import Derived.Deep.RegionHeld3
import Derived.Deep.QuietTactic
import Derived.BigQuiet
import Derived.StillTail
import Derived.StillTailTactics
import Derived.Test.YtcaapbbbekggiaaGreatDoorBase2
import Derived.Lib.ItoaLen
namespace Go.Proofs.YtcaapbbbekggiaaGreatDoor
open Go.ChangeShapes Go.WideShapes Go.ChangeAt Go.RowKit
set_option linter.unusedVariables false
set_option linter.unusedSimpArgs false
set_option maxRecDepth 100000
/-- What next answers: two numbers; the place is one further. -/
def NextAns (b i : Nat) (w : World) (e : Ending) (w' : World) : Prop := ∃ kd n : Int, I64 kd ∧ I64 n ∧ e = .returned (.tuple #[.int .i64 kd, .int .i64 n]) ∧ Blk w' b 3 [.int .i64 ((i + 1 : Nat) : Int)] ∧ w.grownBy w' (some b)
theorem pickF_I64 {l : List Int} (h : ∀ z ∈ l, I64 z) (i : Nat) : I64 (pickF l i) := by
  rw [pickF]
  split
  · exact h _ (List.getElem_mem _)
  · unfold I64; omega
set_option maxHeartbeats 2000000 in
theorem next_any (k : KSet) (b B i : Nat) (w : World) (hk : k.ok B w) (hB : B ≤ b) (hb : Blk w b 3 [.int .i64 i]) (hi : i ≤ 1000) :
    Calls Tryz.prog 34 #[k.val, .pointer (some ⟨b, 0, none⟩)] w (NextAns b i w) := by
  have hn := hk.n_
  have hn2 := hk.n2_
  have hlt := hb.lt
  have HPI := Lib.hid (pickF_I64 hk.valsI i)
  have e0 := hb.cell 0
  have f0 := hb.frozen 0
  simp only [List.getElem?_cons_zero] at e0
  have HB1 := Lib.hid (show Blk ((w.setCell ⟨b, 0, none⟩ (.int .i64 ((i : Int) + 1))).alloc (.cells #[.slice k.A k.n k.c, .slice k.A2 k.n2 k.c2] 29)) b 3 [.int .i64 ((i + 1 : Nat) : Int)] from ((hb.set 0 (.int .i64 ((i : Int) + 1))).alloc _))
  have HG1 := Lib.hid (show w.grownBy ((w.setCell ⟨b, 0, none⟩ (.int .i64 ((i : Int) + 1))).alloc (.cells #[.slice k.A k.n k.c, .slice k.A2 k.n2 k.c2] 29)) (some b) from only_alloc (only_setCell (World.grownBy.refl w _) (p := ⟨b, 0, none⟩) (.inl rfl) _) _)
  have HC := Lib.hid (show Blk ((w.setCell ⟨b, 0, none⟩ (.int .i64 ((i : Int) + 1))).alloc (.cells #[.slice k.A k.n k.c, .slice k.A2 k.n2 k.c2] 29)) w.heap.size 29 [.slice k.A k.n k.c, .slice k.A2 k.n2 k.c2] from by
    have h := heap_alloc_new (w.setCell ⟨b, 0, none⟩ (.int .i64 ((i : Int) + 1))) (.cells #[.slice k.A k.n k.c, .slice k.A2 k.n2 k.c2] 29)
    rw [show (w.setCell ⟨b, 0, none⟩ (.int .i64 ((i : Int) + 1))).heap.size = w.heap.size by simp [World.setCell]] at h
    exact Blk.mk h)
  have HK := Lib.hid (show k.ok B ((w.setCell ⟨b, 0, none⟩ (.int .i64 ((i : Int) + 1))).alloc (.cells #[.slice k.A k.n k.c, .slice k.A2 k.n2 k.c2] 29)) from by
    have hg := HG1.out
    have hs : B ≤ w.heap.size := by omega
    have hr : ∀ g, some b = some g → B ≤ g := fun g e => by injection e with e; omega
    exact ⟨hk.has_.grown hg hs hr, hk.hasI, hk.n_, hk.vals_.grown hg hs hr, hk.valsI, hk.n2_⟩)
  clear hk hb
  show Calls _ _ #[.agg #[.slice k.A k.n k.c, .slice k.A2 k.n2 k.c2], _] _ _
  go_enter Tryz.func34, Tryz.ntmps34
  go_upto_region 3 with fail
  generalize (w.setCell ⟨b, 0, none⟩ (.int .i64 ((i : Int) + 1))).alloc (.cells #[.slice k.A k.n k.c, .slice k.A2 k.n2 k.c2] 29) = W1 at *
  have c0 := HC.out.cell 0
  have c1 := HC.out.cell 1
  simp only [List.getElem?_cons_zero, List.getElem?_cons_succ] at c0 c1
  clear e0 f0 hlt
  have HPK := Lib.hid (pick_any k.A2 k.n2 k.c2 B k.vals i W1 HK.out.vals_ (by omega) (by omega))
  by_cases h1 : i < k.n
  · by_cases h2 : i < 30
    · obtain ⟨ad, hkl, hA, hc⟩ := HK.out.has_.int h1
      have hI := HK.out.hasI _ (List.getElem_mem hkl)
      generalize k.has[i] = kd at *
      rw [hA] at c0
      have HAX := Lib.hid hA
      clear hA
      have i1 : ¬ (k.n : Int) ≤ i := by omega
      have i2 : ¬ (30 : Int) ≤ i := by omega
      go_upto_region 5 with fail
      have HVS := Lib.hid (show Sees W1.drew B 1 k.A2 k.n2 (ints k.vals) from HK.out.vals_.drewN 1)
      have HSX := Lib.hid (⟨c0, c1, hc⟩ : W1.cell? ⟨w.heap.size, 0, none⟩ = some (.slice (some ad) k.n k.c) ∧ W1.cell? ⟨w.heap.size, 1, none⟩ = some (.slice k.A2 k.n2 k.c2) ∧ W1.cell? (ad.add i) = some (.int .i64 kd))
      go_region_held3 (fun V => V.cell? ⟨w.heap.size, 0, none⟩ = some (.slice (some ad) k.n k.c) ∧ V.cell? ⟨w.heap.size, 1, none⟩ = some (.slice k.A2 k.n2 k.c2) ∧ V.cell? (ad.add i) = some (.int .i64 kd)) (exact HSX.out) (first | (go_at_call 53; (with_reducible refine (pick_any k.A2 k.n2 k.c2 B k.vals i _ HVS.out (by omega) (by omega)).mono ?_); rintro e wz ⟨rfl, rfl⟩) | fail)
      all_goals
        go_wp2_with fail
        go_ret2
        exact ⟨kd, pickF k.vals i, hI, HPI.out, rfl, HB1.out, only_drew HG1.out⟩
    · have i1 : ¬ (k.n : Int) ≤ i := by omega
      have i2 : (30 : Int) ≤ i := by omega
      go_wp2_with fail
      (with_reducible refine HPK.out.mono ?_); rintro e wz ⟨rfl, rfl⟩
      go_wp2_with fail
      go_ret2
      exact ⟨0, pickF k.vals i, by unfold I64; omega, HPI.out, rfl, HB1.out, HG1.out⟩
  · have i1 : (k.n : Int) ≤ i := by omega
    go_wp2_with fail
    (with_reducible refine HPK.out.mono ?_); rintro e wz ⟨rfl, rfl⟩
    go_wp2_with fail
    go_ret2
    exact ⟨0, pickF k.vals i, by unfold I64; omega, HPI.out, rfl, HB1.out, HG1.out⟩
theorem next_v (k : KSet) (b B i : Nat) (w : World) (hk : k.ok B w) (hB : B ≤ b) (hb : Blk w b 3 [.int .i64 i]) (hi : i ≤ 1000) :
    Calls Tryz.prog 34 #[.agg #[.slice k.A k.n k.c, .slice k.A2 k.n2 k.c2], .pointer (some ⟨b, 0, none⟩)] w (NextAns b i w) := next_any k b B i w hk hB hb hi
/-- Five cells of a box written anew. -/
def set5W (w : World) (b : Nat) (v0 v1 v2 v3 v4 : Value) : World := ((((w.setCell ⟨b, 0, none⟩ v0).setCell ⟨b, 1, none⟩ v1).setCell ⟨b, 2, none⟩ v2).setCell ⟨b, 3, none⟩ v3).setCell ⟨b, 4, none⟩ v4
theorem set5W_blk {w : World} {b : Nat} {t : TypeId} {x0 x1 x2 x3 x4 : Value} (h : Blk w b t [x0, x1, x2, x3, x4]) (v0 v1 v2 v3 v4 : Value) : Blk (set5W w b v0 v1 v2 v3 v4) b t [v0, v1, v2, v3, v4] := ((((h.set 0 v0).set 1 v1).set 2 v2).set 3 v3).set 4 v4
theorem set5W_grown (w : World) (b : Nat) (v0 v1 v2 v3 v4 : Value) : w.grownBy (set5W w b v0 v1 v2 v3 v4) (some b) :=
  only_setCell (p := ⟨b, 4, none⟩) (only_setCell (p := ⟨b, 3, none⟩) (only_setCell (p := ⟨b, 2, none⟩) (only_setCell (p := ⟨b, 1, none⟩) (only_setCell (p := ⟨b, 0, none⟩) (World.grownBy.refl w _) (.inl rfl) _) (.inl rfl) _) (.inl rfl) _) (.inl rfl) _) (.inl rfl) _
theorem blk_cells5 {w : World} {b : Nat} {t : TypeId} {x0 x1 x2 x3 x4 : Value} (h : Blk w b t [x0, x1, x2, x3, x4]) : w.cell? ⟨b, 0, none⟩ = some x0 ∧ w.cell? ⟨b, 1, none⟩ = some x1 ∧ w.cell? ⟨b, 2, none⟩ = some x2 ∧ w.cell? ⟨b, 3, none⟩ = some x3 ∧ w.cell? ⟨b, 4, none⟩ = some x4 :=
  ⟨h.cell 0, h.cell 1, h.cell 2, h.cell 3, h.cell 4⟩
theorem blk_fr5 {w : World} {b : Nat} {t : TypeId} {x0 x1 x2 x3 x4 : Value} (h : Blk w b t [x0, x1, x2, x3, x4]) : w.frozen? ⟨b, 0, none⟩ = false ∧ w.frozen? ⟨b, 1, none⟩ = false ∧ w.frozen? ⟨b, 2, none⟩ = false ∧ w.frozen? ⟨b, 3, none⟩ = false ∧ w.frozen? ⟨b, 4, none⟩ = false :=
  ⟨h.frozen 0, h.frozen 1, h.frozen 2, h.frozen 3, h.frozen 4⟩
/-- Within vector and number: the numbers in a box, the answer's box, the place. -/
structure VAt (k : KSet) (B b : Nat) (w0 : World) (b3 b6 j : Nat) (w : World) : Prop where
  box : Blk w b3 29 [.slice k.A k.n k.c, .slice k.A2 k.n2 k.c2]
  res : Blk w b6 26 [.int .i64 0, .int .i64 0, .slice none 0 0, .slice none 0 0, .slice none 0 0]
  at_ : Blk w b 3 [.int .i64 (j : Nat)]
  ok : k.ok B w
  gr : w0.grownBy w (some b)
  lt : B ≤ b ∧ b < w0.heap.size ∧ w0.heap.size ≤ b3 ∧ b3 < b6
theorem KSet.ok.grown {k : KSet} {B : Nat} {w w' : World} {row : Option Nat} (h : k.ok B w) (hg : w.grownBy w' row) (hs : B ≤ w.heap.size) (hr : ∀ g, row = some g → B ≤ g) : k.ok B w' := ⟨h.has_.grown hg hs hr, h.hasI, h.n_, h.vals_.grown hg hs hr, h.valsI, h.n2_⟩
section
variable {k : KSet} {B b : Nat} {w0 w w' : World} {b3 b6 j : Nat}
theorem VAt.grown (h : VAt k B b w0 b3 b6 j w) (hg : w.grownBy w' (some b)) {j' : Nat} (ha : Blk w' b 3 [.int .i64 (j' : Nat)]) : VAt k B b w0 b3 b6 j' w' := by
  have hl := h.lt
  have h1 := h.gr.size
  exact ⟨h.box.grown hg (fun e => by injection e with e; omega), h.res.grown hg (fun e => by injection e with e; omega), ha, h.ok.grown hg (by omega) (fun g e => by injection e with e; omega), h.gr.trans hg, hl⟩
theorem VAt.below (h : VAt k B b w0 b3 b6 j w) (hb : Below w.heap.size w w') : VAt k B b w0 b3 b6 j w' := h.grown (only_of_below hb _) (h.at_.below hb h.at_.lt)
theorem VAt.alloc (h : VAt k B b w0 b3 b6 j w) (o : Obj) : VAt k B b w0 b3 b6 j (w.alloc o) := h.below ((Below.refl _ _).alloc (Nat.le_refl _) o)
theorem VAt.drew (h : VAt k B b w0 b3 b6 j w) : VAt k B b w0 b3 b6 j w.drew := h.below (Below.refl _ _).drew
theorem VAt.start (h : k.ok B w) (hB : B ≤ b) (ha : Blk w b 3 [.int .i64 (j : Nat)]) : VAt k B b w w.heap.size (w.heap.size + 1) j ((w.alloc (.cells #[.slice k.A k.n k.c, .slice k.A2 k.n2 k.c2] 29)).alloc (.cells #[.int .i64 0, .int .i64 0, .slice none 0 0, .slice none 0 0, .slice none 0 0] 26)) := by
  have hl := ha.lt
  have hb : Below w.heap.size w ((w.alloc (.cells #[.slice k.A k.n k.c, .slice k.A2 k.n2 k.c2] 29)).alloc (.cells #[.int .i64 0, .int .i64 0, .slice none 0 0, .slice none 0 0, .slice none 0 0] 26)) := ((Below.refl _ w).alloc (Nat.le_refl _) _).alloc (by simp) _
  refine ⟨(Blk.mk (heap_alloc_new w (.cells #[.slice k.A k.n k.c, .slice k.A2 k.n2 k.c2] 29))).alloc _, ?_, ha.below hb hl, h.grown (only_of_below hb none) (by omega) (fun g e => by cases e), only_of_below hb _, hB, hl, Nat.le_refl _, Nat.lt_succ_self _⟩
  have h := heap_alloc_new (w.alloc (.cells #[.slice k.A k.n k.c, .slice k.A2 k.n2 k.c2] 29)) (.cells #[.int .i64 0, .int .i64 0, .slice none 0 0, .slice none 0 0, .slice none 0 0] 26)
  rw [show (w.alloc (.cells #[.slice k.A k.n k.c, .slice k.A2 k.n2 k.c2] 29)).heap.size = w.heap.size + 1 by simp] at h
  exact Blk.mk h
end
/-- What vector and number answer. -/
def VecAns (d b i : Nat) (K : XE → Prop) (w : World) (e : Ending) (w' : World) : Prop := ∃ (x : XE) (j : Nat), e = .returned x.val ∧ K x ∧ FarS (fun c => c < w.heap.size) (okX d x) w' ∧ Blk w' b 3 [.int .i64 (j : Nat)] ∧ j + 1 ≤ i + 2 ^ d ∧ w.grownBy w' (some b)
theorem VAt.fin {k : KSet} {B b : Nat} {w0 w : World} {b3 b6 j i d : Nat} (h : VAt k B b w0 b3 b6 j w) {K : XE → Prop} (x : XE) (hK : K x) (hx : FarS (fun c => c < w0.heap.size ∨ c = b6) (okX d x) w) (hj : j + 1 ≤ i + 2 ^ d) :
    VecAns d b i K w0 (.returned x.val) (set5W w b6 (.int .i64 x.kd) (.int .i64 x.n) x.mv x.nv x.kv) := by
  have hl := h.lt
  have hg := set5W_grown w b6 (.int .i64 x.kd) (.int .i64 x.n) x.mv x.nv x.kv
  exact ⟨x, j, rfl, hK, (hx.grown hg (fun c e => .inr (by injection e with e; exact e.symm))).mono (fun c _ hc => .inl hc), h.at_.grown hg (fun e => by injection e with e; omega), hj, h.gr.andThen hg (fun c e => .inl (by injection e with e; omega))⟩
theorem two_pow (d : Nat) : 2 ^ (d + 1) = 2 ^ d + 2 ^ d ∧ 1 ≤ 2 ^ d := ⟨by rw [Nat.pow_succ]; omega, Nat.one_le_two_pow⟩
theorem tmod5 (z : Int) (h : I64 z) : ∃ q, z.tmod 5 = q ∧ IntKind.i64.wrap q = q := by
  unfold I64 at h
  have h1 : -9223372036854775808 ≤ z.tmod 5 ∧ z.tmod 5 ≤ 9223372036854775807 := by
    rcases Int.le_total 0 z with h2 | h2
    · have := Int.tmod_lt_of_pos z (b := 5) (by omega)
      have := Int.tmod_nonneg 5 h2
      omega
    · have h3 := Int.neg_tmod z 5
      have := Int.tmod_lt_of_pos (-z) (b := 5) (by omega)
      have := Int.tmod_nonneg (a := -z) 5 (by omega)
      omega
  exact ⟨_, rfl, by rw [IntKind.wrap_i64]; omega⟩
/-- A number alone. -/
def numX (v : Int) : XE := .mk 1 v (.slice none 0 0) [] (.slice none 0 0) [] (.slice none 0 0) []
theorem numX_far {S : Nat → Prop} {w : World} (d : Nat) (v : Int) : FarS S (okX (d + 1) (numX v)) w := okX_far (FarS.nil 3) (FarS.nil 1) (FarS.nil 5) (fun k hk => absurd hk List.not_mem_nil)
theorem ok_box2 {k : KSet} {B b : Nat} {w0 w : World} {b3 b6 j : Nat} (h : VAt k B b w0 b3 b6 j w) : w.cell? ⟨b3, 0, none⟩ = some (.slice k.A k.n k.c) ∧ w.cell? ⟨b3, 1, none⟩ = some (.slice k.A2 k.n2 k.c2) := ⟨h.box.cell 0, h.box.cell 1⟩
/-- An expression of two, its kids behind one another in a block. -/
def pairX (kk : Int) (g : Nat) (x y : XE) : XE := .mk kk 0 (.slice none 0 0) [] (.slice none 0 0) [] (.slice (some ⟨g, 0, none⟩) 2 2) [x, y]
theorem VAt.pair {k : KSet} {B b : Nat} {w0 w : World} {b3 b6 j i d : Nat} (h : VAt k B b w0 b3 b6 j w) {K : XE → Prop} (kk : Int) (x y : XE) (hK : ∀ g, K (pairX kk g x y)) (hx : FarS (fun c => c < w0.heap.size ∨ c = b6) (okX d x) w) (hy : FarS (fun c => c < w0.heap.size ∨ c = b6) (okX d y) w) (hj : j + 1 ≤ i + 2 ^ (d + 1)) :
    VecAns (d + 1) b i K w0 (.returned (pairX kk w.heap.size x y).val) (set5W (w.alloc (.cells #[.int .i64 x.kd, .int .i64 x.n, x.mv, x.nv, x.kv, .int .i64 y.kd, .int .i64 y.n, y.mv, y.nv, y.kv] 26)) b6 (.int .i64 kk) (.int .i64 0) (.slice none 0 0) (.slice none 0 0) (.slice (some ⟨w.heap.size, 0, none⟩) 2 2)) := by
  have hl := h.lt
  have h6 := h.res.lt
  have hs := h.gr.size
  have hg : w.grownBy (w.alloc (.cells #[.int .i64 x.kd, .int .i64 x.n, x.mv, x.nv, x.kv, .int .i64 y.kd, .int .i64 y.n, y.mv, y.nv, y.kv] 26)) none := only_alloc (World.grownBy.refl w _) _
  refine (h.alloc (.cells #[.int .i64 x.kd, .int .i64 x.n, x.mv, x.nv, x.kv, .int .i64 y.kd, .int .i64 y.n, y.mv, y.nv, y.kv] 26)).fin (K := K) (i := i) (pairX kk w.heap.size x y) (hK _) ?_ hj
  refine okX_far (FarS.nil 3) (FarS.nil 1) ?_ (fun q hq => ?_)
  · have hb : Blk (w.alloc (.cells #[.int .i64 x.kd, .int .i64 x.n, x.mv, x.nv, x.kv, .int .i64 y.kd, .int .i64 y.n, y.mv, y.nv, y.kv] 26)) w.heap.size 26 (kcells [x, y]) := Blk.mk (heap_alloc_new w _)
    exact FarS.slc (S := fun c => c < w0.heap.size ∨ c = b6) (n := 2) (size := 5) hb (fun e => by rcases e with e | e <;> omega) rfl (by omega)
  · rw [List.mem_cons, List.mem_singleton] at hq
    rcases hq with rfl | rfl
    · exact hx.grown hg (fun c e => by cases e)
    · exact hy.grown hg (fun c e => by cases e)
/-- A kid in a box of its own: it stays whatever becomes of the blocks below s. -/
structure Kid (d s g : Nat) (x : XE) (w : World) : Prop where
  blk : Blk w g 26 [.int .i64 x.kd, .int .i64 x.n, x.mv, x.nv, x.kv]
  far : FarS (fun c => c < s) (okX d x) w
  lt : s ≤ g
theorem Kid.made {d s : Nat} {x : XE} {w : World} (h : FarS (fun c => c < s) (okX d x) w) (hs : s ≤ w.heap.size) : Kid d s w.heap.size x (w.alloc (.cells #[.int .i64 x.kd, .int .i64 x.n, x.mv, x.nv, x.kv] 26)) :=
  ⟨Blk.mk (heap_alloc_new w _), h.grown (only_alloc (World.grownBy.refl w none) _) (fun c e => by cases e), hs⟩
theorem Kid.grown {d s g r : Nat} {x : XE} {w w' : World} (h : Kid d s g x w) (hg : w.grownBy w' (some r)) (hr : r < s) : Kid d s g x w' :=
  ⟨h.blk.grown hg (fun e => by injection e with e; have := h.lt; omega), h.far.grown hg (fun c e => by injection e with e; omega), h.lt⟩
theorem Kid.below {d s g : Nat} {x : XE} {w w' : World} (h : Kid d s g x w) (hb : Below w.heap.size w w') : Kid d s g x w' :=
  ⟨h.blk.below hb h.blk.lt, h.far.below hb, h.lt⟩
theorem Kid.s0 {d s g b6 : Nat} {x : XE} {w w0 : World} (h : Kid d s g x w) (h0 : w0.heap.size ≤ s) (h6 : b6 < s) : FarS (fun c => c < w0.heap.size ∨ c = b6) (okX d x) w :=
  h.far.mono (fun c _ hc => by rcases hc with hc | hc <;> omega)
set_option maxHeartbeats 4000000 in
theorem number_any (k : KSet) (b B : Nat) (hB : B ≤ b) :
    ∀ (d deep i : Nat) (w : World), deep + d = 5 → k.ok B w → Blk w b 3 [.int .i64 (i : Nat)] → i + 2 ^ d ≤ 1000 → 0 < d →
    Calls Tryz.prog 38 #[k.val, .pointer (some ⟨b, 0, none⟩), .int .i64 (deep : Nat)] w (VecAns d b i (keepN d) w)
  | 0, _, _, _, _, _, _, _, h => absurd h (by omega)
  | d + 1, deep, i, w, hd, hk, hb, hi, _ => by
    obtain ⟨hp1, hp2⟩ := two_pow d
    have hi1 : i + 1 ≤ 1000 := by omega
    have HI := Lib.hid hi
    have HP := Lib.hid hp1
    have HVS := Lib.hid (VAt.start hk hB hb)
    have HIH := Lib.hid (fun (j : Nat) (V : World) h1 h2 h3 h4 => show Calls Tryz.prog 38 #[.agg #[.slice k.A k.n k.c, .slice k.A2 k.n2 k.c2], .pointer (some ⟨b, 0, none⟩), .int .i64 ((deep : Int) + 1)] V (VecAns d b j (keepN d) V) from number_any k b B hB d (deep + 1) j V (by omega) h1 h2 h3 h4)
    clear hk hb hi
    obtain ⟨b3, hb3⟩ : ∃ c, w.heap.size = c := ⟨_, rfl⟩
    obtain ⟨b6, hb6⟩ : ∃ c, b3 + 1 = c := ⟨_, rfl⟩
    have HB3 := Lib.hid hb3
    have HB6 := Lib.hid hb6
    have HV0 := Lib.hid (show VAt k B b w b3 b6 i ((w.alloc (.cells #[.slice k.A k.n k.c, .slice k.A2 k.n2 k.c2] 29)).alloc (.cells #[.int .i64 0, .int .i64 0, .slice none 0 0, .slice none 0 0, .slice none 0 0] 26)) by subst hb3; subst hb6; exact HVS.out)
    clear hb3 hb6 HVS
    show Calls _ _ #[.agg #[.slice k.A k.n k.c, .slice k.A2 k.n2 k.c2], _, _] _ _
    go_enter Tryz.func38, Tryz.ntmps38
    go_upto_region 1 with fail
    rw [HB3.out, HB6.out]
    generalize (w.alloc (.cells #[.slice k.A k.n k.c, .slice k.A2 k.n2 k.c2] 29)).alloc (.cells #[.int .i64 0, .int .i64 0, .slice none 0 0, .slice none 0 0, .slice none 0 0] 26) = W1 at *
    obtain ⟨c0, c1⟩ := ok_box2 HV0.out
    go_wp2_with fail
    (with_reducible refine (next_v k b B i W1 HV0.out.ok hB HV0.out.at_ (by omega)).mono ?_); rintro e wn ⟨kd, n, hkd, hn, rfl, hat, hg⟩
    have HV1 := Lib.hid (HV0.out.grown hg hat)
    have HW := Lib.hid (fun V => within_any n (-3) 5 V hn (by omega) (by omega) (by omega))
    have HWK := Lib.hid (fun V => within_any n 3 5 V hn (by omega) (by omega) (by omega))
    obtain ⟨hv1, hv2⟩ := nWithin_in n (lo := -3) (hi := 5) (by omega)
    obtain ⟨hk1, hk2⟩ := nWithin_in n (lo := 3) (hi := 5) (by omega)
    generalize nWithin n (-3) 5 = v at *
    generalize nWithin n 3 5 = kk at *
    obtain ⟨q, hq, hqw⟩ := tmod5 kd hkd
    clear hat hg HV0 c0 c1
    go_wp2_with fail
    (with_reducible refine (HW.out _).mono ?_); rintro e wz ⟨rfl, rfl⟩
    go_upto_region 3 with fail
    have HB9 := Lib.hid (Blk.mk (heap_alloc_new wn (.cells #[.int .i64 1, .int .i64 v, .slice none 0 0, .slice none 0 0, .slice none 0 0] 26)) : Blk _ wn.heap.size 26 [.int .i64 1, .int .i64 v, .slice none 0 0, .slice none 0 0, .slice none 0 0])
    have HV2 := Lib.hid (HV1.out.alloc (.cells #[.int .i64 1, .int .i64 v, .slice none 0 0, .slice none 0 0, .slice none 0 0] 26))
    obtain ⟨b9, hb9⟩ : ∃ c, wn.heap.size = c := ⟨_, rfl⟩
    have HB9N := Lib.hid hb9
    have h96 : b6 < b9 := by have := HV1.out.res.lt; omega
    rw [hb9] at HB9
    clear hb9 HW HV1
    rw [HB9N.out]
    generalize wn.alloc (.cells #[.int .i64 1, .int .i64 v, .slice none 0 0, .slice none 0 0, .slice none 0 0] 26) = W2 at *
    have HFIN := Lib.hid (HV2.out.fin (K := keepN (d + 1)) (i := i) (numX v) (.inl ⟨rfl, hv1, hv2, rfl, rfl, rfl⟩) (numX_far d v) (by omega))
    by_cases h4 : q = 4
    · subst h4
      have t1 : ((4 : Int) != 4) = false := rfl
      by_cases h0 : 0 < d
      · have hd3 : (deep : Int) ≤ 3 := by omega
        have hde : IntKind.i64.wrap ((deep : Int) + 1) = ((deep + 1 : Nat) : Int) := by rw [IntKind.wrap_i64]; omega
        go_upto_region 5 with fail
        have Z := Lib.hid (show VAt k B b w b3 b6 (i + 1) W2.drew ∧ Blk W2.drew b9 26 [.int .i64 1, .int .i64 v, .slice none 0 0, .slice none 0 0, .slice none 0 0] from ⟨HV2.out.drew, HB9.out⟩)
        have HDS := Lib.hid (HIH.out (i + 1) W2.drew Z.out.1.ok Z.out.1.at_ (by have := HI.out; omega) h0)
        have HDL := Lib.hid (show w.heap.size ≤ W2.drew.heap.size ∧ b6 < W2.drew.heap.size from ⟨HV2.out.gr.size, HV2.out.res.lt⟩)
        have tok1 : True := trivial
        have tok2 : True := trivial
        clear HV2 HB9 HIH hq hqw HFIN
        have hnb : b9 ≠ b := by have := Z.out.1.lt; omega
        have HNB := Lib.hid hnb
        clear hnb
        obtain ⟨c0, c1⟩ := ok_box2 Z.out.1
        obtain ⟨x0, x1, x2, x3, x4⟩ := blk_cells5 Z.out.2
        simp only [World.cell?_drew] at c0 c1 x0 x1 x2 x3 x4
        go_region_law (first
          | (have tk := tok1; (try go_simp); go_at_call 35; (with_reducible refine (HWK.out _).mono ?_); rintro e wz ⟨rfl, rfl⟩; clear tok1 tk HWK)
          | (have tk := tok2; (try go_simp); go_at_call 38; (with_reducible refine HDS.out.mono ?_); rintro e wq ⟨⟨xk, xn, xmv, xms, xnv, xns, xkv, xks⟩, j, he, hkx, hfx, hatq, hjq, hgq⟩; obtain ⟨A1, c1, A2, c2, A3, c3, e1, e2, e3⟩ := okX_forms hfx.now; simp only [XE.mv, XE.nv, XE.kv, XE.ms, XE.ns, XE.kids] at e1 e2 e3; subst e1; subst e2; subst e3; have he2 : e = .returned (.agg #[.int .i64 xk, .int .i64 xn, .slice A1 xms.length c1, .slice A2 xns.length c2, .slice A3 xks.length c3]) := he; subst he2; have HKX := Lib.hid hkx; have HFX := Lib.hid hfx; have HJ := Lib.hid hjq; have Z_n := Lib.hid (⟨Z.out.1.grown hgq hatq, Z.out.2.grown hgq (fun e => HNB.out (by injection e))⟩ : VAt k B b w b3 b6 j wq ∧ Blk wq b9 26 [.int .i64 1, .int .i64 v, .slice none 0 0, .slice none 0 0, .slice none 0 0]); clear Z he hkx hfx hjq hatq hgq HDS tok2 tk; have Z := Z_n; clear Z_n; obtain ⟨u0, u1, u2, u3, u4⟩ := blk_cells5 Z.out.2; obtain ⟨y0, y1, y2, y3, y4⟩ := blk_cells5 (Z.out.1.alloc (.cells #[.int .i64 1, .int .i64 v, .slice none 0 0, .slice none 0 0, .slice none 0 0, .int .i64 xk, .int .i64 xn, .slice A1 xms.length c1, .slice A2 xns.length c2, .slice A3 xks.length c3] 26)).res; obtain ⟨z0, z1, z2, z3, z4⟩ := blk_fr5 (Z.out.1.alloc (.cells #[.int .i64 1, .int .i64 v, .slice none 0 0, .slice none 0 0, .slice none 0 0, .int .i64 xk, .int .i64 xn, .slice A1 xms.length c1, .slice A2 xns.length c2, .slice A3 xks.length c3] 26)).res)
          | fail)
        all_goals
          have HQ := Lib.hid (set5W_blk (Z.out.1.alloc (.cells #[.int .i64 1, .int .i64 v, .slice none 0 0, .slice none 0 0, .slice none 0 0, .int .i64 xk, .int .i64 xn, .slice A1 xms.length c1, .slice A2 xns.length c2, .slice A3 xks.length c3] 26)).res (.int .i64 kk) (.int .i64 0) (.slice none 0 0) (.slice none 0 0) (.slice (some ⟨wq.heap.size, 0, none⟩) 2 2))
          have HFN := Lib.hid (Z.out.1.pair (d := d) (i := i) (K := keepN (d + 1)) kk (numX v) (.mk xk xn (.slice A1 xms.length c1) xms (.slice A2 xns.length c2) xns (.slice A3 xks.length c3) xks) (fun g => .inr ⟨hk1, hk2, rfl, rfl, rfl, _, _, rfl, ⟨rfl, hv1, hv2, rfl, rfl, rfl⟩, HKX.out⟩) (by obtain ⟨d', rfl⟩ : ∃ d', d = d' + 1 := ⟨d - 1, by omega⟩; exact numX_far d' v) (HFX.out.mono (fun c _ hc => by have := HDL.out; rcases hc with hc | hc <;> omega)) (by have := HJ.out; have := HP.out; omega))
          go_wp2_with fail
          obtain ⟨q0, q1, q2, q3, q4⟩ := blk_cells5 HQ.out
          unfold set5W at q0 q1 q2 q3 q4
          refine bodyPost_ret (v := (pairX kk wq.heap.size (numX v) (.mk xk xn (.slice A1 xms.length c1) xms (.slice A2 xns.length c2) xns (.slice A3 xks.length c3) xks)).val) (by simp [XE.val, pairX, XE.kd, XE.n, XE.mv, XE.nv, XE.kv, results, Tryz.results38, go_sem, q0, q1, q2, q3, q4]) rfl ?_
          exact HFN.out
      · have hd3 : ¬ (deep : Int) ≤ 3 := by omega
        obtain ⟨x0, x1, x2, x3, x4⟩ := blk_cells5 HB9.out
        obtain ⟨y0, y1, y2, y3, y4⟩ := blk_cells5 HV2.out.res
        obtain ⟨z0, z1, z2, z3, z4⟩ := blk_fr5 HV2.out.res
        have HQ := Lib.hid (set5W_blk HV2.out.res (.int .i64 1) (.int .i64 v) (.slice none 0 0) (.slice none 0 0) (.slice none 0 0))
        go_wp2_with fail
        obtain ⟨q0, q1, q2, q3, q4⟩ := blk_cells5 HQ.out
        unfold set5W at q0 q1 q2 q3 q4
        refine bodyPost_ret (v := (numX v).val) (by simp [XE.val, numX, XE.kd, XE.n, XE.mv, XE.nv, XE.kv, results, Tryz.results38, go_sem, q0, q1, q2, q3, q4]) rfl ?_
        exact HFIN.out
    · have t1 : (q != 4) = true := by rw [bne_iff_ne]; exact h4
      obtain ⟨x0, x1, x2, x3, x4⟩ := blk_cells5 HB9.out
      obtain ⟨y0, y1, y2, y3, y4⟩ := blk_cells5 HV2.out.res
      obtain ⟨z0, z1, z2, z3, z4⟩ := blk_fr5 HV2.out.res
      have HQ := Lib.hid (set5W_blk HV2.out.res (.int .i64 1) (.int .i64 v) (.slice none 0 0) (.slice none 0 0) (.slice none 0 0))
      go_wp2_with fail
      obtain ⟨q0, q1, q2, q3, q4⟩ := blk_cells5 HQ.out
      unfold set5W at q0 q1 q2 q3 q4
      refine bodyPost_ret (v := (numX v).val) (by simp [XE.val, numX, XE.kd, XE.n, XE.mv, XE.nv, XE.kv, results, Tryz.results38, go_sem, q0, q1, q2, q3, q4]) rfl ?_
      exact HFIN.out
end Go.Proofs.YtcaapbbbekggiaaGreatDoor

namespace Go.Proofs.YtcaapbbbekggiaaGreatDoor
open Go.ChangeShapes Go.WideShapes Go.ChangeAt Go.RowKit
set_option linter.unusedVariables false
set_option linter.unusedSimpArgs false
set_option maxRecDepth 100000
theorem Tryz.infoMtc5 : (Tryz.prog.info? 57).map (fun i => (i.zero, i.size, i.bytes)) = some (some (.agg #[.string ⟨#[]⟩, .string ⟨#[]⟩, .int .i64 0]), 3, 40) := by kernel_rfl
theorem Tryz.infoStr5 : (Tryz.prog.info? 9).map (fun i => (i.zero, i.size, i.bytes)) = some (some (.string ⟨#[]⟩), 1, 16) := by kernel_rfl
theorem mtc_one3 (a b : ByteArray) (kd : Int) : ∀ u ∈ [Value.string a, .string b, .int .i64 kd], u.oneCell' = true := by simp [Value.oneCell']
theorem VecAns.drew {d b i : Nat} {K : XE → Prop} {w w' : World} {e : Ending} (h : VecAns d b i K w e w') : VecAns d b i K w e w'.drew := by
  obtain ⟨x, j, h1, h2, h3, h4, h5, h6⟩ := h
  exact ⟨x, j, h1, h2, h3.below (Below.refl _ _).drew, h4.below (Below.refl _ _).drew h4.lt, h5, only_drew h6⟩
theorem VAt.pair2 {k : KSet} {B b : Nat} {w0 w : World} {b3 b6 j i d : Nat} (h : VAt k B b w0 b3 b6 j w) {K : XE → Prop} (kk : Int) (x y : XE) {g : Nat} (hK : ∀ g, K (pairX kk g x y)) (hb : Blk w g 26 (kcells [x, y])) (hg : b6 < g) (hx : FarS (fun c => c < w0.heap.size ∨ c = b6) (okX d x) w) (hy : FarS (fun c => c < w0.heap.size ∨ c = b6) (okX d y) w) (hj : j + 1 ≤ i + 2 ^ (d + 1)) :
    VecAns (d + 1) b i K w0 (.returned (pairX kk g x y).val) (set5W w b6 (.int .i64 kk) (.int .i64 0) (.slice none 0 0) (.slice none 0 0) (.slice (some ⟨g, 0, none⟩) 2 2)) := by
  have hl := h.lt
  refine h.fin (K := K) (i := i) (pairX kk g x y) (hK _) ?_ hj
  refine okX_far (FarS.nil 3) (FarS.nil 1) ?_ (fun q hq => ?_)
  · exact FarS.slc (S := fun c => c < w0.heap.size ∨ c = b6) (n := 2) (size := 5) hb (fun e => by rcases e with e | e <;> omega) rfl (by omega)
  · rw [List.mem_cons, List.mem_singleton] at hq
    rcases hq with rfl | rfl
    · exact hx
    · exact hy
/-- An expression of one, its kid in a block. -/
def oneX (kk : Int) (g : Nat) (nv : Value) (ns : List ByteArray) (x : XE) : XE := .mk kk 0 (.slice none 0 0) [] nv ns (.slice (some ⟨g, 0, none⟩) 1 1) [x]
theorem VAt.one {k : KSet} {B b : Nat} {w0 w : World} {b3 b6 j i d : Nat} (h : VAt k B b w0 b3 b6 j w) {K : XE → Prop} (kk : Int) (x : XE) {nv : Value} {ns : List ByteArray} (hK : ∀ g, K (oneX kk g nv ns x)) (hn : FarS (fun c => c < w0.heap.size ∨ c = b6) (fun W => Slc W 1 nv ns.length (strs ns)) w) (hx : FarS (fun c => c < w0.heap.size ∨ c = b6) (okX d x) w) (hj : j + 1 ≤ i + 2 ^ (d + 1)) :
    VecAns (d + 1) b i K w0 (.returned (oneX kk w.heap.size nv ns x).val) (set5W (w.alloc (.cells #[.int .i64 x.kd, .int .i64 x.n, x.mv, x.nv, x.kv] 26)) b6 (.int .i64 kk) (.int .i64 0) (.slice none 0 0) nv (.slice (some ⟨w.heap.size, 0, none⟩) 1 1)) := by
  have hl := h.lt
  have h6 := h.res.lt
  have hs := h.gr.size
  have hg : w.grownBy (w.alloc (.cells #[.int .i64 x.kd, .int .i64 x.n, x.mv, x.nv, x.kv] 26)) none := only_alloc (World.grownBy.refl w _) _
  refine (h.alloc (.cells #[.int .i64 x.kd, .int .i64 x.n, x.mv, x.nv, x.kv] 26)).fin (K := K) (i := i) (oneX kk w.heap.size nv ns x) (hK _) ?_ hj
  refine okX_far (FarS.nil 3) (hn.grown hg (fun c e => by cases e)) ?_ (fun q hq => ?_)
  · have hb : Blk (w.alloc (.cells #[.int .i64 x.kd, .int .i64 x.n, x.mv, x.nv, x.kv] 26)) w.heap.size 26 (kcells [x]) := Blk.mk (heap_alloc_new w _)
    exact FarS.slc (S := fun c => c < w0.heap.size ∨ c = b6) (n := 1) (size := 5) hb (fun e => by rcases e with e | e <;> omega) rfl (by omega)
  · rw [List.mem_singleton] at hq; subst hq
    exact hx.grown hg (fun c e => by cases e)
theorem VAt.farRow {k : KSet} {B b : Nat} {w0 w w' : World} {b3 b6 j : Nat} {row : Option Nat} (h : VAt k B b w0 b3 b6 j w) (hg : w.grownBy w' row) (h6 : ∀ g, row = some g → b6 < g) : VAt k B b w0 b3 b6 j w' := by
  have hl := h.lt
  have h1 := h.gr.size
  exact ⟨h.box.grown hg (fun e => by have := h6 _ e.symm; omega), h.res.grown hg (fun e => by have := h6 _ e.symm; omega), h.at_.grown hg (fun e => by have := h6 _ e.symm; omega), h.ok.grown hg (by omega) (fun c e => by have := h6 _ e; omega), h.gr.andThen hg (fun c e => .inl (by have := h6 _ e; omega)), hl⟩
theorem VAt.far {k : KSet} {B b : Nat} {w0 w w' : World} {b3 b6 j g : Nat} (h : VAt k B b w0 b3 b6 j w) (hg : w.grownBy w' (some g)) (h6 : b6 < g) : VAt k B b w0 b3 b6 j w' := by
  have hl := h.lt
  have h1 := h.gr.size
  exact ⟨h.box.grown hg (fun e => by injection e with e; omega), h.res.grown hg (fun e => by injection e with e; omega), h.at_.grown hg (fun e => by injection e with e; omega), h.ok.grown hg (by omega) (fun c e => by injection e with e; omega), h.gr.andThen hg (fun c e => .inl (by injection e with e; omega)), hl⟩
def VecSaid (k : KSet) (b B d : Nat) : Prop := ∀ (deep i : Nat) (w : World), deep + d = 5 → k.ok B w → Blk w b 3 [.int .i64 (i : Nat)] → i + 2 ^ d ≤ 1000 → 0 < d →
    Calls Tryz.prog 16 #[k.val, .pointer (some ⟨b, 0, none⟩), .int .i64 (deep : Nat)] w (VecAns d b i (keepV d) w)
set_option maxHeartbeats 8000000 in
theorem vector_step (k : KSet) (b B : Nat) (hB : B ≤ b) (d : Nat) (IH : 0 < d → VecSaid k b B d) : VecSaid k b B (d + 1) := by
    intro deep i w hd hk hb hi _
    obtain ⟨hp1, hp2⟩ := two_pow d
    have hi1 : i + 1 ≤ 1000 := by omega
    have HI := Lib.hid hi
    have HP := Lib.hid hp1
    have HVS := Lib.hid (VAt.start hk hB hb)
    have HIH := Lib.hid (fun (j : Nat) (V : World) h1 h2 h3 h4 => show Calls Tryz.prog 16 #[.agg #[.slice k.A k.n k.c, .slice k.A2 k.n2 k.c2], .pointer (some ⟨b, 0, none⟩), .int .i64 ((deep : Int) + 1)] V (VecAns d b j (keepV d) V) from IH h4 (deep + 1) j V (by omega) h1 h2 h3 h4)
    have HNU := Lib.hid (fun (j : Nat) (V : World) h1 h2 h3 h4 => show Calls Tryz.prog 38 #[.agg #[.slice k.A k.n k.c, .slice k.A2 k.n2 k.c2], .pointer (some ⟨b, 0, none⟩), .int .i64 ((deep : Int) + 1)] V (VecAns d b j (keepN d) V) from number_any k b B hB d (deep + 1) j V (by omega) h1 h2 h3 h4)
    clear hk hb hi IH
    obtain ⟨b3, hb3⟩ : ∃ c, w.heap.size = c := ⟨_, rfl⟩
    obtain ⟨b6, hb6⟩ : ∃ c, b3 + 1 = c := ⟨_, rfl⟩
    have HB3 := Lib.hid hb3
    have HB6 := Lib.hid hb6
    have HV0 := Lib.hid (show VAt k B b w b3 b6 i ((w.alloc (.cells #[.slice k.A k.n k.c, .slice k.A2 k.n2 k.c2] 29)).alloc (.cells #[.int .i64 0, .int .i64 0, .slice none 0 0, .slice none 0 0, .slice none 0 0] 26)) by subst hb3; subst hb6; exact HVS.out)
    clear hb3 hb6 HVS
    show Calls _ _ #[.agg #[.slice k.A k.n k.c, .slice k.A2 k.n2 k.c2], _, _] _ _
    go_enter Tryz.func16, Tryz.ntmps16
    go_upto_region 1 with fail
    rw [HB3.out, HB6.out]
    generalize (w.alloc (.cells #[.slice k.A k.n k.c, .slice k.A2 k.n2 k.c2] 29)).alloc (.cells #[.int .i64 0, .int .i64 0, .slice none 0 0, .slice none 0 0, .slice none 0 0] 26) = W1 at *
    obtain ⟨c0, c1⟩ := ok_box2 HV0.out
    go_wp2_with fail
    (with_reducible refine (next_v k b B i W1 HV0.out.ok hB HV0.out.at_ (by omega)).mono ?_); rintro e wn ⟨kd, n, hkd, hn, rfl, hat, hg⟩
    have HV1 := Lib.hid (HV0.out.grown hg hat)
    have HW := Lib.hid (fun V => within_any kd 0 9 V hkd (by omega) (by omega) (by omega))
    obtain ⟨hv1, hv2⟩ := nWithin_in kd (lo := 0) (hi := 9) (by omega)
    generalize nWithin kd 0 9 = c at *
    have HN := Lib.hid hn
    clear hat hg HV0 c0 c1 hkd hn
    go_wp2_with fail
    (with_reducible refine (HW.out _).mono ?_); rintro e wz ⟨rfl, rfl⟩
    go_upto_if 32 with fail
    go_cut [9] from 31 to 32 (fun x9 wx => ∃ c' : Int, x9 = .int .i64 c' ∧ 0 ≤ c' ∧ c' ≤ 9 ∧ (c' ≤ 3 ∨ 0 < d) ∧ VAt k B b w b3 b6 (i + 1) wx)
    case first =>
      by_cases h0 : 0 < d
      · have hd3 : (deep : Int) ≤ 3 := by omega
        go_wp2_with fail
        go_meet
        exact ⟨c, rfl, hv1, hv2, .inr h0, HV1.out⟩
      · have hd3 : ¬ (deep : Int) ≤ 3 := by omega
        go_wp2_with fail
        go_meet
        exact ⟨0, rfl, by omega, by omega, .inl (by omega), HV1.out⟩
    case rest =>
      obtain ⟨c', rfl, hv3, hv4, h0, hat⟩ := hcut
      have HV := Lib.hid hat
      clear hat HV1 HW hv1 hv2
      obtain ⟨p, hp⟩ : ∃ p, decide (c' ≤ 3) = p := ⟨_, rfl⟩
      have HPP := Lib.hid hp
      clear hp
      go_upto_region 6 with fail
      go_upto_if 34 with fail
      go_cut [34] from 35 to 38 (fun x34 wx => x34 = .bool p ∧ VAt k B b w b3 b6 (i + 1) wx)
      case first =>
        have hc9 : c' = 0 ∨ c' = 1 ∨ c' = 2 ∨ c' = 3 ∨ 3 < c' := by omega
        rcases hc9 with rfl | rfl | rfl | rfl | h
        · have hpt : p = true := HPP.out.symm.trans (by decide)
          go_wp2_with fail
          go_meet
          exact ⟨by subst hpt; rfl, HV.out⟩
        · have hpt : p = true := HPP.out.symm.trans (by decide)
          go_wp2_with fail
          go_meet
          exact ⟨by subst hpt; rfl, HV.out⟩
        · have hpt : p = true := HPP.out.symm.trans (by decide)
          go_wp2_with fail
          go_meet
          exact ⟨by subst hpt; rfl, HV.out⟩
        · have hpt : p = true := HPP.out.symm.trans (by decide)
          go_wp2_with fail
          go_meet
          exact ⟨by subst hpt; rfl, HV.out⟩
        · have hpt : p = false := HPP.out.symm.trans (decide_eq_false (by omega))
          have t0 : (c' == 0) = false := by rw [beq_eq_false_iff_ne]; omega
          have t1 : (c' == 1) = false := by rw [beq_eq_false_iff_ne]; omega
          have t2 : (c' == 2) = false := by rw [beq_eq_false_iff_ne]; omega
          have t3 : (c' == 3) = false := by rw [beq_eq_false_iff_ne]; omega
          go_wp2_with fail
          go_meet
          exact ⟨by subst hpt; rfl, HV.out⟩
      case rest =>
        obtain ⟨rfl, hat⟩ := hcut
        have HV2 := Lib.hid hat
        clear hat HV
        cases p with
        | true => --doneP
          clear HPP HIH HNU h0
          obtain ⟨hq1, hq2⟩ := nWithin_in n (lo := 0) (hi := 1) (by omega)
          have HW := Lib.hid (fun V => within_any n 0 1 V HN.out (by omega) (by omega) (by omega))
          generalize nWithin n 0 1 = q at *
          obtain ⟨q, rfl⟩ := Int.eq_ofNat_of_zero_le hq1
          have hq3 : q < 2 := by omega
          have w109 : IntKind.i64.wrap (109 + (q : Int)) = 109 + q := by rw [IntKind.wrap_i64]; omega
          have u109 : IntKind.u8.wrap (109 + (q : Int)) = 109 + q := by
            match q, hq3 with
            | 0, _ => rfl
            | 1, _ => rfl
          have HCV := Lib.hid (fun V g => conv_at V g (UInt8.ofNat (109 + q)) (109 + (q : Int)) (by
            match q, hq3 with
            | 0, _ => rfl
            | 1, _ => rfl))
          have HC2 : Hid (UInt8.ofNat (109 + q) = 109 ∨ UInt8.ofNat (109 + q) = 110) := Lib.hid (by
            match q, hq3 with
            | 0, _ => exact .inl rfl
            | 1, _ => exact .inr rfl)
          generalize UInt8.ofNat (109 + q) = ch at *
          have hcv := HCV.out (wc.alloc (.cells #[.int .u8 (109 + (q : Int))] 5)) wc.heap.size (Blk.mk (heap_alloc_new wc _))
          go_wp2_with fail
          (with_reducible refine (HW.out _).mono ?_); rintro e wz ⟨rfl, rfl⟩
          go_upto_region 11 with fail
          obtain ⟨g1, hg1⟩ : ∃ g, wc.heap.size + 1 = g := ⟨_, rfl⟩
          have HG1 := Lib.hid hg1
          obtain ⟨W2, hW2⟩ : ∃ W, (wc.alloc (.cells #[.int .u8 (109 + (q : Int))] 5)).alloc (.cells #[.string ⟨#[110, 97, 109, 101]⟩, .string ⟨#[ch]⟩, .int .i64 1] 57) = W := ⟨_, rfl⟩
          have HB := Lib.hid (show Blk W2 g1 57 (mtcs [(⟨#[110, 97, 109, 101]⟩, ⟨#[ch]⟩, 1)]) from by
            have h := heap_alloc_new (wc.alloc (.cells #[.int .u8 (109 + (q : Int))] 5)) (.cells #[.string ⟨#[110, 97, 109, 101]⟩, .string ⟨#[ch]⟩, .int .i64 1] 57)
            rw [show (wc.alloc (.cells #[.int .u8 (109 + (q : Int))] 5)).heap.size = g1 by simp [← hg1], hW2] at h
            exact Blk.mk h)
          have HV3 := Lib.hid (show VAt k B b w b3 b6 (i + 1) W2 by rw [← hW2]; exact (HV2.out.alloc _).alloc _)
          have h16 : b6 + 1 ≤ g1 := by have := HV2.out.res.lt; omega
          have HR := Lib.hid (show W2.ownsRow (b6 + 1) 57 3 (.slice (some ⟨g1, 0, none⟩) 1 1) 1 (mtcs [(⟨#[110, 97, 109, 101]⟩, ⟨#[ch]⟩, 1)]) from HB.out.owns (n := 1) (cap := 1) (size := 3) h16 (Nat.le_refl _) (by unfold maxLen; omega) rfl)
          rw [HG1.out, hW2]
          clear hcv hW2 hg1 HV2 HW HCV w109 u109 HB hq1 hq2 hq3
          obtain ⟨g4, hg4⟩ : ∃ g, (bits BinOp.and IntKind.i64 n 4 == 4) = g := ⟨_, rfl⟩
          go_upto_if 49 with fail
          clear hg4
          go_cut [10] from 50 to 68 (fun x10 wx => ∃ (A : Option Addr) (m cx : Nat) (ms : List Mtc), x10 = .slice A m cx ∧ ms.length = m ∧ keepMs ms ∧ wx.ownsRow (b6 + 1) 57 3 (.slice A m cx) m (mtcs ms) ∧ VAt k B b w b3 b6 (i + 1) wx)
          case first =>
            cases g4 with
            | false =>
              go_wp2_with fail
              go_meet
              exact ⟨_, 1, 1, _, rfl, rfl, ⟨ch, HC2.out, .inl rfl⟩, HR.out, HV3.out⟩
            | true =>
              obtain ⟨i0, hi0, hz0, hz1, hz2⟩ := info_parts Tryz.infoMtc5
              obtain ⟨q8, hq8⟩ : ∃ q, n.tdiv 8 = q := ⟨_, rfl⟩
              obtain ⟨q16, hq16⟩ : ∃ q, n.tdiv 16 = q := ⟨_, rfl⟩
              have hi8 : I64 q8 := by rw [← hq8]; exact I64_tdiv HN.out (by decide)
              have hi16 : I64 q16 := by rw [← hq16]; exact I64_tdiv HN.out (by decide)
              obtain ⟨ha1, ha2⟩ := nWithin_in q8 (lo := 0) (hi := 2) (by omega)
              obtain ⟨hc1, hc2⟩ := nWithin_in q8 (lo := 0) (hi := 3) (by omega)
              obtain ⟨hd1, hd2⟩ := nWithin_in q16 (lo := 1) (hi := 4) (by omega)
              have HW4 := Lib.hid (fun V => within_any q8 0 2 V hi8 (by omega) (by omega) (by omega))
              have HW16 := Lib.hid (fun V => within_any q8 0 3 V hi8 (by omega) (by omega) (by omega))
              have HWV := Lib.hid (fun V => within_any q16 1 4 V hi16 (by omega) (by omega) (by omega))
              generalize nWithin q8 0 2 = a at *
              generalize nWithin q8 0 3 = vc at *
              generalize nWithin q16 1 4 = mk at *
              obtain ⟨a, rfl⟩ := Int.eq_ofNat_of_zero_le ha1
              obtain ⟨vc, rfl⟩ := Int.eq_ofNat_of_zero_le hc1
              have ha3 : a < 3 := by omega
              have hc4 : vc < 4 := by omega
              have w8 : IntKind.i64.wrap q8 = q8 := by unfold I64 at hi8; rw [IntKind.wrap_i64]; omega
              have w16 : IntKind.i64.wrap q16 = q16 := by unfold I64 at hi16; rw [IntKind.wrap_i64]; omega
              have HKM := Lib.hid (show keepMs [(⟨#[110, 97, 109, 101]⟩, ⟨#[ch]⟩, 1), (keepNames.getD a ⟨#[]⟩, keepValues.getD vc ⟨#[]⟩, mk)] from ⟨ch, HC2.out, .inr ⟨a, vc, mk, ha3, hc4, hd1, hd2, rfl⟩⟩)
              go_upto_region 12 with fail
              obtain ⟨D, hD⟩ : ∃ D, W2.drew = D := ⟨_, rfl⟩
              have HVD := Lib.hid (show VAt k B b w b3 b6 (i + 1) D by rw [← hD]; exact HV3.out.drew)
              have HRD := Lib.hid (show D.ownsRow (b6 + 1) 57 3 (.slice (some ⟨g1, 0, none⟩) 1 1) 1 (mtcs [(⟨#[110, 97, 109, 101]⟩, ⟨#[ch]⟩, 1)]) by rw [← hD]; exact own_below HR.out (Below.refl _ _).drew (Nat.le_refl _))
              have tok1 : True := trivial
              have tok2 : True := trivial
              have tok3 : True := trivial
              have tok4 : True := trivial
              have tok5 : True := trivial
              have tok6 : True := trivial
              have za1 : (0 : Int) ≤ a := by omega
              have za2 : (a : Int) < 4 := by omega
              have zc1 : (0 : Int) ≤ vc := by omega
              have zc2 : (vc : Int) < 8 := by omega
              clear HV3 HR
              go_region_law (first
                | (have tk := tok1; (try go_simp); go_at_call 36; (with_reducible refine (names_any _).mono ?_); rintro e wn ⟨rfl, hwn⟩; have HBN := Lib.hid (show Below D.heap.size D wn from (by rw [← hwn]; exact (Below.refl _ _).alloc (Nat.le_refl _) _)); have HNN := Lib.hid (show Blk wn D.heap.size 9 (strs keepNames) from (by rw [← hwn]; exact Blk.mk (heap_alloc_new D _))); have e66 := name_cell HNN.out ha3; generalize keepNames.getD a ⟨#[]⟩ = na at *; clear tok1 tk hwn)
                | (have tk := tok2; (try go_simp); go_at_call 35; (with_reducible refine (HW4.out _).mono ?_); rintro e wz ⟨rfl, rfl⟩; clear tok2 tk HW4)
                | (have tk := tok3; (try go_simp); go_at_call 37; (with_reducible refine (values_any _).mono ?_); rintro e wv ⟨rfl, hwv⟩; have HBV := Lib.hid (show Below wn.heap.size wn wv from (by rw [← hwv]; exact (Below.refl _ _).alloc (Nat.le_refl _) _)); have HVV := Lib.hid (show Blk wv wn.heap.size 9 (strs keepValues) from (by rw [← hwv]; exact Blk.mk (heap_alloc_new wn _))); have e66' := (HBV.out.cell (p := ⟨D.heap.size, a, none⟩) HNN.out.lt).trans e66; have e72 := value_cell HVV.out hc4; generalize keepValues.getD vc ⟨#[]⟩ = va at *; clear tok3 tk hwv)
                | (have tk := tok4; (try go_simp); go_at_call 35; (with_reducible refine (HW16.out _).mono ?_); rintro e wz ⟨rfl, rfl⟩; clear tok4 tk HW16)
                | (have tk := tok5; (try go_simp); go_at_call 35; (with_reducible refine (HWV.out _).mono ?_); rintro e wz ⟨rfl, rfl⟩; have HVW := Lib.hid ((HVD.out.below HBN.out).below HBV.out); have HRW := Lib.hid (own_below (own_below (own_below HRD.out HBN.out (Nat.le_refl _)) HBV.out (Nat.le_refl _)) ((Below.refl wv.heap.size wv).alloc (Nat.le_refl _) (.cells #[.string na, .string va, .int .i64 mk] 57)) (Nat.le_refl _)); have HX := Lib.hid (show Sees (wv.alloc (.cells #[.string na, .string va, .int .i64 mk] 57)) (wv.alloc (.cells #[.string na, .string va, .int .i64 mk] 57)).heap.size 3 (some ⟨wv.heap.size, 0, none⟩) 1 [.string na, .string va, .int .i64 mk] from (Blk.mk (heap_alloc_new wv _) : Blk _ wv.heap.size 57 [.string na, .string va, .int .i64 mk]).sees rfl (List.prefix_refl _)); have hbs : b6 + 1 ≤ (wv.alloc (.cells #[.string na, .string va, .int .i64 mk] 57)).heap.size := Nat.succ_le_of_lt (HVW.out.alloc (.cells #[.string na, .string va, .int .i64 mk] 57)).res.lt; clear tok5 tk HWV)
                | (have tk := tok6; refine step_append_at3 rfl (.tmp 50) (.tmp 67) 22 rfl (b6 + 1) 57 i0 (.agg #[.string ⟨#[]⟩, .string ⟨#[]⟩, .int .i64 0]) 3 40 Tryz.underlying22 hi0 hz0 hz1 hz2 rfl (by decide) (.slice (some ⟨g1, 0, none⟩) 1 1) 1 (mtcs [(⟨#[110, 97, 109, 101]⟩, ⟨#[ch]⟩, 1)]) (by first | rfl | (simp [Act.eval]; done)) HRW.out _ _ 1 1 [.string na, .string va, .int .i64 mk] (by first | rfl | (simp [Act.eval]; done)) HX.out (mtc_one3 _ _ _) (by unfold maxLen; omega) (by omega) hbs ?_; intro v9 w9 hown9 hgr9 hwh9; obtain ⟨A9, c9, hA9, _, _⟩ := own_slice hown9; subst hA9; have HO9 := Lib.hid hown9; have HG9 := Lib.hid hgr9; clear tok6 tk hown9 hgr9 hwh9)
                | fail)
              all_goals
                have HVZ := Lib.hid ((HVW.out.alloc (.cells #[.string na, .string va, .int .i64 mk] 57)).far HG9.out (g := g1) (by omega))
                clear HVW HRW HX HBN HNN HBV HVV HG9 HVD HRD e66 e66' e72 hbs
                go_wp2_with fail
                go_meet
                exact ⟨A9, 2, c9, _, rfl, rfl, HKM.out, HO9.out, HVZ.out⟩
          case rest =>
            obtain ⟨A, m, cx, ms, rfl, hml, hkm, hrow, hat⟩ := hcut
            have HM := Lib.hid hkm
            have HRW := Lib.hid hrow
            have HV4 := Lib.hid hat
            have HML := Lib.hid hml
            clear hkm hrow hat hml HV3 HR
            obtain ⟨hv1, hv2⟩ := nWithin_in n (lo := 1) (hi := 30) (by omega)
            have HW := Lib.hid (fun V => within_any n 1 30 V HN.out (by omega) (by omega) (by omega))
            generalize nWithin n 1 30 = v at *
            obtain ⟨y0, y1, y2, y3, y4⟩ := blk_cells5 HV4.out.res
            obtain ⟨z0, z1, z2, z3, z4⟩ := blk_fr5 HV4.out.res
            have HQ := Lib.hid (set5W_blk HV4.out.res (.int .i64 2) (.int .i64 v) (.slice A m cx) (.slice none 0 0) (.slice none 0 0))
            go_wp2_with fail
            (with_reducible refine (HW.out _).mono ?_); rintro e wz ⟨rfl, rfl⟩
            go_wp2_with fail
            obtain ⟨q0, q1, q2, q3, q4⟩ := blk_cells5 HQ.out
            unfold set5W at q0 q1 q2 q3 q4
            have HFN := Lib.hid (HV4.out.fin (K := keepV (d + 1)) (i := i) (d := d + 1) (.mk 2 v (.slice A m cx) ms (.slice none 0 0) [] (.slice none 0 0) []) (.inl ⟨rfl, hv1, hv2, HM.out, rfl, rfl⟩) (okX_far (by have h := HML.out; subst h; exact FarS.own HRW.out (fun g hg => by have h1 := (HRW.out.lt g hg).1; have h2 := HV4.out.lt; intro e; rcases e with e | e <;> omega)) (FarS.nil 1) (FarS.nil 5) (fun x hx => absurd hx List.not_mem_nil)) (by have := HP.out; omega))
            refine bodyPost_ret (v := (XE.mk 2 v (.slice A m cx) ms (.slice none 0 0) [] (.slice none 0 0) []).val) (by simp [XE.val, XE.kd, XE.n, XE.mv, XE.nv, XE.kv, results, Tryz.results16, go_sem, q0, q1, q2, q3, q4]) rfl ?_
            exact HFN.out
        | false => --@rest (gen_vec.py)
          have hc3 : 3 < c' := by have h := of_decide_eq_false HPP.out; omega
          clear HPP
          have hd0 : 0 < d := by rcases h0 with h | h <;> omega
          clear h0
          have h0 := hd0
          clear hd0
          have h2d : 2 ≤ 2 ^ d := by obtain ⟨d', rfl⟩ : ∃ d', d = d' + 1 := ⟨d - 1, by omega⟩; have := two_pow d'; omega
          have hd3 : (deep : Int) ≤ 3 := by omega
          obtain ⟨p5, hp5⟩ : ∃ p, decide (c' ≤ 5) = p := ⟨_, rfl⟩
          have HPP := Lib.hid hp5
          clear hp5
          go_upto_region 14 with fail
          go_upto_if 73 with fail
          go_cut [73] from 74 to 75 (fun x73 wx => x73 = .bool p5 ∧ VAt k B b w b3 b6 (i + 1) wx)
          case first =>
            have hc9 : c' = 4 ∨ c' = 5 ∨ 5 < c' := by omega
            rcases hc9 with rfl | rfl | h
            · have hpt : p5 = true := HPP.out.symm.trans (by decide)
              go_wp2_with fail
              go_meet
              exact ⟨by subst hpt; rfl, HV2.out⟩
            · have hpt : p5 = true := HPP.out.symm.trans (by decide)
              go_wp2_with fail
              go_meet
              exact ⟨by subst hpt; rfl, HV2.out⟩
            · have hpt : p5 = false := HPP.out.symm.trans (decide_eq_false (by omega))
              have t0 : (c' == 4) = false := by rw [beq_eq_false_iff_ne]; omega
              have t1 : (c' == 5) = false := by rw [beq_eq_false_iff_ne]; omega
              go_wp2_with fail
              go_meet
              exact ⟨by subst hpt; rfl, HV2.out⟩
          case rest =>
            obtain ⟨rfl, hat⟩ := hcut
            have HV5 := Lib.hid hat
            clear hat HV2
            have HV2 := HV5
            clear HV5
            cases p5 with
            | true => --done45
              obtain ⟨c0, c1⟩ := ok_box2 HV2.out
              have HSa := Lib.hid (show w.heap.size ≤ wc.heap.size ∧ b6 < wc.heap.size ∧ b < wc.heap.size from ⟨HV2.out.gr.size, HV2.out.res.lt, HV2.out.at_.lt⟩)
              go_wp2_with fail
              (with_reducible refine (HIH.out (i + 1) _ HV2.out.ok HV2.out.at_ (by have := HI.out; omega) h0).mono ?_); rintro e wa ⟨⟨xak, xan, xamv, xams, xanv, xans, xakv, xaks⟩, ja, he, hkx, hfx, hat, hja, hg⟩
              obtain ⟨Aa1, ca1, Aa2, ca2, Aa3, ca3, e1, e2, e3⟩ := okX_forms hfx.now
              simp only [XE.mv, XE.nv, XE.kv, XE.ms, XE.ns, XE.kids] at e1 e2 e3
              subst e1; subst e2; subst e3
              have he2 : e = .returned (.agg #[.int .i64 xak, .int .i64 xan, .slice Aa1 xams.length ca1, .slice Aa2 xans.length ca2, .slice Aa3 xaks.length ca3]) := he
              subst he2
              have HVa := Lib.hid ((HV2.out.grown hg hat).alloc (.cells #[.int .i64 xak, .int .i64 xan, .slice Aa1 xams.length ca1, .slice Aa2 xans.length ca2, .slice Aa3 xaks.length ca3] 26))
              have HKa := Lib.hid (show Kid d wc.heap.size wa.heap.size (XE.mk xak xan (.slice Aa1 xams.length ca1) xams (.slice Aa2 xans.length ca2) xans (.slice Aa3 xaks.length ca3) xaks) (wa.alloc (.cells #[.int .i64 xak, .int .i64 xan, .slice Aa1 xams.length ca1, .slice Aa2 xans.length ca2, .slice Aa3 xaks.length ca3] 26)) from Kid.made hfx hg.size)
              have HPa := Lib.hid hkx
              have HJa := Lib.hid hja
              clear HV2 c0 c1 he hkx hfx hat hja hg
              go_upto_region 17 with fail
              generalize wa.alloc (.cells #[.int .i64 xak, .int .i64 xan, .slice Aa1 xams.length ca1, .slice Aa2 xans.length ca2, .slice Aa3 xaks.length ca3] 26) = Wa at *
              generalize wa.heap.size = ga at *
              obtain ⟨c0, c1⟩ := ok_box2 HVa.out
              have hja : ja ≤ 1000 := by have := HJa.out; have := HI.out; omega
              go_wp2_with fail
              (with_reducible refine (next_v k b B ja Wa HVa.out.ok hB HVa.out.at_ hja).mono ?_); rintro e wn2 ⟨kd2, n2, hkd2, hn2, rfl, hat, hg⟩
              have HV4 := Lib.hid (HVa.out.grown hg hat)
              have HK4 := Lib.hid (HKa.out.grown hg HSa.out.2.2)
              have HW := Lib.hid (fun V => within_any n 8 13 V HN.out (by omega) (by omega) (by omega))
              have HW2 := Lib.hid (fun V => within_any n2 (-3) 9 V hn2 (by omega) (by omega) (by omega))
              obtain ⟨hk1, hk2⟩ := nWithin_in n (lo := 8) (hi := 13) (by omega)
              obtain ⟨hn3, hn4⟩ := nWithin_in n2 (lo := -3) (hi := 9) (by omega)
              generalize nWithin n 8 13 = kk at *
              generalize nWithin n2 (-3) 9 = vv at *
              clear HVa HKa c0 c1 hat hg hkd2 hn2
              go_upto_region 18 with fail
              have HVX := Lib.hid HV4.out
              have HKA := Lib.hid (show Kid d wc.heap.size ga (XE.mk xak xan (.slice Aa1 xams.length ca1) xams (.slice Aa2 xans.length ca2) xans (.slice Aa3 xaks.length ca3) xaks) wn2 from HK4.out)
              obtain ⟨x0, x1, x2, x3, x4⟩ := blk_cells5 (show Blk wn2 ga 26 [.int .i64 xak, .int .i64 xan, .slice Aa1 xams.length ca1, .slice Aa2 xans.length ca2, .slice Aa3 xaks.length ca3] from HK4.out.blk)
              obtain ⟨y0, y1, y2, y3, y4⟩ := blk_cells5 (HVX.out.alloc (.cells #[.int .i64 xak, .int .i64 xan, .slice Aa1 xams.length ca1, .slice Aa2 xans.length ca2, .slice Aa3 xaks.length ca3, .int .i64 1, .int .i64 vv, .slice none 0 0, .slice none 0 0, .slice none 0 0] 26)).res
              obtain ⟨z0, z1, z2, z3, z4⟩ := blk_fr5 (HVX.out.alloc (.cells #[.int .i64 xak, .int .i64 xan, .slice Aa1 xams.length ca1, .slice Aa2 xans.length ca2, .slice Aa3 xaks.length ca3, .int .i64 1, .int .i64 vv, .slice none 0 0, .slice none 0 0, .slice none 0 0] 26)).res
              clear HV4 HK4 HIH HNU
              go_still_tail 6, (by kernel_rfl)
              still_call ((HW.out _).mono fun e w' h => ⟨h.1, h.2.symm⟩)
              repeat still_step
              still_call ((HW2.out _).mono fun e w' h => ⟨h.1, h.2.symm⟩)
              repeat still_step
              refine wpStill_nil ?_
              change wpList _ _ _ _ _ wn2.drew
              all_goals
                have HQ := Lib.hid (set5W_blk (HVX.out.alloc (.cells #[.int .i64 xak, .int .i64 xan, .slice Aa1 xams.length ca1, .slice Aa2 xans.length ca2, .slice Aa3 xaks.length ca3, .int .i64 1, .int .i64 vv, .slice none 0 0, .slice none 0 0, .slice none 0 0] 26)).res (.int .i64 kk) (.int .i64 0) (.slice none 0 0) (.slice none 0 0) (.slice (some ⟨wn2.heap.size, 0, none⟩) 2 2))
                have HFN := Lib.hid (HVX.out.pair (d := d) (i := i) (K := keepV (d + 1)) kk (XE.mk xak xan (.slice Aa1 xams.length ca1) xams (.slice Aa2 xans.length ca2) xans (.slice Aa3 xaks.length ca3) xaks) (numX vv) (fun g => .inr (.inl ⟨hk1, hk2, rfl, rfl, rfl, _, _, rfl, HPa.out, ⟨rfl, hn3, hn4, rfl, rfl, rfl⟩⟩)) (HKA.out.s0 HSa.out.1 HSa.out.2.1) (by obtain ⟨d', rfl⟩ : ∃ d', d = d' + 1 := ⟨d - 1, by omega⟩; exact numX_far d' vv) (by have := HJa.out; have := h2d; omega))
                go_wp2_with fail
                obtain ⟨q0, q1, q2, q3, q4⟩ := blk_cells5 HQ.out
                unfold set5W at q0 q1 q2 q3 q4
                refine bodyPost_ret (v := (pairX kk wn2.heap.size (XE.mk xak xan (.slice Aa1 xams.length ca1) xams (.slice Aa2 xans.length ca2) xans (.slice Aa3 xaks.length ca3) xaks) (numX vv)).val) (by simp [XE.val, pairX, XE.kd, XE.n, XE.mv, XE.nv, XE.kv, results, Tryz.results16, go_sem, q0, q1, q2, q3, q4]) rfl ?_
                exact HFN.out.drew
            | false =>
              have hc9 : c' = 6 ∨ c' = 7 ∨ c' = 8 ∨ c' = 9 := by have h := of_decide_eq_false HPP.out; omega
              clear HPP hc3
              rcases hc9 with rfl | rfl | rfl | rfl
              · --done6
                obtain ⟨c0, c1⟩ := ok_box2 HV2.out
                have HSa := Lib.hid (show w.heap.size ≤ wc.heap.size ∧ b6 < wc.heap.size ∧ b < wc.heap.size from ⟨HV2.out.gr.size, HV2.out.res.lt, HV2.out.at_.lt⟩)
                go_wp2_with fail
                (with_reducible refine (HIH.out (i + 1) _ HV2.out.ok HV2.out.at_ (by have := HI.out; omega) h0).mono ?_); rintro e wa ⟨⟨xak, xan, xamv, xams, xanv, xans, xakv, xaks⟩, ja, he, hkx, hfx, hat, hja, hg⟩
                obtain ⟨Aa1, ca1, Aa2, ca2, Aa3, ca3, e1, e2, e3⟩ := okX_forms hfx.now
                simp only [XE.mv, XE.nv, XE.kv, XE.ms, XE.ns, XE.kids] at e1 e2 e3
                subst e1; subst e2; subst e3
                have he2 : e = .returned (.agg #[.int .i64 xak, .int .i64 xan, .slice Aa1 xams.length ca1, .slice Aa2 xans.length ca2, .slice Aa3 xaks.length ca3]) := he
                subst he2
                have HVa := Lib.hid ((HV2.out.grown hg hat).alloc (.cells #[.int .i64 xak, .int .i64 xan, .slice Aa1 xams.length ca1, .slice Aa2 xans.length ca2, .slice Aa3 xaks.length ca3] 26))
                have HKa := Lib.hid (show Kid d wc.heap.size wa.heap.size (XE.mk xak xan (.slice Aa1 xams.length ca1) xams (.slice Aa2 xans.length ca2) xans (.slice Aa3 xaks.length ca3) xaks) (wa.alloc (.cells #[.int .i64 xak, .int .i64 xan, .slice Aa1 xams.length ca1, .slice Aa2 xans.length ca2, .slice Aa3 xaks.length ca3] 26)) from Kid.made hfx hg.size)
                have HPa := Lib.hid hkx
                have HJa := Lib.hid hja
                clear HV2 c0 c1 he hkx hfx hat hja hg
                go_upto_region 21 with fail
                generalize wa.alloc (.cells #[.int .i64 xak, .int .i64 xan, .slice Aa1 xams.length ca1, .slice Aa2 xans.length ca2, .slice Aa3 xaks.length ca3] 26) = Wa at *
                generalize wa.heap.size = ga at *
                obtain ⟨c0, c1⟩ := ok_box2 HVa.out
                have HSb := Lib.hid (show w.heap.size ≤ Wa.heap.size ∧ b6 < Wa.heap.size ∧ b < Wa.heap.size from ⟨HVa.out.gr.size, HVa.out.res.lt, HVa.out.at_.lt⟩)
                go_wp2_with fail
                (with_reducible refine (HIH.out ja _ HVa.out.ok HVa.out.at_ (by have := HI.out; have := HJa.out; omega) h0).mono ?_); rintro e wb ⟨⟨xbk, xbn, xbmv, xbms, xbnv, xbns, xbkv, xbks⟩, jb, he, hkx, hfx, hat, hjb, hg⟩
                obtain ⟨Ab1, cb1, Ab2, cb2, Ab3, cb3, e1, e2, e3⟩ := okX_forms hfx.now
                simp only [XE.mv, XE.nv, XE.kv, XE.ms, XE.ns, XE.kids] at e1 e2 e3
                subst e1; subst e2; subst e3
                have he2 : e = .returned (.agg #[.int .i64 xbk, .int .i64 xbn, .slice Ab1 xbms.length cb1, .slice Ab2 xbns.length cb2, .slice Ab3 xbks.length cb3]) := he
                subst he2
                have HVb := Lib.hid ((HVa.out.grown hg hat).alloc (.cells #[.int .i64 xbk, .int .i64 xbn, .slice Ab1 xbms.length cb1, .slice Ab2 xbns.length cb2, .slice Ab3 xbks.length cb3] 26))
                have HKb := Lib.hid (show Kid d Wa.heap.size wb.heap.size (XE.mk xbk xbn (.slice Ab1 xbms.length cb1) xbms (.slice Ab2 xbns.length cb2) xbns (.slice Ab3 xbks.length cb3) xbks) (wb.alloc (.cells #[.int .i64 xbk, .int .i64 xbn, .slice Ab1 xbms.length cb1, .slice Ab2 xbns.length cb2, .slice Ab3 xbks.length cb3] 26)) from Kid.made hfx hg.size)
                have HPb := Lib.hid hkx
                have HJb := Lib.hid hjb
                have HKE := Lib.hid ((HKa.out.grown hg HSa.out.2.2).below ((Below.refl wb.heap.size wb).alloc (Nat.le_refl _) (.cells #[.int .i64 xbk, .int .i64 xbn, .slice Ab1 xbms.length cb1, .slice Ab2 xbns.length cb2, .slice Ab3 xbks.length cb3] 26)))
                clear HVa c0 c1 he hkx hfx hat hjb hg HKa
                have HKa := HKE; clear HKE
                go_upto_region 22 with fail
                generalize wb.alloc (.cells #[.int .i64 xbk, .int .i64 xbn, .slice Ab1 xbms.length cb1, .slice Ab2 xbns.length cb2, .slice Ab3 xbks.length cb3] 26) = Wb at *
                generalize wb.heap.size = gb at *
                have HW := Lib.hid (fun V => within_any n 8 16 V HN.out (by omega) (by omega) (by omega))
                obtain ⟨hk1, hk2⟩ := nWithin_in n (lo := 8) (hi := 16) (by omega)
                generalize nWithin n 8 16 = kk at *
                clear HIH HNU h0
                refine wp_region_facts_tail 5 (R := fun a b => Below a.heap.size a b) (G := (fun W => VAt k B b w b3 b6 jb W ∧ Kid d wc.heap.size ga (XE.mk xak xan (.slice Aa1 xams.length ca1) xams (.slice Aa2 xans.length ca2) xans (.slice Aa3 xaks.length ca3) xaks) W ∧ Kid d Wa.heap.size gb (XE.mk xbk xbn (.slice Ab1 xbms.length cb1) xbms (.slice Ab2 xbns.length cb2) xbns (.slice Ab3 xbks.length cb3) xbks) W)) (V := fun i' u' W => match i' with | 0 => u' = .int .i64 n | 1 => u' = .int .i64 kk | 2 => u' = .agg #[.int .i64 xak, .int .i64 xan, .slice Aa1 xams.length ca1, .slice Aa2 xans.length ca2, .slice Aa3 xaks.length ca3] | 3 => u' = .agg #[.int .i64 xbk, .int .i64 xbn, .slice Ab1 xbms.length cb1, .slice Ab2 xbns.length cb2, .slice Ab3 xbks.length cb3] | 4 => ∃ g, u' = .slice (some ⟨g, 0, none⟩) 2 2 ∧ Blk W g 26 [.int .i64 xak, .int .i64 xan, .slice Aa1 xams.length ca1, .slice Aa2 xans.length ca2, .slice Aa3 xaks.length ca3, .int .i64 xbk, .int .i64 xbn, .slice Ab1 xbms.length cb1, .slice Ab2 xbns.length cb2, .slice Ab3 xbks.length cb3] ∧ b6 < g | _ => True) (by kernel_rfl) (fun w => Below.refl _ _) (fun a b c h1 h2 => h1.trans (h2.mono h1.size)) (by kernel_rfl) (by kernel_rfl) (by kernel_rfl) (by kernel_rfl) (by decide) (by kernel_rfl) ?hG ⟨?o0, ?o1, ?o2, ?o3, ?o4, trivial⟩ ?hend
                case o0 =>
                  intro a w hfr hG hd
                  refine ⟨fun hw => ?_, fun hw => absurd hw (by simp [Region.wanted])⟩
                  have s8 : a.tmps.getD 8 undef = .int .i64 n := hfr.at 8 (by kernel_rfl)
                  refine op_yields (.int .i64 n) ?_ ?_ ?_
                  · simp only [execOp, resolve, List.map_toArray, List.map_cons, List.map_nil, Act.eval, s8]; simp [go_sem, -Array.getD_eq_getD_getElem?, s8]
                  · exact Below.refl _ _
                  · exact (fun _ _ => rfl)
                case o1 =>
                  intro a w hfr hG hd
                  obtain ⟨d0, _⟩ := hd
                  refine ⟨fun hw => ?_, fun hw => absurd hw (by simp [Region.wanted])⟩
                  have s107 : a.tmps.getD 107 undef = .int .i64 n := (d0 rfl).now
                  refine op_calls2 (((HW.out w).mono (fun e' w' hh => show e' = .returned (.int .i64 kk) ∧ Below w.heap.size w w' from ⟨hh.1, hh.2 ▸ Below.refl _ _⟩)).mono fun e' w' hh => ⟨_, hh.1, hh.2, (fun _ _ => rfl)⟩) ?_
                  simp only [execOp, resolve, List.map_toArray, List.map_cons, List.map_nil, Act.eval, s107]; simp [go_sem, -Array.getD_eq_getD_getElem?, s107]
                case o2 =>
                  intro a w hfr hG hd
                  refine ⟨fun hw => ?_, fun hw => absurd hw (by simp [Region.wanted])⟩
                  have s14 : a.tmps.getD 14 undef = .pointer (some ⟨ga, 0, none⟩) := hfr.at 14 (by kernel_rfl)
                  obtain ⟨x0, x1, x2, x3, x4⟩ := blk_cells5 (show Blk w ga 26 [.int .i64 xak, .int .i64 xan, .slice Aa1 xams.length ca1, .slice Aa2 xans.length ca2, .slice Aa3 xaks.length ca3] from hG.now.2.1.blk)
                  refine op_yields (.agg #[.int .i64 xak, .int .i64 xan, .slice Aa1 xams.length ca1, .slice Aa2 xans.length ca2, .slice Aa3 xaks.length ca3]) ?_ ?_ ?_
                  · simp only [execOp, resolve, List.map_toArray, List.map_cons, List.map_nil, Act.eval, s14]; simp [go_sem, -Array.getD_eq_getD_getElem?, s14, x0, x1, x2, x3, x4]
                  · exact Below.refl _ _
                  · exact (fun _ _ => rfl)
                case o3 =>
                  intro a w hfr hG hd
                  refine ⟨fun hw => ?_, fun hw => absurd hw (by simp [Region.wanted])⟩
                  have s15 : a.tmps.getD 15 undef = .pointer (some ⟨gb, 0, none⟩) := hfr.at 15 (by kernel_rfl)
                  obtain ⟨x0, x1, x2, x3, x4⟩ := blk_cells5 (show Blk w gb 26 [.int .i64 xbk, .int .i64 xbn, .slice Ab1 xbms.length cb1, .slice Ab2 xbns.length cb2, .slice Ab3 xbks.length cb3] from hG.now.2.2.blk)
                  refine op_yields (.agg #[.int .i64 xbk, .int .i64 xbn, .slice Ab1 xbms.length cb1, .slice Ab2 xbns.length cb2, .slice Ab3 xbks.length cb3]) ?_ ?_ ?_
                  · simp only [execOp, resolve, List.map_toArray, List.map_cons, List.map_nil, Act.eval, s15]; simp [go_sem, -Array.getD_eq_getD_getElem?, s15, x0, x1, x2, x3, x4]
                  · exact Below.refl _ _
                  · exact (fun _ _ => rfl)
                case o4 =>
                  intro a w hfr hG hd
                  obtain ⟨d0, d1, _⟩ := hd
                  refine ⟨fun hw => ?_, fun hw => absurd hw (by simp [Region.wanted])⟩
                  have s109 : a.tmps.getD 109 undef = .agg #[.int .i64 xak, .int .i64 xan, .slice Aa1 xams.length ca1, .slice Aa2 xans.length ca2, .slice Aa3 xaks.length ca3] := (d0 rfl).now
                  have s110 : a.tmps.getD 110 undef = .agg #[.int .i64 xbk, .int .i64 xbn, .slice Ab1 xbms.length cb1, .slice Ab2 xbns.length cb2, .slice Ab3 xbks.length cb3] := (d1 rfl).now
                  exact op_makes (.slice (some ⟨w.heap.size, 0, none⟩) 2 2) (w' := w.alloc (.cells #[.int .i64 xak, .int .i64 xan, .slice Aa1 xams.length ca1, .slice Aa2 xans.length ca2, .slice Aa3 xaks.length ca3, .int .i64 xbk, .int .i64 xbn, .slice Ab1 xbms.length cb1, .slice Ab2 xbns.length cb2, .slice Ab3 xbks.length cb3] 26)) (by simp only [execOp, resolve, List.map_toArray, List.map_cons, List.map_nil, Act.eval, s109, s110]; simp [go_sem, -Array.getD_eq_getD_getElem?, s109, s110]) ((Below.refl _ _).alloc (Nat.le_refl _) _) (fun W' hW' => ⟨_, rfl, (Blk.mk (heap_alloc_new _ _) : Blk _ _ _ _).below hW' (by simp), hG.now.1.res.lt⟩)
                case hG => exact fun w' hb => ⟨HVb.out.below ((Below.refl _ _).drew.trans (hb.mono (by simp))), HKa.out.below ((Below.refl _ _).drew.trans (hb.mono (by simp))), HKb.out.below ((Below.refl _ _).drew.trans (hb.mono (by simp)))⟩
                case hend =>
                  intro vs w' hG hv
                  have key : vs 1 = .int .i64 kk ∧ ∃ g, vs 4 = .slice (some ⟨g, 0, none⟩) 2 2 ∧ Blk w' g 26 [.int .i64 xak, .int .i64 xan, .slice Aa1 xams.length ca1, .slice Aa2 xans.length ca2, .slice Aa3 xaks.length ca3, .int .i64 xbk, .int .i64 xbn, .slice Ab1 xbms.length cb1, .slice Ab2 xbns.length cb2, .slice Ab3 xbks.length cb3] ∧ b6 < g := by
                    obtain ⟨_, h1, _, _, h4, _⟩ := hv
                    exact ⟨h1.now, h4.now⟩
                  obtain ⟨hvx, hka, hkb⟩ := hG.now
                  have HVX := Lib.hid hvx
                  have HKA := Lib.hid hka
                  have HKB := Lib.hid hkb
                  clear hvx hka hkb hv hG HVb HKa HKb HW
                  obtain ⟨e1, g, e4, hrow, hbg⟩ := key
                  have HR := Lib.hid hrow
                  clear hrow
                  obtain ⟨y0, y1, y2, y3, y4⟩ := blk_cells5 HVX.out.res
                  obtain ⟨z0, z1, z2, z3, z4⟩ := blk_fr5 HVX.out.res
                  have HQ := Lib.hid (set5W_blk HVX.out.res (.int .i64 kk) (.int .i64 0) (.slice none 0 0) (.slice none 0 0) (.slice (some ⟨g, 0, none⟩) 2 2))
                  have HFN := Lib.hid (HVX.out.pair2 (d := d) (i := i) (K := keepV (d + 1)) kk (XE.mk xak xan (.slice Aa1 xams.length ca1) xams (.slice Aa2 xans.length ca2) xans (.slice Aa3 xaks.length ca3) xaks) (XE.mk xbk xbn (.slice Ab1 xbms.length cb1) xbms (.slice Ab2 xbns.length cb2) xbns (.slice Ab3 xbks.length cb3) xbks) (fun g => .inr (.inr (.inl ⟨(by omega : (3 : Int) ≤ kk), (by omega : kk ≤ 16), rfl, rfl, rfl, _, _, rfl, HPa.out, HPb.out⟩))) HR.out hbg (HKA.out.s0 HSa.out.1 HSa.out.2.1) (HKB.out.s0 HSb.out.1 HSb.out.2.1) (by have := HJa.out; have := HJb.out; omega))
                  change wpList _ _ _ [_, _] (putAll vs 0 [_, _, _, _, _] _) _
                  simp only [putAll, Act.put, e1, e4]
                  clear e1 e4 HR
                  go_wp2_with fail
                  obtain ⟨q0, q1, q2, q3, q4⟩ := blk_cells5 HQ.out
                  unfold set5W at q0 q1 q2 q3 q4
                  refine bodyPost_ret (v := (pairX kk g (XE.mk xak xan (.slice Aa1 xams.length ca1) xams (.slice Aa2 xans.length ca2) xans (.slice Aa3 xaks.length ca3) xaks) (XE.mk xbk xbn (.slice Ab1 xbms.length cb1) xbms (.slice Ab2 xbns.length cb2) xbns (.slice Ab3 xbks.length cb3) xbks)).val) (by simp [XE.val, pairX, XE.kd, XE.n, XE.mv, XE.nv, XE.kv, results, Tryz.results16, go_sem, q0, q1, q2, q3, q4]) rfl ?_
                  exact HFN.out
              · --done7
                obtain ⟨c0, c1⟩ := ok_box2 HV2.out
                have HSa := Lib.hid (show w.heap.size ≤ wc.heap.size ∧ b6 < wc.heap.size ∧ b < wc.heap.size from ⟨HV2.out.gr.size, HV2.out.res.lt, HV2.out.at_.lt⟩)
                go_wp2_with fail
                (with_reducible refine (HIH.out (i + 1) _ HV2.out.ok HV2.out.at_ (by have := HI.out; omega) h0).mono ?_); rintro e wa ⟨⟨xak, xan, xamv, xams, xanv, xans, xakv, xaks⟩, ja, he, hkx, hfx, hat, hja, hg⟩
                obtain ⟨Aa1, ca1, Aa2, ca2, Aa3, ca3, e1, e2, e3⟩ := okX_forms hfx.now
                simp only [XE.mv, XE.nv, XE.kv, XE.ms, XE.ns, XE.kids] at e1 e2 e3
                subst e1; subst e2; subst e3
                have he2 : e = .returned (.agg #[.int .i64 xak, .int .i64 xan, .slice Aa1 xams.length ca1, .slice Aa2 xans.length ca2, .slice Aa3 xaks.length ca3]) := he
                subst he2
                have HVa := Lib.hid ((HV2.out.grown hg hat).alloc (.cells #[.int .i64 xak, .int .i64 xan, .slice Aa1 xams.length ca1, .slice Aa2 xans.length ca2, .slice Aa3 xaks.length ca3] 26))
                have HKa := Lib.hid (show Kid d wc.heap.size wa.heap.size (XE.mk xak xan (.slice Aa1 xams.length ca1) xams (.slice Aa2 xans.length ca2) xans (.slice Aa3 xaks.length ca3) xaks) (wa.alloc (.cells #[.int .i64 xak, .int .i64 xan, .slice Aa1 xams.length ca1, .slice Aa2 xans.length ca2, .slice Aa3 xaks.length ca3] 26)) from Kid.made hfx hg.size)
                have HPa := Lib.hid hkx
                have HJa := Lib.hid hja
                clear HV2 c0 c1 he hkx hfx hat hja hg
                go_upto_region 25 with fail
                generalize wa.alloc (.cells #[.int .i64 xak, .int .i64 xan, .slice Aa1 xams.length ca1, .slice Aa2 xans.length ca2, .slice Aa3 xaks.length ca3] 26) = Wa at *
                generalize wa.heap.size = ga at *
                obtain ⟨c0, c1⟩ := ok_box2 HVa.out
                have HSb := Lib.hid (show w.heap.size ≤ Wa.heap.size ∧ b6 < Wa.heap.size ∧ b < Wa.heap.size from ⟨HVa.out.gr.size, HVa.out.res.lt, HVa.out.at_.lt⟩)
                go_wp2_with fail
                (with_reducible refine (HNU.out ja _ HVa.out.ok HVa.out.at_ (by have := HI.out; have := HJa.out; omega) h0).mono ?_); rintro e wb ⟨⟨xbk, xbn, xbmv, xbms, xbnv, xbns, xbkv, xbks⟩, jb, he, hkx, hfx, hat, hjb, hg⟩
                obtain ⟨Ab1, cb1, Ab2, cb2, Ab3, cb3, e1, e2, e3⟩ := okX_forms hfx.now
                simp only [XE.mv, XE.nv, XE.kv, XE.ms, XE.ns, XE.kids] at e1 e2 e3
                subst e1; subst e2; subst e3
                have he2 : e = .returned (.agg #[.int .i64 xbk, .int .i64 xbn, .slice Ab1 xbms.length cb1, .slice Ab2 xbns.length cb2, .slice Ab3 xbks.length cb3]) := he
                subst he2
                have HVb := Lib.hid ((HVa.out.grown hg hat).alloc (.cells #[.int .i64 xbk, .int .i64 xbn, .slice Ab1 xbms.length cb1, .slice Ab2 xbns.length cb2, .slice Ab3 xbks.length cb3] 26))
                have HKb := Lib.hid (show Kid d Wa.heap.size wb.heap.size (XE.mk xbk xbn (.slice Ab1 xbms.length cb1) xbms (.slice Ab2 xbns.length cb2) xbns (.slice Ab3 xbks.length cb3) xbks) (wb.alloc (.cells #[.int .i64 xbk, .int .i64 xbn, .slice Ab1 xbms.length cb1, .slice Ab2 xbns.length cb2, .slice Ab3 xbks.length cb3] 26)) from Kid.made hfx hg.size)
                have HPb := Lib.hid hkx
                have HJb := Lib.hid hjb
                have HKE := Lib.hid ((HKa.out.grown hg HSa.out.2.2).below ((Below.refl wb.heap.size wb).alloc (Nat.le_refl _) (.cells #[.int .i64 xbk, .int .i64 xbn, .slice Ab1 xbms.length cb1, .slice Ab2 xbns.length cb2, .slice Ab3 xbks.length cb3] 26)))
                clear HVa c0 c1 he hkx hfx hat hjb hg HKa
                have HKa := HKE; clear HKE
                go_upto_region 26 with fail
                generalize wb.alloc (.cells #[.int .i64 xbk, .int .i64 xbn, .slice Ab1 xbms.length cb1, .slice Ab2 xbns.length cb2, .slice Ab3 xbks.length cb3] 26) = Wb at *
                generalize wb.heap.size = gb at *
                have HW := Lib.hid (fun V => within_any n 3 7 V HN.out (by omega) (by omega) (by omega))
                obtain ⟨hk1, hk2⟩ := nWithin_in n (lo := 3) (hi := 7) (by omega)
                generalize nWithin n 3 7 = kk at *
                clear HIH HNU h0
                refine wp_region_facts_tail 5 (R := fun a b => Below a.heap.size a b) (G := (fun W => VAt k B b w b3 b6 jb W ∧ Kid d wc.heap.size ga (XE.mk xak xan (.slice Aa1 xams.length ca1) xams (.slice Aa2 xans.length ca2) xans (.slice Aa3 xaks.length ca3) xaks) W ∧ Kid d Wa.heap.size gb (XE.mk xbk xbn (.slice Ab1 xbms.length cb1) xbms (.slice Ab2 xbns.length cb2) xbns (.slice Ab3 xbks.length cb3) xbks) W)) (V := fun i' u' W => match i' with | 0 => u' = .int .i64 n | 1 => u' = .int .i64 kk | 2 => u' = .agg #[.int .i64 xak, .int .i64 xan, .slice Aa1 xams.length ca1, .slice Aa2 xans.length ca2, .slice Aa3 xaks.length ca3] | 3 => u' = .agg #[.int .i64 xbk, .int .i64 xbn, .slice Ab1 xbms.length cb1, .slice Ab2 xbns.length cb2, .slice Ab3 xbks.length cb3] | 4 => ∃ g, u' = .slice (some ⟨g, 0, none⟩) 2 2 ∧ Blk W g 26 [.int .i64 xak, .int .i64 xan, .slice Aa1 xams.length ca1, .slice Aa2 xans.length ca2, .slice Aa3 xaks.length ca3, .int .i64 xbk, .int .i64 xbn, .slice Ab1 xbms.length cb1, .slice Ab2 xbns.length cb2, .slice Ab3 xbks.length cb3] ∧ b6 < g | _ => True) (by kernel_rfl) (fun w => Below.refl _ _) (fun a b c h1 h2 => h1.trans (h2.mono h1.size)) (by kernel_rfl) (by kernel_rfl) (by kernel_rfl) (by kernel_rfl) (by decide) (by kernel_rfl) ?hG ⟨?o0, ?o1, ?o2, ?o3, ?o4, trivial⟩ ?hend
                case o0 =>
                  intro a w hfr hG hd
                  refine ⟨fun hw => ?_, fun hw => absurd hw (by simp [Region.wanted])⟩
                  have s8 : a.tmps.getD 8 undef = .int .i64 n := hfr.at 8 (by kernel_rfl)
                  refine op_yields (.int .i64 n) ?_ ?_ ?_
                  · simp only [execOp, resolve, List.map_toArray, List.map_cons, List.map_nil, Act.eval, s8]; simp [go_sem, -Array.getD_eq_getD_getElem?, s8]
                  · exact Below.refl _ _
                  · exact (fun _ _ => rfl)
                case o1 =>
                  intro a w hfr hG hd
                  obtain ⟨d0, _⟩ := hd
                  refine ⟨fun hw => ?_, fun hw => absurd hw (by simp [Region.wanted])⟩
                  have s125 : a.tmps.getD 125 undef = .int .i64 n := (d0 rfl).now
                  refine op_calls2 (((HW.out w).mono (fun e' w' hh => show e' = .returned (.int .i64 kk) ∧ Below w.heap.size w w' from ⟨hh.1, hh.2 ▸ Below.refl _ _⟩)).mono fun e' w' hh => ⟨_, hh.1, hh.2, (fun _ _ => rfl)⟩) ?_
                  simp only [execOp, resolve, List.map_toArray, List.map_cons, List.map_nil, Act.eval, s125]; simp [go_sem, -Array.getD_eq_getD_getElem?, s125]
                case o2 =>
                  intro a w hfr hG hd
                  refine ⟨fun hw => ?_, fun hw => absurd hw (by simp [Region.wanted])⟩
                  have s16 : a.tmps.getD 16 undef = .pointer (some ⟨ga, 0, none⟩) := hfr.at 16 (by kernel_rfl)
                  obtain ⟨x0, x1, x2, x3, x4⟩ := blk_cells5 (show Blk w ga 26 [.int .i64 xak, .int .i64 xan, .slice Aa1 xams.length ca1, .slice Aa2 xans.length ca2, .slice Aa3 xaks.length ca3] from hG.now.2.1.blk)
                  refine op_yields (.agg #[.int .i64 xak, .int .i64 xan, .slice Aa1 xams.length ca1, .slice Aa2 xans.length ca2, .slice Aa3 xaks.length ca3]) ?_ ?_ ?_
                  · simp only [execOp, resolve, List.map_toArray, List.map_cons, List.map_nil, Act.eval, s16]; simp [go_sem, -Array.getD_eq_getD_getElem?, s16, x0, x1, x2, x3, x4]
                  · exact Below.refl _ _
                  · exact (fun _ _ => rfl)
                case o3 =>
                  intro a w hfr hG hd
                  refine ⟨fun hw => ?_, fun hw => absurd hw (by simp [Region.wanted])⟩
                  have s17 : a.tmps.getD 17 undef = .pointer (some ⟨gb, 0, none⟩) := hfr.at 17 (by kernel_rfl)
                  obtain ⟨x0, x1, x2, x3, x4⟩ := blk_cells5 (show Blk w gb 26 [.int .i64 xbk, .int .i64 xbn, .slice Ab1 xbms.length cb1, .slice Ab2 xbns.length cb2, .slice Ab3 xbks.length cb3] from hG.now.2.2.blk)
                  refine op_yields (.agg #[.int .i64 xbk, .int .i64 xbn, .slice Ab1 xbms.length cb1, .slice Ab2 xbns.length cb2, .slice Ab3 xbks.length cb3]) ?_ ?_ ?_
                  · simp only [execOp, resolve, List.map_toArray, List.map_cons, List.map_nil, Act.eval, s17]; simp [go_sem, -Array.getD_eq_getD_getElem?, s17, x0, x1, x2, x3, x4]
                  · exact Below.refl _ _
                  · exact (fun _ _ => rfl)
                case o4 =>
                  intro a w hfr hG hd
                  obtain ⟨d0, d1, _⟩ := hd
                  refine ⟨fun hw => ?_, fun hw => absurd hw (by simp [Region.wanted])⟩
                  have s127 : a.tmps.getD 127 undef = .agg #[.int .i64 xak, .int .i64 xan, .slice Aa1 xams.length ca1, .slice Aa2 xans.length ca2, .slice Aa3 xaks.length ca3] := (d0 rfl).now
                  have s128 : a.tmps.getD 128 undef = .agg #[.int .i64 xbk, .int .i64 xbn, .slice Ab1 xbms.length cb1, .slice Ab2 xbns.length cb2, .slice Ab3 xbks.length cb3] := (d1 rfl).now
                  exact op_makes (.slice (some ⟨w.heap.size, 0, none⟩) 2 2) (w' := w.alloc (.cells #[.int .i64 xak, .int .i64 xan, .slice Aa1 xams.length ca1, .slice Aa2 xans.length ca2, .slice Aa3 xaks.length ca3, .int .i64 xbk, .int .i64 xbn, .slice Ab1 xbms.length cb1, .slice Ab2 xbns.length cb2, .slice Ab3 xbks.length cb3] 26)) (by simp only [execOp, resolve, List.map_toArray, List.map_cons, List.map_nil, Act.eval, s127, s128]; simp [go_sem, -Array.getD_eq_getD_getElem?, s127, s128]) ((Below.refl _ _).alloc (Nat.le_refl _) _) (fun W' hW' => ⟨_, rfl, (Blk.mk (heap_alloc_new _ _) : Blk _ _ _ _).below hW' (by simp), hG.now.1.res.lt⟩)
                case hG => exact fun w' hb => ⟨HVb.out.below ((Below.refl _ _).drew.trans (hb.mono (by simp))), HKa.out.below ((Below.refl _ _).drew.trans (hb.mono (by simp))), HKb.out.below ((Below.refl _ _).drew.trans (hb.mono (by simp)))⟩
                case hend =>
                  intro vs w' hG hv
                  have key : vs 1 = .int .i64 kk ∧ ∃ g, vs 4 = .slice (some ⟨g, 0, none⟩) 2 2 ∧ Blk w' g 26 [.int .i64 xak, .int .i64 xan, .slice Aa1 xams.length ca1, .slice Aa2 xans.length ca2, .slice Aa3 xaks.length ca3, .int .i64 xbk, .int .i64 xbn, .slice Ab1 xbms.length cb1, .slice Ab2 xbns.length cb2, .slice Ab3 xbks.length cb3] ∧ b6 < g := by
                    obtain ⟨_, h1, _, _, h4, _⟩ := hv
                    exact ⟨h1.now, h4.now⟩
                  obtain ⟨hvx, hka, hkb⟩ := hG.now
                  have HVX := Lib.hid hvx
                  have HKA := Lib.hid hka
                  have HKB := Lib.hid hkb
                  clear hvx hka hkb hv hG HVb HKa HKb HW
                  obtain ⟨e1, g, e4, hrow, hbg⟩ := key
                  have HR := Lib.hid hrow
                  clear hrow
                  obtain ⟨y0, y1, y2, y3, y4⟩ := blk_cells5 HVX.out.res
                  obtain ⟨z0, z1, z2, z3, z4⟩ := blk_fr5 HVX.out.res
                  have HQ := Lib.hid (set5W_blk HVX.out.res (.int .i64 kk) (.int .i64 0) (.slice none 0 0) (.slice none 0 0) (.slice (some ⟨g, 0, none⟩) 2 2))
                  have HFN := Lib.hid (HVX.out.pair2 (d := d) (i := i) (K := keepV (d + 1)) kk (XE.mk xak xan (.slice Aa1 xams.length ca1) xams (.slice Aa2 xans.length ca2) xans (.slice Aa3 xaks.length ca3) xaks) (XE.mk xbk xbn (.slice Ab1 xbms.length cb1) xbms (.slice Ab2 xbns.length cb2) xbns (.slice Ab3 xbks.length cb3) xbks) (fun g => .inr (.inr (.inr (.inl ⟨hk1, hk2, rfl, rfl, rfl, _, _, rfl, HPa.out, HPb.out⟩)))) HR.out hbg (HKA.out.s0 HSa.out.1 HSa.out.2.1) (HKB.out.s0 HSb.out.1 HSb.out.2.1) (by have := HJa.out; have := HJb.out; omega))
                  change wpList _ _ _ [_, _] (putAll vs 0 [_, _, _, _, _] _) _
                  simp only [putAll, Act.put, e1, e4]
                  clear e1 e4 HR
                  go_wp2_with fail
                  obtain ⟨q0, q1, q2, q3, q4⟩ := blk_cells5 HQ.out
                  unfold set5W at q0 q1 q2 q3 q4
                  refine bodyPost_ret (v := (pairX kk g (XE.mk xak xan (.slice Aa1 xams.length ca1) xams (.slice Aa2 xans.length ca2) xans (.slice Aa3 xaks.length ca3) xaks) (XE.mk xbk xbn (.slice Ab1 xbms.length cb1) xbms (.slice Ab2 xbns.length cb2) xbns (.slice Ab3 xbks.length cb3) xbks)).val) (by simp [XE.val, pairX, XE.kd, XE.n, XE.mv, XE.nv, XE.kv, results, Tryz.results16, go_sem, q0, q1, q2, q3, q4]) rfl ?_
                  exact HFN.out
              · --done8
                obtain ⟨c0, c1⟩ := ok_box2 HV2.out
                have HSa := Lib.hid (show w.heap.size ≤ wc.heap.size ∧ b6 < wc.heap.size ∧ b < wc.heap.size from ⟨HV2.out.gr.size, HV2.out.res.lt, HV2.out.at_.lt⟩)
                go_wp2_with fail
                (with_reducible refine (HIH.out (i + 1) _ HV2.out.ok HV2.out.at_ (by have := HI.out; omega) h0).mono ?_); rintro e wa ⟨⟨xak, xan, xamv, xams, xanv, xans, xakv, xaks⟩, ja, he, hkx, hfx, hat, hja, hg⟩
                obtain ⟨Aa1, ca1, Aa2, ca2, Aa3, ca3, e1, e2, e3⟩ := okX_forms hfx.now
                simp only [XE.mv, XE.nv, XE.kv, XE.ms, XE.ns, XE.kids] at e1 e2 e3
                subst e1; subst e2; subst e3
                have he2 : e = .returned (.agg #[.int .i64 xak, .int .i64 xan, .slice Aa1 xams.length ca1, .slice Aa2 xans.length ca2, .slice Aa3 xaks.length ca3]) := he
                subst he2
                have HVa := Lib.hid ((HV2.out.grown hg hat).alloc (.cells #[.int .i64 xak, .int .i64 xan, .slice Aa1 xams.length ca1, .slice Aa2 xans.length ca2, .slice Aa3 xaks.length ca3] 26))
                have HKa := Lib.hid (show Kid d wc.heap.size wa.heap.size (XE.mk xak xan (.slice Aa1 xams.length ca1) xams (.slice Aa2 xans.length ca2) xans (.slice Aa3 xaks.length ca3) xaks) (wa.alloc (.cells #[.int .i64 xak, .int .i64 xan, .slice Aa1 xams.length ca1, .slice Aa2 xans.length ca2, .slice Aa3 xaks.length ca3] 26)) from Kid.made hfx hg.size)
                have HPa := Lib.hid hkx
                have HJa := Lib.hid hja
                clear HV2 c0 c1 he hkx hfx hat hja hg
                go_upto_region 29 with fail
                generalize wa.alloc (.cells #[.int .i64 xak, .int .i64 xan, .slice Aa1 xams.length ca1, .slice Aa2 xans.length ca2, .slice Aa3 xaks.length ca3] 26) = Wa at *
                generalize wa.heap.size = ga at *
                obtain ⟨c0, c1⟩ := ok_box2 HVa.out
                have HSb := Lib.hid (show w.heap.size ≤ Wa.heap.size ∧ b6 < Wa.heap.size ∧ b < Wa.heap.size from ⟨HVa.out.gr.size, HVa.out.res.lt, HVa.out.at_.lt⟩)
                go_wp2_with fail
                (with_reducible refine (HIH.out ja _ HVa.out.ok HVa.out.at_ (by have := HI.out; have := HJa.out; omega) h0).mono ?_); rintro e wb ⟨⟨xbk, xbn, xbmv, xbms, xbnv, xbns, xbkv, xbks⟩, jb, he, hkx, hfx, hat, hjb, hg⟩
                obtain ⟨Ab1, cb1, Ab2, cb2, Ab3, cb3, e1, e2, e3⟩ := okX_forms hfx.now
                simp only [XE.mv, XE.nv, XE.kv, XE.ms, XE.ns, XE.kids] at e1 e2 e3
                subst e1; subst e2; subst e3
                have he2 : e = .returned (.agg #[.int .i64 xbk, .int .i64 xbn, .slice Ab1 xbms.length cb1, .slice Ab2 xbns.length cb2, .slice Ab3 xbks.length cb3]) := he
                subst he2
                have HVb := Lib.hid ((HVa.out.grown hg hat).alloc (.cells #[.int .i64 xbk, .int .i64 xbn, .slice Ab1 xbms.length cb1, .slice Ab2 xbns.length cb2, .slice Ab3 xbks.length cb3] 26))
                have HKb := Lib.hid (show Kid d Wa.heap.size wb.heap.size (XE.mk xbk xbn (.slice Ab1 xbms.length cb1) xbms (.slice Ab2 xbns.length cb2) xbns (.slice Ab3 xbks.length cb3) xbks) (wb.alloc (.cells #[.int .i64 xbk, .int .i64 xbn, .slice Ab1 xbms.length cb1, .slice Ab2 xbns.length cb2, .slice Ab3 xbks.length cb3] 26)) from Kid.made hfx hg.size)
                have HPb := Lib.hid hkx
                have HJb := Lib.hid hjb
                have HKE := Lib.hid ((HKa.out.grown hg HSa.out.2.2).below ((Below.refl wb.heap.size wb).alloc (Nat.le_refl _) (.cells #[.int .i64 xbk, .int .i64 xbn, .slice Ab1 xbms.length cb1, .slice Ab2 xbns.length cb2, .slice Ab3 xbks.length cb3] 26)))
                clear HVa c0 c1 he hkx hfx hat hjb hg HKa
                have HKa := HKE; clear HKE
                go_upto_region 30 with fail
                generalize wb.alloc (.cells #[.int .i64 xbk, .int .i64 xbn, .slice Ab1 xbms.length cb1, .slice Ab2 xbns.length cb2, .slice Ab3 xbks.length cb3] 26) = Wb at *
                generalize wb.heap.size = gb at *
                have HW := Lib.hid (fun V => within_any n 3 7 V HN.out (by omega) (by omega) (by omega))
                obtain ⟨hk1, hk2⟩ := nWithin_in n (lo := 3) (hi := 7) (by omega)
                generalize nWithin n 3 7 = kk at *
                clear HIH HNU h0
                refine wp_region_facts_tail 5 (R := fun a b => Below a.heap.size a b) (G := (fun W => VAt k B b w b3 b6 jb W ∧ Kid d wc.heap.size ga (XE.mk xak xan (.slice Aa1 xams.length ca1) xams (.slice Aa2 xans.length ca2) xans (.slice Aa3 xaks.length ca3) xaks) W ∧ Kid d Wa.heap.size gb (XE.mk xbk xbn (.slice Ab1 xbms.length cb1) xbms (.slice Ab2 xbns.length cb2) xbns (.slice Ab3 xbks.length cb3) xbks) W)) (V := fun i' u' W => match i' with | 0 => u' = .int .i64 n | 1 => u' = .int .i64 kk | 2 => u' = .agg #[.int .i64 xak, .int .i64 xan, .slice Aa1 xams.length ca1, .slice Aa2 xans.length ca2, .slice Aa3 xaks.length ca3] | 3 => u' = .agg #[.int .i64 xbk, .int .i64 xbn, .slice Ab1 xbms.length cb1, .slice Ab2 xbns.length cb2, .slice Ab3 xbks.length cb3] | 4 => ∃ g, u' = .slice (some ⟨g, 0, none⟩) 2 2 ∧ Blk W g 26 [.int .i64 xak, .int .i64 xan, .slice Aa1 xams.length ca1, .slice Aa2 xans.length ca2, .slice Aa3 xaks.length ca3, .int .i64 xbk, .int .i64 xbn, .slice Ab1 xbms.length cb1, .slice Ab2 xbns.length cb2, .slice Ab3 xbks.length cb3] ∧ b6 < g | _ => True) (by kernel_rfl) (fun w => Below.refl _ _) (fun a b c h1 h2 => h1.trans (h2.mono h1.size)) (by kernel_rfl) (by kernel_rfl) (by kernel_rfl) (by kernel_rfl) (by decide) (by kernel_rfl) ?hG ⟨?o0, ?o1, ?o2, ?o3, ?o4, trivial⟩ ?hend
                case o0 =>
                  intro a w hfr hG hd
                  refine ⟨fun hw => ?_, fun hw => absurd hw (by simp [Region.wanted])⟩
                  have s8 : a.tmps.getD 8 undef = .int .i64 n := hfr.at 8 (by kernel_rfl)
                  refine op_yields (.int .i64 n) ?_ ?_ ?_
                  · simp only [execOp, resolve, List.map_toArray, List.map_cons, List.map_nil, Act.eval, s8]; simp [go_sem, -Array.getD_eq_getD_getElem?, s8]
                  · exact Below.refl _ _
                  · exact (fun _ _ => rfl)
                case o1 =>
                  intro a w hfr hG hd
                  obtain ⟨d0, _⟩ := hd
                  refine ⟨fun hw => ?_, fun hw => absurd hw (by simp [Region.wanted])⟩
                  have s143 : a.tmps.getD 143 undef = .int .i64 n := (d0 rfl).now
                  refine op_calls2 (((HW.out w).mono (fun e' w' hh => show e' = .returned (.int .i64 kk) ∧ Below w.heap.size w w' from ⟨hh.1, hh.2 ▸ Below.refl _ _⟩)).mono fun e' w' hh => ⟨_, hh.1, hh.2, (fun _ _ => rfl)⟩) ?_
                  simp only [execOp, resolve, List.map_toArray, List.map_cons, List.map_nil, Act.eval, s143]; simp [go_sem, -Array.getD_eq_getD_getElem?, s143]
                case o2 =>
                  intro a w hfr hG hd
                  refine ⟨fun hw => ?_, fun hw => absurd hw (by simp [Region.wanted])⟩
                  have s18 : a.tmps.getD 18 undef = .pointer (some ⟨ga, 0, none⟩) := hfr.at 18 (by kernel_rfl)
                  obtain ⟨x0, x1, x2, x3, x4⟩ := blk_cells5 (show Blk w ga 26 [.int .i64 xak, .int .i64 xan, .slice Aa1 xams.length ca1, .slice Aa2 xans.length ca2, .slice Aa3 xaks.length ca3] from hG.now.2.1.blk)
                  refine op_yields (.agg #[.int .i64 xak, .int .i64 xan, .slice Aa1 xams.length ca1, .slice Aa2 xans.length ca2, .slice Aa3 xaks.length ca3]) ?_ ?_ ?_
                  · simp only [execOp, resolve, List.map_toArray, List.map_cons, List.map_nil, Act.eval, s18]; simp [go_sem, -Array.getD_eq_getD_getElem?, s18, x0, x1, x2, x3, x4]
                  · exact Below.refl _ _
                  · exact (fun _ _ => rfl)
                case o3 =>
                  intro a w hfr hG hd
                  refine ⟨fun hw => ?_, fun hw => absurd hw (by simp [Region.wanted])⟩
                  have s19 : a.tmps.getD 19 undef = .pointer (some ⟨gb, 0, none⟩) := hfr.at 19 (by kernel_rfl)
                  obtain ⟨x0, x1, x2, x3, x4⟩ := blk_cells5 (show Blk w gb 26 [.int .i64 xbk, .int .i64 xbn, .slice Ab1 xbms.length cb1, .slice Ab2 xbns.length cb2, .slice Ab3 xbks.length cb3] from hG.now.2.2.blk)
                  refine op_yields (.agg #[.int .i64 xbk, .int .i64 xbn, .slice Ab1 xbms.length cb1, .slice Ab2 xbns.length cb2, .slice Ab3 xbks.length cb3]) ?_ ?_ ?_
                  · simp only [execOp, resolve, List.map_toArray, List.map_cons, List.map_nil, Act.eval, s19]; simp [go_sem, -Array.getD_eq_getD_getElem?, s19, x0, x1, x2, x3, x4]
                  · exact Below.refl _ _
                  · exact (fun _ _ => rfl)
                case o4 =>
                  intro a w hfr hG hd
                  obtain ⟨d0, d1, _⟩ := hd
                  refine ⟨fun hw => ?_, fun hw => absurd hw (by simp [Region.wanted])⟩
                  have s145 : a.tmps.getD 145 undef = .agg #[.int .i64 xak, .int .i64 xan, .slice Aa1 xams.length ca1, .slice Aa2 xans.length ca2, .slice Aa3 xaks.length ca3] := (d0 rfl).now
                  have s146 : a.tmps.getD 146 undef = .agg #[.int .i64 xbk, .int .i64 xbn, .slice Ab1 xbms.length cb1, .slice Ab2 xbns.length cb2, .slice Ab3 xbks.length cb3] := (d1 rfl).now
                  exact op_makes (.slice (some ⟨w.heap.size, 0, none⟩) 2 2) (w' := w.alloc (.cells #[.int .i64 xak, .int .i64 xan, .slice Aa1 xams.length ca1, .slice Aa2 xans.length ca2, .slice Aa3 xaks.length ca3, .int .i64 xbk, .int .i64 xbn, .slice Ab1 xbms.length cb1, .slice Ab2 xbns.length cb2, .slice Ab3 xbks.length cb3] 26)) (by simp only [execOp, resolve, List.map_toArray, List.map_cons, List.map_nil, Act.eval, s145, s146]; simp [go_sem, -Array.getD_eq_getD_getElem?, s145, s146]) ((Below.refl _ _).alloc (Nat.le_refl _) _) (fun W' hW' => ⟨_, rfl, (Blk.mk (heap_alloc_new _ _) : Blk _ _ _ _).below hW' (by simp), hG.now.1.res.lt⟩)
                case hG => exact fun w' hb => ⟨HVb.out.below ((Below.refl _ _).drew.trans (hb.mono (by simp))), HKa.out.below ((Below.refl _ _).drew.trans (hb.mono (by simp))), HKb.out.below ((Below.refl _ _).drew.trans (hb.mono (by simp)))⟩
                case hend =>
                  intro vs w' hG hv
                  have key : vs 1 = .int .i64 kk ∧ ∃ g, vs 4 = .slice (some ⟨g, 0, none⟩) 2 2 ∧ Blk w' g 26 [.int .i64 xak, .int .i64 xan, .slice Aa1 xams.length ca1, .slice Aa2 xans.length ca2, .slice Aa3 xaks.length ca3, .int .i64 xbk, .int .i64 xbn, .slice Ab1 xbms.length cb1, .slice Ab2 xbns.length cb2, .slice Ab3 xbks.length cb3] ∧ b6 < g := by
                    obtain ⟨_, h1, _, _, h4, _⟩ := hv
                    exact ⟨h1.now, h4.now⟩
                  obtain ⟨hvx, hka, hkb⟩ := hG.now
                  have HVX := Lib.hid hvx
                  have HKA := Lib.hid hka
                  have HKB := Lib.hid hkb
                  clear hvx hka hkb hv hG HVb HKa HKb HW
                  obtain ⟨e1, g, e4, hrow, hbg⟩ := key
                  have HR := Lib.hid hrow
                  clear hrow
                  obtain ⟨y0, y1, y2, y3, y4⟩ := blk_cells5 HVX.out.res
                  obtain ⟨z0, z1, z2, z3, z4⟩ := blk_fr5 HVX.out.res
                  have HQ := Lib.hid (set5W_blk HVX.out.res (.int .i64 kk) (.int .i64 0) (.slice none 0 0) (.slice none 0 0) (.slice (some ⟨g, 0, none⟩) 2 2))
                  have HFN := Lib.hid (HVX.out.pair2 (d := d) (i := i) (K := keepV (d + 1)) kk (XE.mk xak xan (.slice Aa1 xams.length ca1) xams (.slice Aa2 xans.length ca2) xans (.slice Aa3 xaks.length ca3) xaks) (XE.mk xbk xbn (.slice Ab1 xbms.length cb1) xbms (.slice Ab2 xbns.length cb2) xbns (.slice Ab3 xbks.length cb3) xbks) (fun g => .inr (.inr (.inl ⟨(by omega : (3 : Int) ≤ kk), (by omega : kk ≤ 16), rfl, rfl, rfl, _, _, rfl, HPa.out, HPb.out⟩))) HR.out hbg (HKA.out.s0 HSa.out.1 HSa.out.2.1) (HKB.out.s0 HSb.out.1 HSb.out.2.1) (by have := HJa.out; have := HJb.out; omega))
                  change wpList _ _ _ [_, _] (putAll vs 0 [_, _, _, _, _] _) _
                  simp only [putAll, Act.put, e1, e4]
                  clear e1 e4 HR
                  go_wp2_with fail
                  obtain ⟨q0, q1, q2, q3, q4⟩ := blk_cells5 HQ.out
                  unfold set5W at q0 q1 q2 q3 q4
                  refine bodyPost_ret (v := (pairX kk g (XE.mk xak xan (.slice Aa1 xams.length ca1) xams (.slice Aa2 xans.length ca2) xans (.slice Aa3 xaks.length ca3) xaks) (XE.mk xbk xbn (.slice Ab1 xbms.length cb1) xbms (.slice Ab2 xbns.length cb2) xbns (.slice Ab3 xbks.length cb3) xbks)).val) (by simp [XE.val, pairX, XE.kd, XE.n, XE.mv, XE.nv, XE.kv, results, Tryz.results16, go_sem, q0, q1, q2, q3, q4]) rfl ?_
                  exact HFN.out
              · --done9
                go_upto_region 32 with fail
                go_wp2_with fail
                (with_reducible refine (names_any _).mono ?_); rintro e wn ⟨rfl, hwn⟩
                have HBN := Lib.hid (show Below wc.heap.size wc wn by rw [← hwn]; exact (Below.refl _ _).alloc (Nat.le_refl _) _)
                have HNB := Lib.hid (show Blk wn wc.heap.size 9 (strs keepNames) by rw [← hwn]; exact Blk.mk (heap_alloc_new wc _))
                have HV5 := Lib.hid (HV2.out.below HBN.out)
                have hgb : b6 < wc.heap.size := HV2.out.res.lt
                generalize wc.heap.size = gn at *
                clear hwn HBN HV2
                go_upto_region 33 with fail
                go_loopg [20, 151] 4 (fun g x20 x151 wr => ∃ (q m : Nat) (A : Option Addr) (cx : Nat) (ns : List ByteArray), q + g = 4 ∧ x151 = .int .i64 q ∧ x20 = .slice A m cx ∧ ns.length = m ∧ m ≤ q ∧ List.Sublist ns (keepNames.take q) ∧ wr.ownsRow (gn + 1) 9 1 (.slice A m cx) m (strs ns) ∧ VAt k B b w b3 b6 (i + 1) wr ∧ Blk wr gn 9 (strs keepNames))
                case atStart => exact ⟨0, 0, none, 0, [], by omega, rfl, rfl, rfl, by omega, List.Sublist.refl _, World.ownsRow_nil _ _ _ _, HV5.out, HNB.out⟩
                case round =>
                  obtain ⟨q, m, A, cx, ns, hqg, rfl, rfl, hnl, hmq, hsub, hrow, hat, hbn⟩ := hrel
                  have HRW := Lib.hid hrow
                  have HVR := Lib.hid hat
                  have HBN := Lib.hid hbn
                  have HSU := Lib.hid hsub
                  have HNL := Lib.hid hnl
                  clear hrow hat hbn hsub hnl HV5 HNB
                  cases gk with
                  | zero =>
                    obtain rfl : q = 4 := by omega
                    have HNS := Lib.hid (show keepNs ns from HSU.out)
                    have hsz := HVR.out.gr.size
                    have HVL := Lib.hid HVR.out.lt
                    have hgl := HBN.out.lt
                    have HFN := Lib.hid (show FarS (fun c => c ≤ gn) (fun W => Slc W 1 (.slice A m cx) m (strs ns)) wr from FarS.own HRW.out (fun g hg e => by have := (HRW.out.lt g hg).1; omega))
                    clear HRW HSU HBN hsz
                    obtain ⟨q16, hq16⟩ : ∃ q, n.tdiv 16 = q := ⟨_, rfl⟩
                    have hi16 : I64 q16 := by rw [← hq16]; exact I64_tdiv HN.out (by decide)
                    obtain ⟨hk1, hk2⟩ := nWithin_in q16 (lo := 17) (hi := 20) (by omega)
                    have HW := Lib.hid (fun V => within_any q16 17 20 V hi16 (by omega) (by omega) (by omega))
                    generalize nWithin q16 17 20 = kk at *
                    have w16 : IntKind.i64.wrap q16 = q16 := by unfold I64 at hi16; rw [IntKind.wrap_i64]; omega
                    have h16 : (4 : Int) ≤ ((4 : Nat) : Int) := by omega
                    have hde : IntKind.i64.wrap ((deep : Int) + 1) = (deep : Int) + 1 := by rw [IntKind.wrap_i64]; omega
                    go_upto_region 38 with fail
                    have HDS := Lib.hid (HIH.out (i + 1) wr.drew HVR.out.drew.ok HVR.out.drew.at_ (by have := HI.out; omega) h0)
                    have HDL := Lib.hid (show w.heap.size ≤ wr.drew.heap.size ∧ b6 < wr.drew.heap.size from ⟨HVR.out.gr.size, HVR.out.res.lt⟩)
                    have Z := Lib.hid HVR.out.drew
                    have ZF := Lib.hid (show FarS (fun c => c ≤ gn) (fun W => Slc W 1 (.slice A m cx) m (strs ns)) wr.drew from HFN.out.below (Below.refl _ _).drew)
                    have tok1 : True := trivial
                    have tok2 : True := trivial
                    obtain ⟨c0, c1⟩ := ok_box2 HVR.out
                    clear HVR HFN HIH HNU h0
                    go_region_law (first
                      | (have tk := tok1; (try go_simp); go_at_call 35; (with_reducible refine (HW.out _).mono ?_); rintro e wz ⟨rfl, rfl⟩; clear tok1 tk HW)
                      | (have tk := tok2; (try go_simp); go_at_call 16; (with_reducible refine HDS.out.mono ?_); rintro e wq ⟨⟨xk, xn, xmv, xms, xnv, xns, xkv, xks⟩, j, he, hkx, hfx, hatq, hjq, hgq⟩; obtain ⟨A1, c1, A2, c2, A3, c3, e1, e2, e3⟩ := okX_forms hfx.now; simp only [XE.mv, XE.nv, XE.kv, XE.ms, XE.ns, XE.kids] at e1 e2 e3; subst e1; subst e2; subst e3; have he2 : e = .returned (.agg #[.int .i64 xk, .int .i64 xn, .slice A1 xms.length c1, .slice A2 xns.length c2, .slice A3 xks.length c3]) := he; subst he2; have HKX := Lib.hid hkx; have HFX := Lib.hid hfx; have HJ := Lib.hid hjq; have Z_n := Lib.hid (Z.out.grown hgq hatq); have ZF_n := Lib.hid (ZF.out.grown hgq (fun g hg => by injection hg with hg; have := HVL.out; omega)); clear Z ZF he hkx hfx hjq hatq hgq HDS tok2 tk; have Z := Z_n; have ZF := ZF_n; clear Z_n ZF_n; obtain ⟨y0, y1, y2, y3, y4⟩ := blk_cells5 (Z.out.alloc (.cells #[.int .i64 xk, .int .i64 xn, .slice A1 xms.length c1, .slice A2 xns.length c2, .slice A3 xks.length c3] 26)).res; obtain ⟨z0, z1, z2, z3, z4⟩ := blk_fr5 (Z.out.alloc (.cells #[.int .i64 xk, .int .i64 xn, .slice A1 xms.length c1, .slice A2 xns.length c2, .slice A3 xks.length c3] 26)).res)
                      | fail)
                    all_goals
                      have HQ := Lib.hid (set5W_blk (Z.out.alloc (.cells #[.int .i64 xk, .int .i64 xn, .slice A1 xms.length c1, .slice A2 xns.length c2, .slice A3 xks.length c3] 26)).res (.int .i64 kk) (.int .i64 0) (.slice none 0 0) (.slice A m cx) (.slice (some ⟨wq.heap.size, 0, none⟩) 1 1))
                      have HFN := Lib.hid (Z.out.one (d := d) (i := i) (K := keepV (d + 1)) kk (.mk xk xn (.slice A1 xms.length c1) xms (.slice A2 xns.length c2) xns (.slice A3 xks.length c3) xks) (nv := .slice A m cx) (ns := ns) (fun g => .inr (.inr (.inr (.inr ⟨hk1, hk2, rfl, rfl, HNS.out, _, rfl, HKX.out⟩)))) (by rw [HNL.out]; exact ZF.out.mono (fun c _ hc => by have := HVL.out; rcases hc with hc | hc <;> omega)) (HFX.out.mono (fun c _ hc => by have := HDL.out; rcases hc with hc | hc <;> omega)) (by have := HJ.out; have := HP.out; omega))
                      go_wp2_with fail
                      obtain ⟨q0, q1, q2, q3, q4⟩ := blk_cells5 HQ.out
                      unfold set5W at q0 q1 q2 q3 q4
                      refine bodyPost_ret (v := (oneX kk wq.heap.size (.slice A m cx) ns (.mk xk xn (.slice A1 xms.length c1) xms (.slice A2 xns.length c2) xns (.slice A3 xks.length c3) xks)).val) (by simp [XE.val, oneX, XE.kd, XE.n, XE.mv, XE.nv, XE.kv, results, Tryz.results16, go_sem, q0, q1, q2, q3, q4]) rfl ?_
                      exact HFN.out
                  | succ g =>
                    have hq4 : q < 4 := by omega
                    have hq4i : (q : Int) < 4 := by omega
                    have hq0 : (0 : Int) ≤ q := by omega
                    obtain ⟨nm, hnm⟩ : ∃ nm, keepNames[q]? = some nm := ⟨_, List.getElem?_eq_getElem (show q < keepNames.length from hq4)⟩
                    have e0 : wr.cell? ⟨gn, q, none⟩ = some (.string nm) := by
                      rw [HBN.out.cell q]
                      unfold strs
                      rw [List.getElem?_map, hnm]; rfl
                    have HNM := Lib.hid hnm
                    clear hnm
                    have HTK := Lib.hid (show keepNames.take (q + 1) = keepNames.take q ++ [nm] by rw [List.take_add_one, HNM.out]; rfl)
                    obtain ⟨gb, hgb⟩ : ∃ gb, (bits BinOp.and IntKind.i64 (n / 2 ^ q) 1 == 1) = gb := ⟨_, rfl⟩
                    cases gb with
                    | false =>
                      have HS2 := Lib.hid (show List.Sublist ns (keepNames.take (q + 1)) by rw [HTK.out]; exact HSU.out.trans (List.sublist_append_left _ _))
                      go_wp2_with fail
                      go_roundg g
                      case measure => omega
                      case rel => exact ⟨q + 1, m, A, cx, ns, by omega, by go_num, rfl, HNL.out, by omega, HS2.out, HRW.out, HVR.out, HBN.out⟩
                    | true =>
                      have HS2 := Lib.hid (show List.Sublist (ns ++ [nm]) (keepNames.take (q + 1)) by rw [HTK.out]; exact HSU.out.append (List.Sublist.refl _))
                      obtain ⟨i0, hi0, hz0, hz1, hz2⟩ := info_parts Tryz.infoStr5
                      have HRA := Lib.hid (own_below HRW.out ((Below.refl wr.heap.size wr).alloc (Nat.le_refl _) (.cells #[.string nm] 9)) (Nat.le_refl _))
                      have HVA := Lib.hid (HVR.out.alloc (.cells #[.string nm] 9))
                      have HBA := Lib.hid (HBN.out.alloc (.cells #[.string nm] 9))
                      have HX := Lib.hid (show Sees (wr.alloc (.cells #[.string nm] 9)) (wr.alloc (.cells #[.string nm] 9)).heap.size 1 (some ⟨wr.heap.size, 0, none⟩) 1 [.string nm] from (Blk.mk (heap_alloc_new wr _) : Blk _ wr.heap.size 9 [.string nm]).sees rfl (List.prefix_refl _))
                      have hbs : gn + 1 ≤ (wr.alloc (.cells #[.string nm] 9)).heap.size := Nat.succ_le_of_lt HBA.out.lt
                      have hxg : ∀ g, (Value.slice A m cx).ownBlock = some g → gn + 1 ≤ g := fun g hg => (HRW.out.lt g hg).1
                      have HXG := Lib.hid hxg
                      clear HRW HVR HBN HSU HNM HTK hxg
                      go_wp2_with (at_builtin; refine wpList_append_at rfl (.tmp 161) (.tmp 163) 23 rfl (gn + 1) 9 i0 (.string ⟨#[]⟩) 1 16 Tryz.underlying23 hi0 hz0 hz1 hz2 rfl (by decide) (.slice A m cx) m (strs ns) rfl HRA.out _ _ 1 1 [.string nm] rfl HX.out (by simp [Value.oneCell']) (by unfold maxLen; omega) (by omega) hbs ?_)
                      intro v3 w3 hown3 hgr3 hwh3
                      obtain ⟨A3, c3, rfl, _, _⟩ := own_slice hown3
                      have HO3 := Lib.hid (show w3.ownsRow (gn + 1) 9 1 (.slice A3 (m + 1) c3) (m + 1) (strs (ns ++ [nm])) by unfold strs at hown3 ⊢; rw [List.map_append]; exact hown3)
                      have HV3 := Lib.hid (HVA.out.farRow hgr3 (fun g hg => by have := HXG.out g hg; omega))
                      have HB3 := Lib.hid (HBA.out.grown hgr3 (fun e => by have := HXG.out gn e.symm; omega))
                      have HL3 := Lib.hid (show (ns ++ [nm]).length = m + 1 by rw [List.length_append, HNL.out]; rfl)
                      clear hown3 hgr3 hwh3 HRA HVA HBA HX HNL
                      go_wp2_with fail
                      go_roundg g
                      case measure => omega
                      case rel => exact ⟨q + 1, m + 1, A3, c3, ns ++ [nm], by omega, by go_num, rfl, HL3.out, by omega, HS2.out, HO3.out, HV3.out, HB3.out⟩
theorem vector_any (k : KSet) (b B : Nat) (hB : B ≤ b) (d : Nat) (hd : 0 < d) : VecSaid k b B d := by
  induction d with
  | zero => omega
  | succ d ih => exact vector_step k b B hB d ih
end Go.Proofs.YtcaapbbbekggiaaGreatDoor

namespace Go.Proofs.YtcaapbbbekggiaaGreatDoor
open Go.ChangeShapes Go.WideShapes Go.ChangeAt Go.RowKit
set_option linter.unusedVariables false
set_option linter.unusedSimpArgs false
set_option maxRecDepth 100000
theorem vector_v (k : KSet) (b B i d : Nat) (w : World) (hB : B ≤ b) (hd : d = 5) (hk : k.ok B w) (hb : Blk w b 3 [.int .i64 (i : Nat)]) (hi : i ≤ 900) :
    Calls Tryz.prog 16 #[.agg #[.slice k.A k.n k.c, .slice k.A2 k.n2 k.c2], .pointer (some ⟨b, 0, none⟩), .int .i64 0] w (VecAns 5 b i (keepV 5) w) :=
  vector_any k b B hB 5 (by omega) 0 i w rfl hk hb (by omega) (by omega)
/-- What Expr answers. -/
def ExprAns (w : World) (e : Ending) (w' : World) : Prop := ∃ x : XE, e = .returned x.val ∧ keepV 5 x ∧ okX 5 x w' ∧ Below w.heap.size w w'
set_option maxHeartbeats 2000000 in
theorem expr_any (k : KSet) (w : World) (hk : k.ok w.heap.size w) : Calls Tryz.prog 5 #[k.val] w (ExprAns w) := by
  obtain ⟨W1, hW1⟩ : ∃ W, ((w.alloc (.cells #[.slice k.A k.n k.c, .slice k.A2 k.n2 k.c2] 29)).alloc (.cells #[.int .i64 0, .int .i64 0, .slice none 0 0, .slice none 0 0, .slice none 0 0] 26)).alloc (.cells #[.int .i64 0] 3) = W := ⟨_, rfl⟩
  have hs1 : (w.alloc (.cells #[.slice k.A k.n k.c, .slice k.A2 k.n2 k.c2] 29)).heap.size = w.heap.size + 1 := by simp
  have hs2 : ((w.alloc (.cells #[.slice k.A k.n k.c, .slice k.A2 k.n2 k.c2] 29)).alloc (.cells #[.int .i64 0, .int .i64 0, .slice none 0 0, .slice none 0 0, .slice none 0 0] 26)).heap.size = w.heap.size + 2 := by simp
  have HBL := Lib.hid (show Below w.heap.size w W1 by rw [← hW1]; exact (((Below.refl _ w).alloc (Nat.le_refl _) _).alloc (by omega) _).alloc (by omega) _)
  have HB1 := Lib.hid (show Blk W1 w.heap.size 29 [.slice k.A k.n k.c, .slice k.A2 k.n2 k.c2] by rw [← hW1]; exact ((Blk.mk (heap_alloc_new w (.cells #[.slice k.A k.n k.c, .slice k.A2 k.n2 k.c2] 29))).alloc _).alloc _)
  have HB2 := Lib.hid (show Blk W1 (w.heap.size + 1) 26 [.int .i64 0, .int .i64 0, .slice none 0 0, .slice none 0 0, .slice none 0 0] by
    rw [← hW1]
    have h := heap_alloc_new (w.alloc (.cells #[.slice k.A k.n k.c, .slice k.A2 k.n2 k.c2] 29)) (.cells #[.int .i64 0, .int .i64 0, .slice none 0 0, .slice none 0 0, .slice none 0 0] 26)
    rw [hs1] at h
    exact (Blk.mk h).alloc _)
  have HB3 := Lib.hid (show Blk W1 (w.heap.size + 1 + 1) 3 [.int .i64 ((0 : Nat) : Int)] by
    rw [← hW1]
    have h := heap_alloc_new ((w.alloc (.cells #[.slice k.A k.n k.c, .slice k.A2 k.n2 k.c2] 29)).alloc (.cells #[.int .i64 0, .int .i64 0, .slice none 0 0, .slice none 0 0, .slice none 0 0] 26)) (.cells #[.int .i64 0] 3)
    rw [hs2] at h
    exact Blk.mk h)
  have HK := Lib.hid (hk.below HBL.out)
  have HW1 := Lib.hid hW1
  have HV := Lib.hid (vector_v k (w.heap.size + 1 + 1) w.heap.size 0 5 W1 (by omega) rfl HK.out HB3.out (by omega))
  clear hW1 hs1 hs2 hk
  show Calls _ _ #[.agg #[.slice k.A k.n k.c, .slice k.A2 k.n2 k.c2]] _ _
  go_enter Tryz.func5, Tryz.ntmps5
  go_upto_region 2 with fail
  rw [HW1.out]
  have c0 := HB1.out.cell 0
  have c1 := HB1.out.cell 1
  simp only [List.getElem?_cons_zero, List.getElem?_cons_succ] at c0 c1
  generalize hb : w.heap.size + 1 + 1 = b at *
  have HBB := Lib.hid (show w.heap.size < b by omega)
  have HBE := Lib.hid (show w.heap.size + 1 < b by omega)
  clear hb
  generalize hb2 : w.heap.size + 1 = b2 at *
  have HB2E := Lib.hid hb2
  generalize hb1 : w.heap.size = b1 at *
  have HB1E := Lib.hid hb1
  have hbb : b1 < b2 := by omega
  clear hb2 hb1
  go_wp2_with fail
  (with_reducible refine HV.out.mono ?_); rintro e wq ⟨⟨xk, xn, xmv, xms, xnv, xns, xkv, xks⟩, j, he, hkx, hfx, hatq, hjq, hgq⟩
  obtain ⟨A1, c1', A2, c2, A3, c3, e1, e2, e3⟩ := okX_forms hfx.now
  simp only [XE.mv, XE.nv, XE.kv, XE.ms, XE.ns, XE.kids] at e1 e2 e3
  subst e1; subst e2; subst e3
  have he2 : e = .returned (.agg #[.int .i64 xk, .int .i64 xn, .slice A1 xms.length c1', .slice A2 xns.length c2, .slice A3 xks.length c3]) := he
  subst he2
  have hbl := HB3.out.lt
  have hs1 : b1 ≤ W1.heap.size := by have := HB2.out.lt; omega
  have HBQ := Lib.hid (HBL.out.grown hgq hs1 (fun g hg => by injection hg with hg; have := HBB.out; have := HB1E.out; omega))
  have hne : b2 < W1.heap.size := HB2.out.lt
  have HR := Lib.hid (show Blk wq b2 26 [.int .i64 0, .int .i64 0, .slice none 0 0, .slice none 0 0, .slice none 0 0] from HB2.out.grown hgq (fun e => by injection e with e; have := HBB.out; have := HB2E.out; have := HBE.out; omega))
  have HQ := Lib.hid (set5W_blk HR.out (.int .i64 xk) (.int .i64 xn) (.slice A1 xms.length c1') (.slice A2 xns.length c2) (.slice A3 xks.length c3))
  have HFX := Lib.hid ((hfx.grown (set5W_grown wq b2 (.int .i64 xk) (.int .i64 xn) (.slice A1 xms.length c1') (.slice A2 xns.length c2) (.slice A3 xks.length c3)) (fun c e => by injection e with e; omega)).now)
  have HBZ := Lib.hid (show Below w.heap.size w (set5W wq b2 (.int .i64 xk) (.int .i64 xn) (.slice A1 xms.length c1') (.slice A2 xns.length c2) (.slice A3 xks.length c3)) from by
    rw [HB1E.out]
    have h2 : b1 ≤ b2 := by omega
    exact ((((HBQ.out.setCell (p := ⟨b2, 0, none⟩) h2 _).setCell (p := ⟨b2, 1, none⟩) h2 _).setCell (p := ⟨b2, 2, none⟩) h2 _).setCell (p := ⟨b2, 3, none⟩) h2 _).setCell (p := ⟨b2, 4, none⟩) h2 _)
  have HKX := Lib.hid hkx
  obtain ⟨y0, y1, y2, y3, y4⟩ := blk_cells5 HR.out
  obtain ⟨z0, z1, z2, z3, z4⟩ := blk_fr5 HR.out
  clear he hkx hfx hatq hjq hgq hs1 hbl hne
  go_wp2_with fail
  obtain ⟨q0, q1, q2, q3, q4⟩ := blk_cells5 HQ.out
  unfold set5W at q0 q1 q2 q3 q4
  refine bodyPost_ret (v := (XE.mk xk xn (.slice A1 xms.length c1') xms (.slice A2 xns.length c2) xns (.slice A3 xks.length c3) xks).val) (by simp [XE.val, XE.kd, XE.n, XE.mv, XE.nv, XE.kv, results, Tryz.results5, go_sem, q0, q1, q2, q3, q4]) rfl ?_
  exact ⟨_, rfl, HKX.out, HFX.out, HBZ.out⟩
end Go.Proofs.YtcaapbbbekggiaaGreatDoor

namespace Go.Proofs.YtcaapbbbekggiaaGreatDoor
open Go.ChangeShapes Go.WideShapes Go.ChangeAt Go.RowKit
set_option linter.unusedVariables false
set_option linter.unusedSimpArgs false
set_option maxRecDepth 100000
/-- Within Quote: a row of its own of these bytes. -/
structure QAt (w : World) (A : Option Addr) (n c : Nat) (l : List UInt8) (wx : World) : Prop where
  row : wx.ownsRow w.heap.size 5 1 (.slice A n c) n (Lib.byteCells l)
  len : l.length = n
  bel : Below w.heap.size w wx
theorem QAt.one {w : World} (b : UInt8) (z : Int) (hz : z = b.toNat) : QAt w (some ⟨w.heap.size, 0, none⟩) 1 1 [b] (w.alloc (.cells #[.int .u8 z] 5)) := by
  subst hz
  exact ⟨(Blk.mk (heap_alloc_new w _) : Blk _ w.heap.size 5 [.int .u8 (b.toNat : Int)]).owns (n := 1) (cap := 1) (size := 1) (Nat.le_refl _) (Nat.le_refl _) (by unfold maxLen; omega) rfl, rfl, (Below.refl _ _).alloc (Nat.le_refl _) _⟩
theorem QAt.next {w wx w3 : World} {A A3 : Option Addr} {n c c3 : Nat} {l : List UInt8} {o : Obj} (h : QAt w A n c l wx) (b : UInt8) (hown : w3.ownsRow w.heap.size 5 1 (.slice A3 (n + 1) c3) (n + 1) (Lib.byteCells l ++ Lib.byteCells [b])) (hg : (wx.alloc o).grownBy w3 (Value.slice A n c).ownBlock) : QAt w A3 (n + 1) c3 (l ++ [b]) w3 :=
  ⟨by rw [Lib.byteCells_append]; exact hown, by rw [List.length_append, h.len]; rfl, (h.bel.alloc h.bel.size o).grown hg (Nat.le_trans h.bel.size (by simp)) (fun g hg => (h.row.lt g hg).1)⟩
theorem byte_eq {x : UInt8} {k : Nat} (hk : k < 256) : ((x.toNat : Int) == (k : Int)) = decide (x = UInt8.ofNat k) := by
  rw [Bool.eq_iff_iff, beq_iff_eq, decide_eq_true_iff]
  constructor
  · intro h; exact UInt8.toNat_inj.1 (by rw [UInt8.toNat_ofNat']; omega)
  · intro h; rw [h, UInt8.toNat_ofNat']; omega
theorem escL_snoc (s : ByteArray) (k : Nat) (h : k < s.size) : escL (s.data.toList.take (k + 1)) = escL (s.data.toList.take k) ++ (if escB s[k] then [92, s[k]] else [s[k]]) := by
  rw [take_snoc_b s k h, escL_append, escL_one]
set_option maxHeartbeats 4000000 in
theorem rquote_any (s : ByteArray) (w : World) (hs : s.size ≤ 35184372088832) :
    Calls Tryz.prog 41 #[.string s] w fun e w' => e = .returned (.string ⟨(quoteL s.data.toList).toArray⟩) ∧ Below w.heap.size w w' := by
  obtain ⟨i0, hi0, hz0, hz1, hz2⟩ := info_parts Tryz.infoU8x
  have HQ0 := Lib.hid (QAt.one (w := w) 34 34 rfl)
  go_enter Tryz.func41, Tryz.ntmps41
  go_wp2_with fail
  go_loopg [3, 4] s.size (fun g x3 x4 wr => ∃ (k n : Nat) (A : Option Addr) (c : Nat) (l : List UInt8), k + g = s.size ∧ x4 = .int .i64 k ∧ x3 = .slice A n c ∧ n ≤ 2 * k + 1 ∧ l = 34 :: escL (s.data.toList.take k) ∧ QAt w A n c l wr)
  case atStart => exact ⟨0, 1, _, 1, [34], by omega, rfl, rfl, by omega, rfl, HQ0.out⟩
  case round =>
    obtain ⟨k, n, A, c, l, hkg, rfl, rfl, hn, hl, hat⟩ := hrel
    have HQ := Lib.hid hat
    have HL := Lib.hid hl
    clear hat hl HQ0
    have hws := HQ.out.bel.size
    cases gk with
    | zero =>
      have hk : (s.size : Int) ≤ k := by omega
      have HE := Lib.hid (show l ++ [34] = quoteL s.data.toList by rw [HL.out, List.take_of_length_le (by simp; omega)]; rfl)
      have HOA := Lib.hid (own_below HQ.out.row ((Below.refl wr.heap.size wr).alloc (Nat.le_refl _) (.cells #[.int .u8 34] 5)) (Nat.le_refl _))
      have HX := Lib.hid (show Sees (wr.alloc (.cells #[.int .u8 34] 5)) (wr.alloc (.cells #[.int .u8 34] 5)).heap.size 1 (some ⟨wr.heap.size, 0, none⟩) 1 (Lib.byteCells [34]) from (Blk.mk (heap_alloc_new wr _) : Blk _ wr.heap.size 5 [.int .u8 34]).sees rfl (List.prefix_refl _))
      have hbl : w.heap.size ≤ (wr.alloc (.cells #[.int .u8 34] 5)).heap.size := by simp; omega
      go_upto_region 8 with fail
      go_wp2_with (at_builtin; refine wpList_append_at rfl (.tmp 31) (.tmp 32) 50 rfl w.heap.size 5 i0 (.int .u8 0) 1 1 Tryz.underlying50 hi0 hz0 hz1 hz2 rfl (by decide) _ n (Lib.byteCells l) rfl HOA.out _ _ 1 1 (Lib.byteCells [34]) rfl HX.out (byteCells_one' _) (by unfold maxLen; omega) (by omega) hbl ?_)
      intro v3 w3 hown3 hgr3 hwh3
      obtain ⟨A3, c3, rfl, _, _⟩ := own_slice hown3
      have HZ := Lib.hid (HQ.out.next 34 hown3 hgr3)
      have hcv := conv_own w3 HZ.out.row HZ.out.len
      clear hown3 hgr3 hwh3 HOA HX hbl HQ
      go_wp2_with fail
      go_ret
      exact ⟨by rw [HE.out]; rfl, HZ.out.bel⟩
    | succ g =>
      have hlt : k < s.size := by omega
      have hki : (k : Int) < s.size := by omega
      have HSN := Lib.hid (escL_snoc s k hlt)
      obtain ⟨b, hb⟩ : ∃ b, s[k] = b := ⟨_, rfl⟩
      rw [hb] at HSN
      obtain ⟨q, hq⟩ : ∃ q, escB b = q := ⟨_, rfl⟩
      have HQB := Lib.hid hq
      rw [hq] at HSN
      clear hq
      have HB := Lib.hid hb
      clear hb
      go_upto_region 5 with fail
      go_cut [21] from 12 to 21 (fun x21 wx => x21 = .bool q ∧ QAt w A n c l wx)
      case first =>
        by_cases h34 : b = 34
        · have hq1 : q = true := by rw [← HQB.out, h34]; decide
          have t1 : ((s[k].toNat : Int) == 34) = true := by rw [HB.out, h34]; rfl
          clear h34
          go_wp2_with fail
          go_meet
          exact ⟨by subst hq1; rfl, HQ.out⟩
        · have t1 : ((s[k].toNat : Int) == 34) = false := by
            rw [HB.out, beq_eq_false_iff_ne]; intro e; exact h34 (UInt8.toNat_inj.1 (by have h : b.toNat = 34 := (by omega); rw [h]; rfl))
          by_cases h92 : b = 92
          · have hq1 : q = true := by rw [← HQB.out, h92]; decide
            have t2 : ((s[k].toNat : Int) == 92) = true := by rw [HB.out, h92]; rfl
            clear h34 h92
            go_wp2_with fail
            go_meet
            exact ⟨by subst hq1; rfl, HQ.out⟩
          · have hq1 : q = false := by
              rw [← HQB.out]; unfold escB escN
              rw [decide_eq_false (fun e => h34 (UInt8.toNat_inj.1 (by rw [e]; rfl))), decide_eq_false (fun e => h92 (UInt8.toNat_inj.1 (by rw [e]; rfl)))]; rfl
            have t2 : ((s[k].toNat : Int) == 92) = false := by
              rw [HB.out, beq_eq_false_iff_ne]; intro e; exact h92 (UInt8.toNat_inj.1 (by have h : b.toNat = 92 := (by omega); rw [h]; rfl))
            clear h34 h92
            go_wp2_with fail
            go_meet
            exact ⟨by subst hq1; rfl, HQ.out⟩
      case rest =>
        obtain ⟨rfl, hat⟩ := hcut
        have HQ2 := Lib.hid hat
        clear hat HQ HQB
        go_upto_if 21 with fail
        go_cut [3] from 22 to 24 (fun x3 wx => ∃ (A2 : Option Addr) (n2 c2 : Nat), x3 = .slice A2 n2 c2 ∧ n2 ≤ n + 1 ∧ QAt w A2 n2 c2 (l ++ (if q then [92] else [])) wx)
        case first =>
          cases q with
          | false =>
            go_wp2_with fail
            go_meet
            exact ⟨A, n, c, rfl, by omega, by simpa using HQ2.out⟩
          | true =>
            have HOA := Lib.hid (own_below HQ2.out.row ((Below.refl wc.heap.size wc).alloc (Nat.le_refl _) (.cells #[.int .u8 92] 5)) (Nat.le_refl _))
            have HX := Lib.hid (show Sees (wc.alloc (.cells #[.int .u8 92] 5)) (wc.alloc (.cells #[.int .u8 92] 5)).heap.size 1 (some ⟨wc.heap.size, 0, none⟩) 1 (Lib.byteCells [92]) from (Blk.mk (heap_alloc_new wc _) : Blk _ wc.heap.size 5 [.int .u8 92]).sees rfl (List.prefix_refl _))
            have hbl : w.heap.size ≤ (wc.alloc (.cells #[.int .u8 92] 5)).heap.size := by have := HQ2.out.bel.size; simp; omega
            go_wp2_with (at_builtin; refine wpList_append_at rfl (.tmp 22) (.tmp 23) 50 rfl w.heap.size 5 i0 (.int .u8 0) 1 1 Tryz.underlying50 hi0 hz0 hz1 hz2 rfl (by decide) _ n (Lib.byteCells l) rfl HOA.out _ _ 1 1 (Lib.byteCells [92]) rfl HX.out (byteCells_one' _) (by unfold maxLen; omega) (by omega) hbl ?_)
            intro v3 w3 hown3 hgr3 hwh3
            obtain ⟨A3, c3, rfl, _, _⟩ := own_slice hown3
            have HZ := Lib.hid (HQ2.out.next 92 hown3 hgr3)
            clear hown3 hgr3 hwh3 HOA HX hbl HQ2
            go_wp2_with fail
            go_meet
            exact ⟨A3, n + 1, c3, rfl, by omega, by simpa using HZ.out⟩
        case rest =>
          obtain ⟨A2, n2, c2, rfl, hn2, hat⟩ := hcut
          have HQ3 := Lib.hid hat
          clear hat HQ2
          obtain ⟨l2, hl2⟩ : ∃ l2, l ++ (if q then [92] else []) = l2 := ⟨_, rfl⟩
          have HL2 := Lib.hid hl2
          rw [hl2] at HQ3
          clear hl2
          have HLN := Lib.hid (show l2 ++ [b] = 34 :: escL (s.data.toList.take (k + 1)) by rw [HSN.out, ← HL2.out, HL.out]; cases q <;> simp)
          have HOA := Lib.hid (own_below HQ3.out.row ((Below.refl wc.heap.size wc).alloc (Nat.le_refl _) (.cells #[.int .u8 (s[k].toNat : Int)] 5)) (Nat.le_refl _))
          have HX := Lib.hid (show Sees (wc.alloc (.cells #[.int .u8 (s[k].toNat : Int)] 5)) (wc.alloc (.cells #[.int .u8 (s[k].toNat : Int)] 5)).heap.size 1 (some ⟨wc.heap.size, 0, none⟩) 1 (Lib.byteCells [s[k]]) from (Blk.mk (heap_alloc_new wc _) : Blk _ wc.heap.size 5 [.int .u8 (s[k].toNat : Int)]).sees rfl (List.prefix_refl _))
          have hbl : w.heap.size ≤ (wc.alloc (.cells #[.int .u8 (s[k].toNat : Int)] 5)).heap.size := by have := HQ3.out.bel.size; simp; omega
          go_wp2_with (at_builtin; refine wpList_append_at rfl (.tmp 25) (.tmp 29) 50 rfl w.heap.size 5 i0 (.int .u8 0) 1 1 Tryz.underlying50 hi0 hz0 hz1 hz2 rfl (by decide) _ n2 (Lib.byteCells l2) rfl HOA.out _ _ 1 1 (Lib.byteCells [s[k]]) rfl HX.out (byteCells_one' _) (by unfold maxLen; omega) (by omega) hbl ?_)
          intro v3 w3 hown3 hgr3 hwh3
          obtain ⟨A3, c3, rfl, _, _⟩ := own_slice hown3
          have HZ := Lib.hid (show QAt w A3 (n2 + 1) c3 (l2 ++ [b]) w3 from by rw [← HB.out]; exact HQ3.out.next s[k] hown3 hgr3)
          clear hown3 hgr3 hwh3 HOA HX hbl HQ3
          go_wp2_with fail
          go_roundg g
          case measure => omega
          case rel => exact ⟨k + 1, n2 + 1, A3, c3, _, by omega, by go_num, rfl, by omega, HLN.out, HZ.out⟩
end Go.Proofs.YtcaapbbbekggiaaGreatDoor

namespace Go.Proofs.YtcaapbbbekggiaaGreatDoor
open Go.ChangeShapes Go.WideShapes Go.ChangeAt Go.RowKit
set_option linter.unusedVariables false
set_option linter.unusedSimpArgs false
set_option maxRecDepth 100000
/-- Decimal digits, none of nought. -/
def preD (u : Nat) : List UInt8 := if u = 0 then [] else Lib.decDigits u
theorem decD_step (u : Nat) : Lib.decDigits u = preD (u / 10) ++ [UInt8.ofNat (48 + u % 10)] := by
  by_cases h : u < 10
  · rw [Lib.decDigits, dif_pos h, preD, if_pos (by omega), List.nil_append, Nat.mod_eq_of_lt h]
  · rw [Lib.decDigits, dif_neg h, preD, if_neg (by omega)]
theorem preD_pos {u : Nat} (h : 0 < u) : preD u = Lib.decDigits u := by rw [preD, if_neg (by omega)]
theorem ba_cat (a b : List UInt8) : (⟨a.toArray⟩ : ByteArray) ++ ⟨b.toArray⟩ = ⟨(a ++ b).toArray⟩ := by
  show ByteArray.append _ _ = _
  apply ByteArray.ext
  simp
def NumInv (U u : Nat) (l : List UInt8) : Prop := (l = [] ∧ u = U) ∨ (l ≠ [] ∧ u ≤ U ∧ Lib.decDigits U = preD u ++ l)
theorem NumInv.le {U u : Nat} {l : List UInt8} (h : NumInv U u l) : u ≤ U := by
  rcases h with ⟨_, h⟩ | ⟨_, h, _⟩ <;> omega
theorem decD_len (u : Nat) : (Lib.decDigits u).length = Lib.nDigits u := by
  induction u using Nat.strongRecOn with
  | _ u ih =>
    rw [Lib.decDigits, Lib.nDigits]
    split
    · rfl
    · rw [List.length_append, ih _ (by omega)]; rfl
theorem NumInv.len {U u : Nat} {l : List UInt8} (h : NumInv U u l) (hU : U ≤ 9223372036854775808) : l.length ≤ 20 := by
  rcases h with ⟨h, _⟩ | ⟨_, _, h⟩
  · rw [h]; simp
  · have h1 := congrArg List.length h
    rw [decD_len, List.length_append] at h1
    have := Lib.nDigits_le20 U (by omega)
    omega
theorem NumInv.next {U u : Nat} {l : List UInt8} (h : NumInv U u l) (hu : l = [] ∨ 0 < u) : NumInv U (u / 10) (UInt8.ofNat (48 + u % 10) :: l) := by
  have hl := h.le
  refine .inr ⟨by simp, by omega, ?_⟩
  rcases h with ⟨h1, h2⟩ | ⟨h1, _, h2⟩
  · subst h1; subst h2; exact decD_step u
  · have h3 : 0 < u := hu.resolve_left h1
    rw [h2, preD_pos h3, decD_step u, List.append_assoc]; rfl
set_option maxHeartbeats 4000000 in
theorem rnum_any (n : Int) (w : World) (hn : I64 n) :
    Calls Tryz.prog 18 #[.int .i64 n] w fun e w' => e = .returned (.string ⟨(Lib.itoa n).toArray⟩) ∧ Below w.heap.size w w' := by
  unfold I64 at hn
  obtain ⟨U, hU⟩ : ∃ U, n.natAbs = U := ⟨_, rfl⟩
  have hU2 : U ≤ 9223372036854775808 := by omega
  have HU := Lib.hid hU
  go_enter Tryz.func18, Tryz.ntmps18
  obtain ⟨m, hm⟩ : ∃ m, IntKind.u64.wrap n = m := ⟨_, rfl⟩
  have hm0 : 0 ≤ n → m = (U : Int) := fun h => by rw [← hm]; show n % 18446744073709551616 = _; omega
  have hm1 : n < 0 → IntKind.u64.wrap (-m) = (U : Int) := fun h => by
    have h1 : m = n % 18446744073709551616 := hm.symm
    show (-m) % 18446744073709551616 = _
    omega
  have HM0 := Lib.hid hm0
  have HM1 := Lib.hid hm1
  have HN := Lib.hid hn
  clear hm0 hm1 hU hn
  go_upto_if 8 with fail
  go_cut [3] from 9 to 10 (fun x3 wx => x3 = .int .u64 (U : Nat) ∧ wx = w)
  case first =>
    by_cases h0 : n < 0
    · have h2 := HM1.out h0
      go_wp2_with fail
      go_meet
      exact ⟨rfl, rfl⟩
    · have h1 : 0 ≤ n := by omega
      have HE := Lib.hid (HM0.out h1)
      go_wp2_with fail
      go_meet
      exact ⟨by rw [HE.out], rfl⟩
  case rest =>
    obtain ⟨rfl, hwc⟩ := hcut
    subst hwc
    go_wp2_with fail
    go_loopg [3, 4] (U + 1) (fun g x3 x4 wr => ∃ (u : Nat) (l : List UInt8), u + (if l = [] then 1 else 0) = g ∧ x3 = .int .u64 u ∧ x4 = .string ⟨l.toArray⟩ ∧ NumInv U u l ∧ Below wc.heap.size wc wr)
    case atStart => exact ⟨U, [], by rw [if_pos rfl], rfl, rfl, .inl ⟨rfl, rfl⟩, Below.refl _ _⟩
    case round =>
      obtain ⟨u, l, hug, rfl, rfl, hinv, hbel⟩ := hrel
      have HI := Lib.hid hinv
      have HB := Lib.hid hbel
      have huU := hinv.le
      have hl20 := hinv.len hU2
      clear hinv hbel
      cases l with
      | nil =>
        rw [if_pos rfl] at hug
        obtain ⟨r, hr⟩ : ∃ r, u % 10 = r := ⟨_, rfl⟩
        obtain ⟨q, hq⟩ : ∃ q, u / 10 = q := ⟨_, rfl⟩
        have hr9 : r ≤ 9 := by omega
        obtain ⟨ch, hch⟩ : ∃ ch, UInt8.ofNat (48 + r) = ch := ⟨_, rfl⟩
        have hcn : (48 + (r : Int)) = ch.toNat := by rw [← hch, UInt8.toNat_ofNat']; omega
        have HNX := Lib.hid (show NumInv U q (ch :: []) by rw [← hch, ← hr, ← hq]; exact HI.out.next (.inl rfl))
        have hqg : q < gk := by omega
        have k1 : (u : Int).tmod 10 = (r : Int) := by rw [← hr]; rfl
        have k2 : (u : Int) % 10 = (r : Int) := by omega
        have k3 : (u : Int).tdiv 10 = (q : Int) := by rw [← hq]; rfl
        have k4 : (u : Int) / 10 = (q : Int) := by omega
        have k5 : IntKind.u64.wrap (48 + (r : Int)) = 48 + r := by rw [IntKind.wrap_u64]; omega
        have k6 : IntKind.u8.wrap (48 + (r : Int)) = 48 + r := by show (48 + (r : Int)) % 256 = _; omega
        have k7 : IntKind.u64.wrap (r : Int) = r := by rw [IntKind.wrap_u64]; omega
        have k8 : IntKind.u64.wrap (q : Int) = q := by rw [IntKind.wrap_u64]; omega
        have hcv := conv_at (wr.alloc (.cells #[.int .u8 (48 + (r : Int))] 5)) wr.heap.size ch (48 + (r : Int)) hcn (Blk.mk (heap_alloc_new wr _))
        have HB2 := Lib.hid (HB.out.alloc HB.out.size (.cells #[.int .u8 (48 + (r : Int))] 5))
        have HCT := Lib.hid (show (⟨#[ch]⟩ : ByteArray) ++ ⟨([]).toArray⟩ = ⟨(ch :: []).toArray⟩ from ba_cat [_] _)
        clear hr hq hch hcn
        by_cases h0 : 0 < u
        · have h0i : (0 : Int) < u := by omega
          go_wp2_with fail
          go_roundg q
          case measure => omega
          case rel => exact ⟨q, _, by rw [if_neg (by simp)]; rfl, rfl, by rw [HCT.out], HNX.out, HB2.out⟩
        · have h0i : ¬ (0 : Int) < u := by omega
          go_wp2_with fail
          go_roundg q
          case measure => omega
          case rel => exact ⟨q, _, by rw [if_neg (by simp)]; rfl, rfl, by rw [HCT.out], HNX.out, HB2.out⟩
      | cons a l =>
        rw [if_neg (by simp)] at hug
        by_cases h0 : 0 < u
        · have h0i : (0 : Int) < u := by omega
          obtain ⟨r, hr⟩ : ∃ r, u % 10 = r := ⟨_, rfl⟩
          obtain ⟨q, hq⟩ : ∃ q, u / 10 = q := ⟨_, rfl⟩
          have hr9 : r ≤ 9 := by omega
          obtain ⟨ch, hch⟩ : ∃ ch, UInt8.ofNat (48 + r) = ch := ⟨_, rfl⟩
          have hcn : (48 + (r : Int)) = ch.toNat := by rw [← hch, UInt8.toNat_ofNat']; omega
          have HNX := Lib.hid (show NumInv U q (ch :: (a :: l)) by rw [← hch, ← hr, ← hq]; exact HI.out.next (.inr h0))
          have hqg : q < gk := by omega
          have k1 : (u : Int).tmod 10 = (r : Int) := by rw [← hr]; rfl
          have k2 : (u : Int) % 10 = (r : Int) := by omega
          have k3 : (u : Int).tdiv 10 = (q : Int) := by rw [← hq]; rfl
          have k4 : (u : Int) / 10 = (q : Int) := by omega
          have k5 : IntKind.u64.wrap (48 + (r : Int)) = 48 + r := by rw [IntKind.wrap_u64]; omega
          have k6 : IntKind.u8.wrap (48 + (r : Int)) = 48 + r := by show (48 + (r : Int)) % 256 = _; omega
          have k7 : IntKind.u64.wrap (r : Int) = r := by rw [IntKind.wrap_u64]; omega
          have k8 : IntKind.u64.wrap (q : Int) = q := by rw [IntKind.wrap_u64]; omega
          have hcv := conv_at (wr.alloc (.cells #[.int .u8 (48 + (r : Int))] 5)) wr.heap.size ch (48 + (r : Int)) hcn (Blk.mk (heap_alloc_new wr _))
          have HB2 := Lib.hid (HB.out.alloc HB.out.size (.cells #[.int .u8 (48 + (r : Int))] 5))
          have HCT := Lib.hid (show (⟨#[ch]⟩ : ByteArray) ++ ⟨((a :: l)).toArray⟩ = ⟨(ch :: (a :: l)).toArray⟩ from ba_cat [_] _)
          clear hr hq hch hcn
          have hsz : (⟨(a :: l).toArray⟩ : ByteArray).size ≤ 20 := hl20
          generalize (⟨(a :: l).toArray⟩ : ByteArray) = S at *
          go_wp2_with fail
          go_roundg q
          case measure => omega
          case rel => exact ⟨q, _, by rw [if_neg (by simp)]; rfl, rfl, by rw [HCT.out], HNX.out, HB2.out⟩
        · have hu0 : u = 0 := by omega
          have HU0 := Lib.hid hu0
          have h0i : ¬ (0 : Int) < u := by omega
          clear hug hu0
          have HD := Lib.hid (show Lib.decDigits U = a :: l by
            rcases HI.out with ⟨h, _⟩ | ⟨_, _, h⟩
            · cases h
            · rw [h, HU0.out]; rfl)
          by_cases hneg : n < 0
          · have HE := Lib.hid (show (⟨#[45]⟩ : ByteArray) ++ ⟨(a :: l).toArray⟩ = ⟨(Lib.itoa n).toArray⟩ by
              rw [Lib.itoa, if_pos hneg, HU.out, HD.out]; exact ba_cat [45] _)
            have hsz : (⟨(a :: l).toArray⟩ : ByteArray).size ≤ 20 := hl20
            go_upto_region 8 with fail
            generalize (⟨(a :: l).toArray⟩ : ByteArray) = S at *
            go_wp2_with fail
            go_ret
            exact ⟨by rw [← HE.out]; rfl, HB.out⟩
          · have HE := Lib.hid (show (⟨(a :: l).toArray⟩ : ByteArray) = ⟨(Lib.itoa n).toArray⟩ by
              rw [Lib.itoa, if_neg hneg, show n.toNat = U by have := HU.out; omega, HD.out])
            go_wp2_with fail
            go_ret
            exact ⟨by rw [← HE.out]; rfl, HB.out⟩
end Go.Proofs.YtcaapbbbekggiaaGreatDoor

namespace Go.Proofs.YtcaapbbbekggiaaGreatDoor
open Go.ChangeShapes Go.WideShapes Go.ChangeAt Go.RowKit
set_option linter.unusedVariables false
set_option maxRecDepth 100000
/-- Signs of two, words of one. -/
def opsL : List ByteArray := [⟨#[43]⟩, ⟨#[45]⟩, ⟨#[42]⟩, ⟨#[47]⟩, ⟨#[37]⟩, ⟨#[61, 61]⟩, ⟨#[33, 61]⟩, ⟨#[60]⟩, ⟨#[60, 61]⟩, ⟨#[62]⟩, ⟨#[62, 61]⟩, ⟨#[97, 110, 100]⟩, ⟨#[111, 114]⟩, ⟨#[117, 110, 108, 101, 115, 115]⟩]
def aggsL : List ByteArray := [⟨#[115, 117, 109]⟩, ⟨#[109, 105, 110]⟩, ⟨#[109, 97, 120]⟩, ⟨#[99, 111, 117, 110, 116]⟩]
/-- Names with commas between. -/
def joinN : List ByteArray → List UInt8
  | [] => []
  | x :: l => x.data.toList ++ (if l.isEmpty then [] else 44 :: joinN l)
theorem joinN_snoc (l : List ByteArray) (x : ByteArray) : joinN (l ++ [x]) = joinN l ++ (if l.isEmpty then x.data.toList else 44 :: x.data.toList) := by
  induction l with
  | nil => simp [joinN]
  | cons y l ih =>
    rw [List.cons_append, joinN, joinN, ih]
    cases l <;> simp [joinN]
/-- An expression's text. -/
def printX : Nat → XE → List UInt8
  | 0, _ => []
  | d + 1, x =>
    if x.kd = 1 then Lib.itoa x.n
    else if x.kd = 2 then 123 :: (joinM x.ms ++ (125 :: 91 :: (Lib.itoa x.n ++ [93])))
    else if 17 ≤ x.kd then (aggsL.getD (x.kd - 17).toNat ⟨#[]⟩).data.toList ++ ([32, 98, 121, 32, 40] ++ (joinN x.ns ++ ([41, 32, 40] ++ ((x.kids.head?.map (printX d)).getD [] ++ [41]))))
    else 40 :: ((x.kids.head?.map (printX d)).getD [] ++ (32 :: ((opsL.getD (x.kd - 3).toNat ⟨#[]⟩).data.toList ++ (32 :: ((x.kids[1]?.map (printX d)).getD [] ++ [41])))))
/-- What can be printed: of so many floors, with few matchers and names, short ones. -/
def goodX : Nat → XE → Prop
  | 0, _ => False
  | d + 1, x => 1 ≤ x.kd ∧ x.kd ≤ 20 ∧ I64 x.n ∧ (x.kd = 2 → x.ms.length ≤ 6 ∧ ∀ m ∈ x.ms, m.1.size ≤ 24 ∧ m.2.1.size ≤ 24 ∧ 1 ≤ m.2.2 ∧ m.2.2 ≤ 4)
      ∧ (17 ≤ x.kd → x.ns.length ≤ 6 ∧ (∀ s ∈ x.ns, s.size ≤ 24) ∧ ∃ a, x.kids = [a] ∧ goodX d a)
      ∧ (3 ≤ x.kd → x.kd ≤ 16 → ∃ a b, x.kids = [a, b] ∧ goodX d a ∧ goodX d b)
theorem goodX_more : ∀ (d : Nat) (x : XE), goodX d x → goodX (d + 1) x
  | 0, _, h => h.elim
  | d + 1, x, h => ⟨h.1, h.2.1, h.2.2.1, h.2.2.2.1, fun h16 => by
      obtain ⟨h1, h2, a, e, h3⟩ := h.2.2.2.2.1 h16
      exact ⟨h1, h2, a, e, goodX_more d a h3⟩, fun h3 h15 => by
      obtain ⟨a, b, e, h1, h2⟩ := h.2.2.2.2.2 h3 h15
      exact ⟨a, b, e, goodX_more d a h1, goodX_more d b h2⟩⟩
theorem keepNum_good {x : XE} {d : Nat} {hi : Int} (hhi : hi ≤ 9) (h : x.kd = 1 ∧ -3 ≤ x.n ∧ x.n ≤ hi ∧ x.ms = [] ∧ x.ns = [] ∧ x.kids = []) : goodX (d + 1) x := by
  obtain ⟨h1, h2, h3, h4, h5, h6⟩ := h
  exact ⟨by omega, by omega, by unfold I64; omega, fun e => absurd e (by omega), fun e => absurd e (by omega), fun e => absurd e (by omega)⟩
theorem keepN_pos {d : Nat} {x : XE} (h : keepN d x) : 0 < d := by
  cases d with
  | zero => exact h.elim
  | succ d => omega
theorem keepV_pos {d : Nat} {x : XE} (h : keepV d x) : 0 < d := by
  cases d with
  | zero => exact h.elim
  | succ d => omega
theorem keepN_good : ∀ (d : Nat) (x : XE), keepN d x → goodX d x
  | 0, _, h => h.elim
  | d + 1, x, h => by
    rcases h with h | ⟨h1, h2, h3, h4, h5, a, b, hk, ha, hb⟩
    · exact keepNum_good (by omega) h
    · have hd := keepN_pos hb
      obtain ⟨d', rfl⟩ : ∃ d', d = d' + 1 := ⟨d - 1, by omega⟩
      exact ⟨by omega, by omega, by unfold I64; omega, fun e => absurd e (by omega), fun e => absurd e (by omega), fun _ _ => ⟨a, b, hk, keepNum_good (by omega) ha, keepN_good _ b hb⟩⟩
theorem keepName_size : ∀ a, a < 4 → (keepNames.getD a ⟨#[]⟩).size ≤ 4 := by
  intro a ha
  match a, ha with
  | 0, _ => decide
  | 1, _ => decide
  | 2, _ => decide
  | 3, _ => decide
theorem keepValue_size : ∀ a, a < 8 → (keepValues.getD a ⟨#[]⟩).size ≤ 3 := by
  intro a ha
  match a, ha with
  | 0, _ => decide
  | 1, _ => decide
  | 2, _ => decide
  | 3, _ => decide
  | 4, _ => decide
  | 5, _ => decide
  | 6, _ => decide
  | 7, _ => decide
theorem keepMs_good {ms : List Mtc} (h : keepMs ms) : ms.length ≤ 6 ∧ ∀ m ∈ ms, m.1.size ≤ 24 ∧ m.2.1.size ≤ 24 ∧ 1 ≤ m.2.2 ∧ m.2.2 ≤ 4 := by
  obtain ⟨c, _, h⟩ := h
  have h0 : (⟨#[110, 97, 109, 101]⟩ : ByteArray).size ≤ 24 := by decide
  have h1 : (⟨#[c]⟩ : ByteArray).size ≤ 24 := by show #[c].size ≤ 24; simp
  rcases h with rfl | ⟨a, q, kd, ha, hq, hk1, hk4, rfl⟩
  · refine ⟨by simp, fun m hm => ?_⟩
    rw [List.mem_singleton] at hm; subst hm
    exact ⟨h0, h1, Int.le_refl _, (by decide : (1 : Int) ≤ 4)⟩
  · refine ⟨by simp, fun m hm => ?_⟩
    rw [List.mem_cons, List.mem_singleton] at hm
    rcases hm with rfl | rfl
    · exact ⟨h0, h1, Int.le_refl _, (by decide : (1 : Int) ≤ 4)⟩
    · have h2 := keepName_size a (by omega)
      have h3 := keepValue_size q (by omega)
      exact ⟨by show (keepNames.getD a ⟨#[]⟩).size ≤ 24; omega, by show (keepValues.getD q ⟨#[]⟩).size ≤ 24; omega, hk1, hk4⟩
theorem keepNs_good {ns : List ByteArray} (h : keepNs ns) : ns.length ≤ 4 ∧ ∀ s ∈ ns, s.size ≤ 4 := by
  refine ⟨h.length_le, fun s hs => ?_⟩
  have hm : s ∈ keepNames := h.subset hs
  have : ∀ s ∈ keepNames, s.size ≤ 4 := by decide
  exact this s hm
theorem keepV_good : ∀ (d : Nat) (x : XE), keepV d x → goodX d x
  | 0, _, h => h.elim
  | d + 1, x, h => by
    rcases h with ⟨h1, h2, h3, h4, h5, h6⟩ | ⟨h1, h2, h3, h4, h5, a, b, hk, ha, hb⟩ | ⟨h1, h2, h3, h4, h5, a, b, hk, ha, hb⟩ | ⟨h1, h2, h3, h4, h5, a, b, hk, ha, hb⟩ | ⟨h1, h2, h3, h4, h5, a, hk, ha⟩
    · exact ⟨by omega, by omega, by unfold I64; omega, fun _ => keepMs_good h4, fun e => absurd e (by omega), fun e => absurd e (by omega)⟩
    · have hd := keepV_pos ha
      obtain ⟨d', rfl⟩ : ∃ d', d = d' + 1 := ⟨d - 1, by omega⟩
      exact ⟨by omega, by omega, by unfold I64; omega, fun e => absurd e (by omega), fun e => absurd e (by omega), fun _ _ => ⟨a, b, hk, keepV_good _ a ha, keepNum_good (by omega) hb⟩⟩
    · exact ⟨by omega, by omega, by unfold I64; omega, fun e => absurd e (by omega), fun e => absurd e (by omega), fun _ _ => ⟨a, b, hk, keepV_good _ a ha, keepV_good _ b hb⟩⟩
    · exact ⟨by omega, by omega, by unfold I64; omega, fun e => absurd e (by omega), fun e => absurd e (by omega), fun _ _ => ⟨a, b, hk, keepV_good _ a ha, keepN_good _ b hb⟩⟩
    · have hn := keepNs_good h5
      exact ⟨by omega, by omega, by unfold I64; omega, fun e => absurd e (by omega), fun _ => ⟨by omega, fun s hs => by have := hn.2 s hs; omega, a, hk, keepV_good _ a ha⟩, fun _ e => absurd e (by omega)⟩
theorem printX_two {d : Nat} {x a b : XE} {o : Nat} (h1 : ¬ x.kd = 1) (h2 : ¬ x.kd = 2) (h3 : ¬ 17 ≤ x.kd) (hk : x.kids = [a, b]) (ho : (x.kd - 3).toNat = o) : printX (d + 1) x = 40 :: (printX d a ++ (32 :: ((opsL.getD o ⟨#[]⟩).data.toList ++ (32 :: (printX d b ++ [41]))))) := by
  rw [printX, if_neg h1, if_neg h2, if_neg h3, hk, ho]; rfl
theorem printX_one {d : Nat} {x a : XE} {o : Nat} (h1 : ¬ x.kd = 1) (h2 : ¬ x.kd = 2) (h3 : 17 ≤ x.kd) (hk : x.kids = [a]) (ho : (x.kd - 17).toNat = o) : printX (d + 1) x = (aggsL.getD o ⟨#[]⟩).data.toList ++ ([32, 98, 121, 32, 40] ++ (joinN x.ns ++ ([41, 32, 40] ++ (printX d a ++ [41])))) := by
  rw [printX, if_neg h1, if_neg h2, if_pos h3, hk, ho]; rfl
end Go.Proofs.YtcaapbbbekggiaaGreatDoor

namespace Go.Proofs.YtcaapbbbekggiaaGreatDoor
open Go.ChangeShapes Go.WideShapes Go.ChangeAt Go.RowKit
set_option linter.unusedVariables false
set_option linter.unusedSimpArgs false
set_option maxRecDepth 100000
def signs5 : List ByteArray := [⟨#[]⟩, ⟨#[61]⟩, ⟨#[33, 61]⟩, ⟨#[94, 61]⟩, ⟨#[33, 94]⟩]
theorem signs5_at : ∀ q : Nat, 1 ≤ q → q ≤ 4 → signs5[q]? = some (signF q) := by
  intro q h1 h4
  match q, h1, h4 with
  | 1, _, _ => rfl
  | 2, _, _ => rfl
  | 3, _, _ => rfl
  | 4, _, _ => rfl
theorem signF_size (k : Int) : (signF k).size ≤ 2 := by
  unfold signF
  split
  · decide
  · split
    · decide
    · split
      · decide
      · split <;> decide
/-- A matcher that can be printed. -/
def MtcFits (m : Mtc) : Prop := m.1.size ≤ 24 ∧ m.2.1.size ≤ 24 ∧ 1 ≤ m.2.2 ∧ m.2.2 ≤ 4
theorem ba_len (a : ByteArray) : a.data.toList.length = a.size := by simp
theorem mtcL_len {m : Mtc} (h : MtcFits m) : (mtcL m).length ≤ 76 := by
  unfold mtcL
  rw [List.length_append, List.length_append, ba_len, ba_len]
  have h1 := h.1
  have h2 := quoteL_length_le m.2.1.data.toList
  rw [ba_len] at h2
  have h3 := h.2.1
  have h4 := signF_size m.2.2
  omega
theorem joinM_len : ∀ {l : List Mtc}, (∀ m ∈ l, MtcFits m) → (joinM l).length ≤ 77 * l.length
  | [], _ => by simp [joinM]
  | x :: l, h => by
    have h1 := mtcL_len (h x List.mem_cons_self)
    have h2 := joinM_len (l := l) (fun m hm => h m (List.mem_cons_of_mem _ hm))
    unfold joinM
    rw [List.length_append, List.length_cons]
    split
    · simp; omega
    · rw [List.length_cons]; omega
/-- Within matchers' loop. -/
structure MsAt (w0 : World) (gs : Nat) (A : Option Addr) (n : Nat) (l : List Mtc) (w : World) : Prop where
  sg : Blk w gs 9 (strs signs5)
  ms : Sees w w0.heap.size 3 A n (mtcs l)
  bel : Below w0.heap.size w0 w
theorem MsAt.below {w0 w w' : World} {gs : Nat} {A : Option Addr} {n : Nat} {l : List Mtc} (h : MsAt w0 gs A n l w) (hb : Below w.heap.size w w') : MsAt w0 gs A n l w' :=
  ⟨h.sg.below hb h.sg.lt, h.ms.below (hb.mono h.bel.size), h.bel.trans (hb.mono h.bel.size)⟩
set_option maxHeartbeats 4000000 in
theorem rmatchers_any (A : Option Addr) (n c : Nat) (l : List Mtc) (w : World) (h : Sees w w.heap.size 3 A n (mtcs l)) (hl6 : l.length ≤ 6) (hok : ∀ m ∈ l, MtcFits m) :
    Calls Tryz.prog 19 #[.slice A n c] w fun e w' => e = .returned (.string ⟨(123 :: (joinM l ++ [125])).toArray⟩) ∧ Below w.heap.size w w' := by
  have hln := h.mtc_len
  have HOK := Lib.hid hok
  have HLN := Lib.hid hln
  have hn6 : n ≤ 6 := by omega
  have HM0 := Lib.hid (show MsAt w w.heap.size A n l (w.alloc (.cells (strs signs5).toArray 9)) from ⟨Blk.mk (heap_alloc_new w _), h.alloc (Nat.le_refl _) _, (Below.refl _ _).alloc (Nat.le_refl _) _⟩)
  clear hok hln h hl6
  go_enter Tryz.func19, Tryz.ntmps19
  go_upto_region 3 with fail
  obtain ⟨W1, hW1⟩ : ∃ W, w.alloc (.cells (strs signs5).toArray 9) = W := ⟨_, rfl⟩
  rw [hW1] at HM0
  rw [show w.alloc (Obj.cells #[Value.string ⟨#[]⟩, Value.string ⟨#[61]⟩, Value.string ⟨#[33, 61]⟩, Value.string ⟨#[94, 61]⟩, Value.string ⟨#[33, 94]⟩] 9) = W1 from hW1]
  clear hW1
  obtain ⟨gs, hgs⟩ : ∃ g, w.heap.size = g := ⟨_, rfl⟩
  have HGS := Lib.hid hgs
  have HM1 := Lib.hid (show MsAt w gs A n l W1 from hgs ▸ HM0.out)
  rw [show (⟨w.heap.size, 0, none⟩ : Addr) = ⟨gs, 0, none⟩ by rw [hgs]]
  clear hgs HM0
  go_wp2_with fail
  go_loopg [4, 10] n (fun g x4 x10 wr => ∃ (k : Nat) (S : ByteArray), k + g = n ∧ x10 = .int .i64 k ∧ x4 = .string S ∧ Hid (S = ⟨(123 :: joinM (l.take k)).toArray⟩) ∧ MsAt w gs A n l wr)
  case atStart => exact ⟨0, ⟨#[123]⟩, by omega, rfl, rfl, Lib.hid rfl, HM1.out⟩
  case round =>
    obtain ⟨k, S, hkg, rfl, rfl, HS, hat⟩ := hrel
    have HM := Lib.hid hat
    clear hat HM1
    have hsz : S.size ≤ 463 := by
      have h1 := HS.out
      have h2 : S.size = 1 + (joinM (l.take k)).length := by rw [h1]; show (123 :: joinM (l.take k)).toArray.size = _; simp; omega
      have h3 := joinM_len (l := l.take k) (fun m hm => HOK.out m (List.mem_of_mem_take hm))
      rw [List.length_take] at h3
      omega
    cases gk with
    | zero =>
      have hk : ¬ (k : Int) < n := by omega
      have HE := Lib.hid (show S ++ ⟨#[125]⟩ = ⟨(123 :: (joinM l ++ [125])).toArray⟩ by
        rw [HS.out, List.take_of_length_le (by have := HLN.out; omega)]
        exact ba_cat (123 :: joinM l) [125])
      go_wp2_with fail
      go_ret
      exact ⟨by rw [← HE.out]; rfl, HM.out.bel⟩
    | succ g =>
      have hlt : k < n := by omega
      obtain ⟨ad, hkl, hA, e0, e1, e2⟩ := HM.out.ms.mtc hlt
      have hf := HOK.out _ (List.getElem_mem hkl)
      have HSN := Lib.hid (show joinM (l.take (k + 1)) = joinM (l.take k) ++ (if (l.take k).isEmpty then mtcL l[k] else 44 :: mtcL l[k]) by rw [List.take_succ_eq_append_getElem hkl]; exact joinM_snoc _ _)
      generalize l[k] = x at *
      obtain ⟨na, bb, kd⟩ := x
      obtain ⟨h1, h2, h3, h4⟩ := hf
      simp only at h1 h2 h3 h4 e0 e1 e2
      obtain ⟨q, rfl⟩ := Int.eq_ofNat_of_zero_le (show 0 ≤ kd by omega)
      have HAX := Lib.hid hA
      subst hA
      have hal := World.block_lt_of_cell? wr _ e0
      have HBX := Lib.hid (Blk.mk (heap_alloc_new wr (.cells #[.string na, .string bb, .int .i64 q] 57)) : Blk _ wr.heap.size 57 [.string na, .string bb, .int .i64 q])
      have HM2 := Lib.hid (HM.out.below ((Below.refl wr.heap.size wr).alloc (Nat.le_refl _) (.cells #[.string na, .string bb, .int .i64 q] 57)))
      go_upto_region 6 with fail
      clear e0 e1 e2 hal HAX HM
      generalize wr.alloc (.cells #[.string na, .string bb, .int .i64 q] 57) = W2 at *
      generalize wr.heap.size = bx at *
      obtain ⟨p, hpd⟩ : ∃ p : Bool, decide (0 < k) = p := ⟨_, rfl⟩
      go_upto_if 16 with fail
      have HPD := Lib.hid hpd
      clear hpd
      go_cut [4] from 17 to 18 (fun x4 wx => ∃ S2 : ByteArray, x4 = .string S2 ∧ Hid (S2 = ⟨(123 :: (joinM (l.take k) ++ (if (l.take k).isEmpty then [] else [44]))).toArray⟩) ∧ S2.size ≤ 464 ∧ wx = W2)
      case first =>
        cases p with
        | false =>
          have HE := Lib.hid (show (l.take k).isEmpty = true by rw [show k = 0 by have := of_decide_eq_false HPD.out; omega]; rfl)
          go_wp2_with fail
          go_meet
          exact ⟨S, rfl, Lib.hid (by rw [HS.out, HE.out]; simp), by omega, rfl⟩
        | true =>
          have HE := Lib.hid (show (l.take k).isEmpty = false by
            have hk0 := of_decide_eq_true HPD.out
            cases l with
            | nil => exact absurd hkl (by simp)
            | cons y l =>
              cases k with
              | zero => exact absurd hk0 (by omega)
              | succ k => rfl)
          have HS2 := Lib.hid (show S ++ ⟨#[44]⟩ = ⟨(123 :: (joinM (l.take k) ++ (if (l.take k).isEmpty then [] else [44]))).toArray⟩ by rw [HE.out, HS.out]; exact ba_cat _ [44])
          have hs2 : (S ++ (⟨#[44]⟩ : ByteArray)).size ≤ 464 := by rw [ByteArray.size_append]; show S.size + 1 ≤ 464; omega
          have HS2S := Lib.hid hs2
          clear hs2
          go_wp2_with fail
          go_meet
          exact ⟨_, rfl, Lib.hid HS2.out, HS2S.out, rfl⟩
      case rest =>
        obtain ⟨S2, rfl, HS2, hs2, hwc⟩ := hcut
        subst hwc
        have HSQ := Lib.hid (signs5_at q (by omega) (by omega))
        have hsg := signF_size (q : Int)
        have HQT := Lib.hid (fun V => rquote_any bb V (by omega))
        have hql := quoteL_length_le bb.data.toList
        rw [ba_len] at hql
        have HJ := Lib.hid (show ((S2 ++ na) ++ signF q) ++ ⟨(quoteL bb.data.toList).toArray⟩ = ⟨(123 :: joinM (l.take (k + 1))).toArray⟩ by
          rw [HSN.out, HS2.out]
          have e1 : na = ⟨na.data.toList.toArray⟩ := by cases na; simp
          have e2 : signF q = ⟨(signF q).data.toList.toArray⟩ := by generalize signF q = z; cases z; simp
          conv => lhs; rw [e1, e2]
          rw [ba_cat, ba_cat, ba_cat]
          unfold mtcL
          cases (l.take k).isEmpty <;> simp)
        generalize signF (q : Int) = sg at *
        have hqz : (⟨(quoteL bb.data.toList).toArray⟩ : ByteArray).size ≤ 50 := by show (quoteL bb.data.toList).toArray.size ≤ 50; simp; omega
        generalize (⟨(quoteL bb.data.toList).toArray⟩ : ByteArray) = Q at *
        have l1 : ¬ (9223372036854775807 < S2.size + na.size) := by omega
        have l2 : ¬ (9223372036854775807 < (S2 ++ na).size + sg.size) := by rw [ByteArray.size_append]; omega
        have l3 : ¬ (9223372036854775807 < ((S2 ++ na) ++ sg).size + Q.size) := by rw [ByteArray.size_append, ByteArray.size_append]; omega
        have l4 : ¬ (9223372036854775807 < S2.size + na.size + sg.size) := by omega
        have l5 : ¬ (9223372036854775807 < S2.size + na.size + sg.size + Q.size) := by omega
        have q0 : (0 : Int) ≤ q := by omega
        have q5 : (q : Int) < 5 := by omega
        go_upto_region 8 with fail
        refine wp_region_facts (R := fun a b => Below a.heap.size a b) (G := (fun W => MsAt w gs (some ad) n l W ∧ Blk W bx 57 [.string na, .string bb, .int .i64 q])) (V := fun i' u' W => match i' with | 0 => u' = .string S2 | 1 => u' = .pointer (some ⟨bx, 0, none⟩) | 2 => u' = .string na | 3 => u' = .string (S2 ++ na) | 4 => u' = .slice (some ⟨gs, 0, none⟩) 5 5 | 5 => u' = .pointer (some ⟨bx, 2, none⟩) | 6 => u' = .int .i64 q | 7 => u' = .pointer (some ⟨gs, q, none⟩) | 8 => u' = .string sg | 9 => u' = .string ((S2 ++ na) ++ sg) | 10 => u' = .pointer (some ⟨bx, 1, none⟩) | 11 => u' = .string bb | 12 => u' = .string Q | 13 => u' = .string (((S2 ++ na) ++ sg) ++ Q) | 14 => u' = .string (((S2 ++ na) ++ sg) ++ Q) | _ => True) (by kernel_rfl) (fun w => Below.refl _ _) (fun a b c h1 h2 => h1.trans (h2.mono h1.size)) (by kernel_rfl) (by kernel_rfl) ?hG ⟨?o0, ?o1, ?o2, ?o3, ?o4, ?o5, ?o6, ?o7, ?o8, ?o9, ?o10, ?o11, ?o12, ?o13, ?o14, trivial⟩ ?hend
        case o0 =>
          intro a w hfr hG hd
          refine ⟨fun hw => ?_, fun hw => absurd hw (by simp [Region.wanted])⟩
          have s4 : a.tmps.getD 4 undef = .string S2 := hfr.at 4 (by kernel_rfl)
          refine op_yields (.string S2) ?_ ?_ ?_
          · simp only [execOp, resolve, List.map_toArray, List.map_cons, List.map_nil, Act.eval, s4]; simp [go_sem, -Array.getD_eq_getD_getElem?, s4]
          · exact Below.refl _ _
          · exact (fun _ _ => rfl)
        case o1 =>
          intro a w hfr hG hd
          refine ⟨fun hw => ?_, fun hw => absurd hw (by simp [Region.wanted])⟩
          have s6 : a.tmps.getD 6 undef = .pointer (some ⟨bx, 0, none⟩) := hfr.at 6 (by kernel_rfl)
          refine op_yields (.pointer (some ⟨bx, 0, none⟩)) ?_ ?_ ?_
          · simp only [execOp, resolve, List.map_toArray, List.map_cons, List.map_nil, Act.eval, s6]; simp [go_sem, -Array.getD_eq_getD_getElem?, s6]
          · exact Below.refl _ _
          · exact (fun _ _ => rfl)
        case o2 =>
          intro a w hfr hG hd
          obtain ⟨d0, _⟩ := hd
          refine ⟨fun hw => ?_, fun hw => absurd hw (by simp [Region.wanted])⟩
          have s20 : a.tmps.getD 20 undef = .pointer (some ⟨bx, 0, none⟩) := (d0 rfl).now
          have c0 := hG.now.2.cell 0; simp only [List.getElem?_cons_zero, List.getElem?_cons_succ] at c0
          refine op_yields (.string na) ?_ ?_ ?_
          · simp only [execOp, resolve, List.map_toArray, List.map_cons, List.map_nil, Act.eval, s20]; simp [go_sem, -Array.getD_eq_getD_getElem?, s20, c0]
          · exact Below.refl _ _
          · exact (fun _ _ => rfl)
        case o3 =>
          intro a w hfr hG hd
          obtain ⟨d0, d1, _⟩ := hd
          refine ⟨fun hw => ?_, fun hw => absurd hw (by simp [Region.wanted])⟩
          have s19 : a.tmps.getD 19 undef = .string S2 := (d0 rfl).now
          have s21 : a.tmps.getD 21 undef = .string na := (d1 rfl).now
          refine op_yields (.string (S2 ++ na)) ?_ ?_ ?_
          · simp only [execOp, resolve, List.map_toArray, List.map_cons, List.map_nil, Act.eval, s19, s21]; simp [go_sem, -Array.getD_eq_getD_getElem?, s19, s21, l1]
          · exact Below.refl _ _
          · exact (fun _ _ => rfl)
        case o4 =>
          intro a w hfr hG hd
          refine ⟨fun hw => ?_, fun hw => absurd hw (by simp [Region.wanted])⟩
          have s3 : a.tmps.getD 3 undef = .slice (some ⟨gs, 0, none⟩) 5 5 := hfr.at 3 (by kernel_rfl)
          refine op_yields (.slice (some ⟨gs, 0, none⟩) 5 5) ?_ ?_ ?_
          · simp only [execOp, resolve, List.map_toArray, List.map_cons, List.map_nil, Act.eval, s3]; simp [go_sem, -Array.getD_eq_getD_getElem?, s3]
          · exact Below.refl _ _
          · exact (fun _ _ => rfl)
        case o5 =>
          intro a w hfr hG hd
          refine ⟨fun hw => ?_, fun hw => absurd hw (by simp [Region.wanted])⟩
          have s6 : a.tmps.getD 6 undef = .pointer (some ⟨bx, 0, none⟩) := hfr.at 6 (by kernel_rfl)
          refine op_yields (.pointer (some ⟨bx, 2, none⟩)) ?_ ?_ ?_
          · simp only [execOp, resolve, List.map_toArray, List.map_cons, List.map_nil, Act.eval, s6]; simp [go_sem, -Array.getD_eq_getD_getElem?, s6]
          · exact Below.refl _ _
          · exact (fun _ _ => rfl)
        case o6 =>
          intro a w hfr hG hd
          obtain ⟨d0, _⟩ := hd
          refine ⟨fun hw => ?_, fun hw => absurd hw (by simp [Region.wanted])⟩
          have s24 : a.tmps.getD 24 undef = .pointer (some ⟨bx, 2, none⟩) := (d0 rfl).now
          have c2 := hG.now.2.cell 2; simp only [List.getElem?_cons_zero, List.getElem?_cons_succ] at c2
          refine op_yields (.int .i64 q) ?_ ?_ ?_
          · simp only [execOp, resolve, List.map_toArray, List.map_cons, List.map_nil, Act.eval, s24]; simp [go_sem, -Array.getD_eq_getD_getElem?, s24, c2]
          · exact Below.refl _ _
          · exact (fun _ _ => rfl)
        case o7 =>
          intro a w hfr hG hd
          obtain ⟨d0, d1, _⟩ := hd
          refine ⟨fun hw => ?_, fun hw => absurd hw (by simp [Region.wanted])⟩
          have s23 : a.tmps.getD 23 undef = .slice (some ⟨gs, 0, none⟩) 5 5 := (d0 rfl).now
          have s25 : a.tmps.getD 25 undef = .int .i64 q := (d1 rfl).now
          refine op_yields (.pointer (some ⟨gs, q, none⟩)) ?_ ?_ ?_
          · simp only [execOp, resolve, List.map_toArray, List.map_cons, List.map_nil, Act.eval, s23, s25]; simp [go_sem, -Array.getD_eq_getD_getElem?, s23, s25, q0, q5]
          · exact Below.refl _ _
          · exact (fun _ _ => rfl)
        case o8 =>
          intro a w hfr hG hd
          obtain ⟨d0, _⟩ := hd
          refine ⟨fun hw => ?_, fun hw => absurd hw (by simp [Region.wanted])⟩
          have s26 : a.tmps.getD 26 undef = .pointer (some ⟨gs, q, none⟩) := (d0 rfl).now
          have cq : w.cell? ⟨gs, q, none⟩ = some (.string sg) := by rw [hG.now.1.sg.cell q]; unfold strs; rw [List.getElem?_map, HSQ.out]; rfl
          refine op_yields (.string sg) ?_ ?_ ?_
          · simp only [execOp, resolve, List.map_toArray, List.map_cons, List.map_nil, Act.eval, s26]; simp [go_sem, -Array.getD_eq_getD_getElem?, s26, cq]
          · exact Below.refl _ _
          · exact (fun _ _ => rfl)
        case o9 =>
          intro a w hfr hG hd
          obtain ⟨d0, d1, _⟩ := hd
          refine ⟨fun hw => ?_, fun hw => absurd hw (by simp [Region.wanted])⟩
          have s22 : a.tmps.getD 22 undef = .string (S2 ++ na) := (d0 rfl).now
          have s27 : a.tmps.getD 27 undef = .string sg := (d1 rfl).now
          refine op_yields (.string ((S2 ++ na) ++ sg)) ?_ ?_ ?_
          · simp only [execOp, resolve, List.map_toArray, List.map_cons, List.map_nil, Act.eval, s22, s27]; simp [go_sem, -Array.getD_eq_getD_getElem?, s22, s27, l2, l4]
          · exact Below.refl _ _
          · exact (fun _ _ => rfl)
        case o10 =>
          intro a w hfr hG hd
          refine ⟨fun hw => ?_, fun hw => absurd hw (by simp [Region.wanted])⟩
          have s6 : a.tmps.getD 6 undef = .pointer (some ⟨bx, 0, none⟩) := hfr.at 6 (by kernel_rfl)
          refine op_yields (.pointer (some ⟨bx, 1, none⟩)) ?_ ?_ ?_
          · simp only [execOp, resolve, List.map_toArray, List.map_cons, List.map_nil, Act.eval, s6]; simp [go_sem, -Array.getD_eq_getD_getElem?, s6]
          · exact Below.refl _ _
          · exact (fun _ _ => rfl)
        case o11 =>
          intro a w hfr hG hd
          obtain ⟨d0, _⟩ := hd
          refine ⟨fun hw => ?_, fun hw => absurd hw (by simp [Region.wanted])⟩
          have s29 : a.tmps.getD 29 undef = .pointer (some ⟨bx, 1, none⟩) := (d0 rfl).now
          have c1 := hG.now.2.cell 1; simp only [List.getElem?_cons_zero, List.getElem?_cons_succ] at c1
          refine op_yields (.string bb) ?_ ?_ ?_
          · simp only [execOp, resolve, List.map_toArray, List.map_cons, List.map_nil, Act.eval, s29]; simp [go_sem, -Array.getD_eq_getD_getElem?, s29, c1]
          · exact Below.refl _ _
          · exact (fun _ _ => rfl)
        case o12 =>
          intro a w hfr hG hd
          obtain ⟨d0, _⟩ := hd
          refine ⟨fun hw => ?_, fun hw => absurd hw (by simp [Region.wanted])⟩
          have s30 : a.tmps.getD 30 undef = .string bb := (d0 rfl).now
          refine op_calls2 ((HQT.out w).mono fun e' w' hh => ⟨_, hh.1, hh.2, (fun _ _ => rfl)⟩) ?_
          simp only [execOp, resolve, List.map_toArray, List.map_cons, List.map_nil, Act.eval, s30]; simp [go_sem, -Array.getD_eq_getD_getElem?, s30]
        case o13 =>
          intro a w hfr hG hd
          obtain ⟨d0, d1, _⟩ := hd
          refine ⟨fun hw => ?_, fun hw => absurd hw (by simp [Region.wanted])⟩
          have s28 : a.tmps.getD 28 undef = .string ((S2 ++ na) ++ sg) := (d0 rfl).now
          have s31 : a.tmps.getD 31 undef = .string Q := (d1 rfl).now
          refine op_yields (.string (((S2 ++ na) ++ sg) ++ Q)) ?_ ?_ ?_
          · simp only [execOp, resolve, List.map_toArray, List.map_cons, List.map_nil, Act.eval, s28, s31]; simp [go_sem, -Array.getD_eq_getD_getElem?, s28, s31, l3, l5]
          · exact Below.refl _ _
          · exact (fun _ _ => rfl)
        case o14 =>
          intro a w hfr hG hd
          obtain ⟨d0, d1, d2, d3, d4, d5, d6, d7, d8, d9, d10, d11, d12, d13, d14, d15, _⟩ := hd
          refine ⟨fun hw => ?_, fun hw => absurd hw (by simp [Region.wanted])⟩
          have s32 : a.tmps.getD 32 undef = .string (((S2 ++ na) ++ sg) ++ Q) := (d0 rfl).now
          refine op_yields (.string (((S2 ++ na) ++ sg) ++ Q)) ?_ ?_ ?_
          · simp only [execOp, resolve, List.map_toArray, List.map_cons, List.map_nil, Act.eval, s32]; simp [go_sem, -Array.getD_eq_getD_getElem?, s32]
          · exact Below.refl _ _
          · exact (fun _ _ => rfl)
        case hG => exact fun w' hb => ⟨HM2.out.below ((Below.refl _ _).drew.trans (hb.mono (by simp))), HBX.out.below ((Below.refl _ _).drew.trans (hb.mono (by simp))) HBX.out.lt⟩
        case hend =>
          intro vs w' hG hv
          have key : vs 13 = .string (((S2 ++ na) ++ sg) ++ Q) ∧ vs 14 = .string (((S2 ++ na) ++ sg) ++ Q) := by
            obtain ⟨_, _, _, _, _, _, _, _, _, _, _, _, _, h13, h14, _⟩ := hv
            exact ⟨h13.now, h14.now⟩
          have HM3 := Lib.hid hG.now.1
          clear hv hG HM2 HBX HQT
          rw [HJ.out] at key
          obtain ⟨S3, hS3⟩ : ∃ S3, (⟨(123 :: joinM (l.take (k + 1))).toArray⟩ : ByteArray) = S3 := ⟨_, rfl⟩
          rw [hS3] at key
          have HS3 := Lib.hid hS3.symm
          clear hS3 HJ
          simp only [putAll, Act.put, key.1, key.2]
          clear key
          go_wp2_with fail
          go_roundg g
          case measure => omega
          case rel => exact ⟨k + 1, S3, by omega, by go_num, rfl, HS3, HM3.out⟩
end Go.Proofs.YtcaapbbbekggiaaGreatDoor

namespace Go.Proofs.YtcaapbbbekggiaaGreatDoor
open Go.ChangeShapes Go.WideShapes Go.ChangeAt Go.RowKit
set_option linter.unusedVariables false
set_option linter.unusedSimpArgs false
set_option maxRecDepth 100000
theorem raggs_any (w : World) : Calls Tryz.prog 20 #[] w fun e w' => e = .returned (.slice (some ⟨w.heap.size, 0, none⟩) 4 4) ∧ Below w.heap.size w w' ∧ Blk w' w.heap.size 9 (strs aggsL) := by
  go_enter Tryz.func20, Tryz.ntmps20
  go_wp2_with fail
  go_ret
  exact ⟨rfl, (Below.refl _ _).alloc (Nat.le_refl _) _, Blk.mk (heap_alloc_new w _)⟩
theorem rops_any (w : World) : Calls Tryz.prog 21 #[] w fun e w' => e = .returned (.slice (some ⟨w.heap.size, 0, none⟩) 14 14) ∧ Below w.heap.size w w' ∧ Blk w' w.heap.size 9 (strs opsL) := by
  go_enter Tryz.func21, Tryz.ntmps21
  go_wp2_with fail
  go_ret
  exact ⟨rfl, (Below.refl _ _).alloc (Nat.le_refl _) _, Blk.mk (heap_alloc_new w _)⟩
theorem joinN_len : ∀ {l : List ByteArray}, (∀ s ∈ l, s.size ≤ 24) → (joinN l).length ≤ 25 * l.length
  | [], _ => by simp [joinN]
  | x :: l, h => by
    have h1 := h x List.mem_cons_self
    have h2 := joinN_len (l := l) (fun m hm => h m (List.mem_cons_of_mem _ hm))
    unfold joinN
    rw [List.length_append, List.length_cons, ba_len]
    split
    · simp; omega
    · rw [List.length_cons]; omega
theorem itoa_len {n : Int} (h : I64 n) : (Lib.itoa n).length ≤ 21 := by
  unfold I64 at h
  exact Lib.itoa_length_le n h.1 h.2
theorem opsL_size : ∀ q : Nat, (opsL.getD q ⟨#[]⟩).size ≤ 6 := by
  intro q
  by_cases h : q < 14
  · have : ∀ q : Fin 14, (opsL.getD q ⟨#[]⟩).size ≤ 6 := by decide
    exact this ⟨q, h⟩
  · rw [List.getD_eq_getElem?_getD, List.getElem?_eq_none (show opsL.length ≤ q by show 14 ≤ q; omega)]; decide
theorem aggsL_size : ∀ q : Nat, (aggsL.getD q ⟨#[]⟩).size ≤ 5 := by
  intro q
  by_cases h : q < 4
  · have : ∀ q : Fin 4, (aggsL.getD q ⟨#[]⟩).size ≤ 5 := by decide
    exact this ⟨q, h⟩
  · rw [List.getD_eq_getElem?_getD, List.getElem?_eq_none (show aggsL.length ≤ q by show 4 ≤ q; omega)]; decide
theorem printX_len : ∀ (d : Nat) (x : XE), goodX d x → (printX d x).length + 50 ≤ 500 * 2 ^ (d + 1)
  | 0, _, h => h.elim
  | d + 1, x, h => by
    obtain ⟨h1, h20, hn, h2, h17, h3⟩ := h
    have hp := two_pow' d
    unfold printX
    have hi := itoa_len hn
    split
    · omega
    · split
      · next hk =>
        obtain ⟨g1, g2⟩ := h2 hk
        have := joinM_len (l := x.ms) g2
        simp only [List.length_cons, List.length_append, List.length_nil]
        omega
      · split
        · next hk =>
          obtain ⟨g1, g2, a, e, g3⟩ := h17 hk
          have k1 := printX_len d a g3
          have k2 := joinN_len (l := x.ns) g2
          have k3 := aggsL_size (x.kd - 17).toNat
          rw [e]
          simp only [List.length_cons, List.length_append, List.length_nil, List.head?_cons, Option.map_some, Option.getD_some, ba_len]
          omega
        · next hk1 hk2 hk =>
          obtain ⟨a, b, e, g1, g2⟩ := h3 (by omega) (by omega)
          have k1 := printX_len d a g1
          have k2 := printX_len d b g2
          have k3 := opsL_size (x.kd - 3).toNat
          rw [e]
          simp only [List.length_cons, List.length_append, List.length_nil, List.head?_cons, Option.map_some, Option.getD_some, ba_len, List.getElem?_cons_succ, List.getElem?_cons_zero]
          omega
where
  two_pow' (d : Nat) : 2 ^ (d + 1 + 1) = 2 ^ (d + 1) + 2 ^ (d + 1) ∧ 2 ≤ 2 ^ (d + 1) := by
    have h1 : 2 ^ (d + 1 + 1) = 2 ^ (d + 1) * 2 := Nat.pow_succ ..
    have h2 : 2 ^ (d + 1) = 2 ^ d * 2 := Nat.pow_succ ..
    have h3 : 1 ≤ 2 ^ d := Nat.one_le_two_pow
    omega
def PrintSaid (d : Nat) : Prop := ∀ (x : XE) (w : World), okX d x w → goodX d x → Calls Tryz.prog 7 #[x.val] w fun e w' => e = .returned (.string ⟨(printX d x).toArray⟩) ∧ Below w.heap.size w w'
theorem pick_cat (a n : List UInt8) : (⟨a.toArray⟩ : ByteArray) ++ ⟨#[91]⟩ ++ ⟨n.toArray⟩ ++ ⟨#[93]⟩ = ⟨(a ++ ([91] ++ (n ++ [93]))).toArray⟩ := by
  apply ByteArray.ext; simp
theorem two_cat (a b : List UInt8) (o : ByteArray) : (⟨#[40]⟩ : ByteArray) ++ ⟨a.toArray⟩ ++ ⟨#[32]⟩ ++ o ++ ⟨#[32]⟩ ++ ⟨b.toArray⟩ ++ ⟨#[41]⟩ = ⟨(40 :: (a ++ (32 :: (o.data.toList ++ (32 :: (b ++ [41])))))).toArray⟩ := by
  apply ByteArray.ext; simp
theorem agg_cat (o : ByteArray) (n a : List UInt8) : (⟨(o.data.toList ++ ([32, 98, 121, 32, 40] ++ n)).toArray⟩ : ByteArray) ++ ⟨#[41, 32, 40]⟩ ++ ⟨a.toArray⟩ ++ ⟨#[41]⟩ = ⟨(o.data.toList ++ ([32, 98, 121, 32, 40] ++ (n ++ ([41, 32, 40] ++ (a ++ [41]))))).toArray⟩ := by
  apply ByteArray.ext; simp
theorem kid_cells0 {V : World} {ad : Addr} {u0 u1 u2 u3 u4 : Value} {r : List Value} (h : ∀ j u, (u0 :: u1 :: u2 :: u3 :: u4 :: r)[j]? = some u → V.cell? (ad.add j) = some u) :
    V.cell? ad = some u0 ∧ V.cell? ⟨ad.block, ad.off + 1, none⟩ = some u1 ∧ V.cell? ⟨ad.block, ad.off + 2, none⟩ = some u2 ∧ V.cell? ⟨ad.block, ad.off + 3, none⟩ = some u3 ∧ V.cell? ⟨ad.block, ad.off + 4, none⟩ = some u4 := by
  have h0 := h 0 _ rfl
  rw [add_zero'] at h0
  have hs : ∀ j, 0 < j → (⟨ad.block, ad.off + j, none⟩ : Addr) = ad.add j := fun j hj => by
    have := add_spelt ad 0 j hj
    rwa [add_zero', Nat.zero_add] at this
  exact ⟨h0, by rw [hs 1 (by omega)]; exact h 1 _ rfl, by rw [hs 2 (by omega)]; exact h 2 _ rfl, by rw [hs 3 (by omega)]; exact h 3 _ rfl, by rw [hs 4 (by omega)]; exact h 4 _ rfl⟩
theorem kid_cells5 {V : World} {ad : Addr} {a0 a1 a2 a3 a4 u0 u1 u2 u3 u4 : Value} (h : ∀ j u, [a0, a1, a2, a3, a4, u0, u1, u2, u3, u4][j]? = some u → V.cell? (ad.add j) = some u) :
    V.cell? ⟨ad.block, ad.off + 5, none⟩ = some u0 ∧ V.cell? ⟨ad.block, ad.off + 5 + 1, none⟩ = some u1 ∧ V.cell? ⟨ad.block, ad.off + 5 + 2, none⟩ = some u2 ∧ V.cell? ⟨ad.block, ad.off + 5 + 3, none⟩ = some u3 ∧ V.cell? ⟨ad.block, ad.off + 5 + 4, none⟩ = some u4 := by
  have hs : ∀ j, 0 < j → (⟨ad.block, ad.off + j, none⟩ : Addr) = ad.add j := fun j hj => by
    have := add_spelt ad 0 j hj
    rwa [add_zero', Nat.zero_add] at this
  exact ⟨by rw [hs 5 (by omega)]; exact h 5 _ rfl, by rw [Nat.add_assoc, hs _ (by omega)]; exact h 6 _ rfl, by rw [Nat.add_assoc, hs _ (by omega)]; exact h 7 _ rfl, by rw [Nat.add_assoc, hs _ (by omega)]; exact h 8 _ rfl, by rw [Nat.add_assoc, hs _ (by omega)]; exact h 9 _ rfl⟩
/-- Within Print: the expression in its box. -/
structure PrAt (w0 : World) (d b : Nat) (kd n : Int) (mv nv kv : Value) (ms : List Mtc) (ns : List ByteArray) (ks : List XE) (w : World) : Prop where
  box : Blk w b 26 [.int .i64 kd, .int .i64 n, mv, nv, kv]
  m : Slc w 3 mv ms.length (mtcs ms)
  n_ : Slc w 1 nv ns.length (strs ns)
  k : Slc w 5 kv ks.length (kcells ks)
  kids : ∀ q ∈ ks, okX d q w
  bel : Below w0.heap.size w0 w
theorem PrAt.below {w0 w w' : World} {d b : Nat} {kd n : Int} {mv nv kv : Value} {ms : List Mtc} {ns : List ByteArray} {ks : List XE} (h : PrAt w0 d b kd n mv nv kv ms ns ks w) (hb : Below w.heap.size w w') : PrAt w0 d b kd n mv nv kv ms ns ks w' :=
  ⟨h.box.below hb h.box.lt, h.m.below hb, h.n_.below hb, h.k.below hb, fun q hq => okX_below hb d q (h.kids q hq), h.bel.trans (hb.mono h.bel.size)⟩
set_option maxHeartbeats 8000000 in
theorem print_step (d : Nat) (hd : d ≤ 20) (IH : PrintSaid d) : PrintSaid (d + 1) := by
  intro x w hok hgood
  have hplen := printX_len (d + 1) x hgood
  have hpow : 2 ^ (d + 1 + 1) ≤ 2 ^ 22 := Nat.pow_le_pow_right (by omega) (by omega)
  obtain ⟨kd, n, mv, ms, nv, ns, kv, ks⟩ := x
  obtain ⟨⟨A1, c1, e1, hm1, hm2, hm3⟩, ⟨A2, c2, e2, hn1, hn2, hn3⟩, ⟨A3, c3, e3, hk1, hk2, hk3⟩, hkids⟩ := hok
  obtain ⟨g1, g20, gn, gm, ga, gt⟩ := hgood
  simp only [XE.mv, XE.nv, XE.kv, XE.ms, XE.ns, XE.kids, XE.kd, XE.n] at *
  subst e1; subst e2; subst e3
  have hP0 := Lib.hid (show PrAt w d w.heap.size kd n (.slice A1 ms.length c1) (.slice A2 ns.length c2) (.slice A3 ks.length c3) ms ns ks (w.alloc (.cells #[.int .i64 kd, .int .i64 n, .slice A1 ms.length c1, .slice A2 ns.length c2, .slice A3 ks.length c3] 26)) from by
    have hb := (Below.refl w.heap.size w).alloc (Nat.le_refl _) (.cells #[.int .i64 kd, .int .i64 n, .slice A1 ms.length c1, .slice A2 ns.length c2, .slice A3 ks.length c3] 26)
    exact ⟨Blk.mk (heap_alloc_new w _), Slc.below ⟨A1, c1, rfl, hm1, hm2, hm3⟩ hb, Slc.below ⟨A2, c2, rfl, hn1, hn2, hn3⟩ hb, Slc.below ⟨A3, c3, rfl, hk1, hk2, hk3⟩ hb, fun q hq => okX_below hb d q (hkids q hq), hb⟩)
  clear hm1 hm2 hm3 hn1 hn2 hn3 hk1 hk2 hk3 hkids
  obtain ⟨b, hb⟩ : ∃ b, w.heap.size = b := ⟨_, rfl⟩
  have HB := Lib.hid hb
  have HP := Lib.hid (show PrAt w d b kd n (.slice A1 ms.length c1) (.slice A2 ns.length c2) (.slice A3 ks.length c3) ms ns ks (w.alloc (.cells #[.int .i64 kd, .int .i64 n, .slice A1 ms.length c1, .slice A2 ns.length c2, .slice A3 ks.length c3] 26)) from hb ▸ hP0.out)
  clear hb hP0
  have HGM := Lib.hid gm
  have HGA := Lib.hid ga
  have HGT := Lib.hid gt
  have HLEN := Lib.hid hplen
  have HPOW := Lib.hid hpow
  clear gm ga gt hplen hpow
  obtain ⟨T, hT⟩ : ∃ T, (⟨(printX (d + 1) (.mk kd n (.slice A1 ms.length c1) ms (.slice A2 ns.length c2) ns (.slice A3 ks.length c3) ks)).toArray⟩ : ByteArray) = T := ⟨_, rfl⟩
  have HT := Lib.hid hT
  rw [hT]
  clear hT
  show Calls _ _ #[.agg #[.int .i64 kd, .int .i64 n, .slice A1 ms.length c1, .slice A2 ns.length c2, .slice A3 ks.length c3]] _ _
  go_enter Tryz.func7, Tryz.ntmps7
  go_upto_region 1 with fail
  rw [HB.out]
  generalize w.alloc (.cells #[.int .i64 kd, .int .i64 n, .slice A1 ms.length c1, .slice A2 ns.length c2, .slice A3 ks.length c3] 26) = W1 at *
  obtain ⟨x0, x1, x2, x3, x4⟩ := blk_cells5 HP.out.box
  by_cases h1 : kd = 1
  · have t1 : (kd == 1) = true := by rw [h1]; rfl
    have HE := Lib.hid (show (⟨(Lib.itoa n).toArray⟩ : ByteArray) = T by rw [← HT.out]; unfold printX; rw [if_pos (by exact h1)]; rfl)
    clear h1
    go_wp2_with fail
    (with_reducible refine (rnum_any n W1 gn).mono ?_); rintro e wq ⟨rfl, hbq⟩
    go_wp2_with fail
    go_ret
    exact ⟨by rw [← HE.out]; rfl, HP.out.bel.trans (hbq.mono HP.out.bel.size)⟩
  · have t1 : (kd == 1) = false := by rw [beq_eq_false_iff_ne]; exact h1
    by_cases h2 : kd = 2
    · have t2 : (kd == 2) = true := by rw [h2]; rfl
      obtain ⟨hm6, hmf⟩ := HGM.out h2
      have HE := Lib.hid (show (⟨(123 :: (joinM ms ++ [125])).toArray⟩ : ByteArray) ++ ⟨#[91]⟩ ++ ⟨(Lib.itoa n).toArray⟩ ++ ⟨#[93]⟩ = T by
        rw [← HT.out]; unfold printX
        rw [if_neg (by exact h1), if_pos (by exact h2), pick_cat]
        simp [XE.ms, XE.n])
      have HMT := Lib.hid (fun V (h : PrAt w d b kd n (.slice A1 ms.length c1) (.slice A2 ns.length c2) (.slice A3 ks.length c3) ms ns ks V) => rmatchers_any A1 ms.length c1 ms V h.m.sees hm6 hmf)
      have HNT := Lib.hid (fun V => rnum_any n V gn)
      have hs1 : (⟨(123 :: (joinM ms ++ [125])).toArray⟩ : ByteArray).size ≤ 600 := by
        have := joinM_len hmf
        show (123 :: (joinM ms ++ [125])).toArray.size ≤ 600
        simp; omega
      have hs2 : (⟨(Lib.itoa n).toArray⟩ : ByteArray).size ≤ 21 := by
        have := itoa_len gn
        show (Lib.itoa n).toArray.size ≤ 21
        simpa using this
      generalize (⟨(123 :: (joinM ms ++ [125])).toArray⟩ : ByteArray) = S1 at *
      generalize (⟨(Lib.itoa n).toArray⟩ : ByteArray) = S2 at *
      have l1 : ¬ (9223372036854775807 < S1.size + (⟨#[91]⟩ : ByteArray).size) := by show ¬ (9223372036854775807 < S1.size + 1); omega
      have l1' : ¬ (9223372036854775807 < S1.size + 1) := by omega
      have l2 : ¬ (9223372036854775807 < S1.size + 1 + S2.size) := by omega
      have l3 : ¬ (9223372036854775807 < S1.size + 1 + S2.size + 1) := by omega
      clear h1 h2 hm6 hmf HGM
      go_upto_region 4 with fail
      refine wp_region_facts (R := fun a b => Below a.heap.size a b) (G := (fun W => PrAt w d b kd n (.slice A1 ms.length c1) (.slice A2 ns.length c2) (.slice A3 ks.length c3) ms ns ks W)) (V := fun i' u' W => match i' with | 0 => u' = .pointer (some ⟨b, 2, none⟩) | 1 => u' = .slice A1 ms.length c1 | 2 => u' = .string S1 | 3 => u' = .string (S1 ++ ⟨#[91]⟩) | 4 => u' = .pointer (some ⟨b, 1, none⟩) | 5 => u' = .int .i64 n | 6 => u' = .string S2 | 7 => u' = .string (S1 ++ ⟨#[91]⟩ ++ S2) | 8 => u' = .string (S1 ++ ⟨#[91]⟩ ++ S2 ++ ⟨#[93]⟩) | 9 => u' = .string (S1 ++ ⟨#[91]⟩ ++ S2 ++ ⟨#[93]⟩) | _ => True) (by kernel_rfl) (fun w => Below.refl _ _) (fun a b c h1 h2 => h1.trans (h2.mono h1.size)) (by kernel_rfl) (by kernel_rfl) ?hG ⟨?o0, ?o1, ?o2, ?o3, ?o4, ?o5, ?o6, ?o7, ?o8, ?o9, trivial⟩ ?hend
      case o0 =>
        intro a w hfr hG hd
        refine ⟨fun hw => ?_, fun hw => absurd hw (by simp [Region.wanted])⟩
        have s1 : a.tmps.getD 1 undef = .pointer (some ⟨b, 0, none⟩) := hfr.at 1 (by kernel_rfl)
        refine op_yields (.pointer (some ⟨b, 2, none⟩)) ?_ ?_ ?_
        · simp only [execOp, resolve, List.map_toArray, List.map_cons, List.map_nil, Act.eval, s1]; simp [go_sem, -Array.getD_eq_getD_getElem?, s1]
        · exact Below.refl _ _
        · exact (fun _ _ => rfl)
      case o1 =>
        intro a w hfr hG hd
        obtain ⟨d0, _⟩ := hd
        refine ⟨fun hw => ?_, fun hw => absurd hw (by simp [Region.wanted])⟩
        have s17 : a.tmps.getD 17 undef = .pointer (some ⟨b, 2, none⟩) := (d0 rfl).now
        have z2 := hG.now.box.cell 2; simp only [List.getElem?_cons_zero, List.getElem?_cons_succ] at z2
        refine op_yields (.slice A1 ms.length c1) ?_ ?_ ?_
        · simp only [execOp, resolve, List.map_toArray, List.map_cons, List.map_nil, Act.eval, s17]; simp [go_sem, -Array.getD_eq_getD_getElem?, s17, z2]
        · exact Below.refl _ _
        · exact (fun _ _ => rfl)
      case o2 =>
        intro a w hfr hG hd
        obtain ⟨d0, _⟩ := hd
        refine ⟨fun hw => ?_, fun hw => absurd hw (by simp [Region.wanted])⟩
        have s18 : a.tmps.getD 18 undef = .slice A1 ms.length c1 := (d0 rfl).now
        refine op_calls2 ((HMT.out w hG.now).mono fun e' w' hh => ⟨_, hh.1, hh.2, (fun _ _ => rfl)⟩) ?_
        simp only [execOp, resolve, List.map_toArray, List.map_cons, List.map_nil, Act.eval, s18]; simp [go_sem, -Array.getD_eq_getD_getElem?, s18]
      case o3 =>
        intro a w hfr hG hd
        obtain ⟨d0, _⟩ := hd
        refine ⟨fun hw => ?_, fun hw => absurd hw (by simp [Region.wanted])⟩
        have s19 : a.tmps.getD 19 undef = .string S1 := (d0 rfl).now
        refine op_yields (.string (S1 ++ ⟨#[91]⟩)) ?_ ?_ ?_
        · simp only [execOp, resolve, List.map_toArray, List.map_cons, List.map_nil, Act.eval, s19]; simp [go_sem, -Array.getD_eq_getD_getElem?, s19, l1, l1']
        · exact Below.refl _ _
        · exact (fun _ _ => rfl)
      case o4 =>
        intro a w hfr hG hd
        refine ⟨fun hw => ?_, fun hw => absurd hw (by simp [Region.wanted])⟩
        have s1 : a.tmps.getD 1 undef = .pointer (some ⟨b, 0, none⟩) := hfr.at 1 (by kernel_rfl)
        refine op_yields (.pointer (some ⟨b, 1, none⟩)) ?_ ?_ ?_
        · simp only [execOp, resolve, List.map_toArray, List.map_cons, List.map_nil, Act.eval, s1]; simp [go_sem, -Array.getD_eq_getD_getElem?, s1]
        · exact Below.refl _ _
        · exact (fun _ _ => rfl)
      case o5 =>
        intro a w hfr hG hd
        obtain ⟨d0, _⟩ := hd
        refine ⟨fun hw => ?_, fun hw => absurd hw (by simp [Region.wanted])⟩
        have s21 : a.tmps.getD 21 undef = .pointer (some ⟨b, 1, none⟩) := (d0 rfl).now
        have z1 := hG.now.box.cell 1; simp only [List.getElem?_cons_zero, List.getElem?_cons_succ] at z1
        refine op_yields (.int .i64 n) ?_ ?_ ?_
        · simp only [execOp, resolve, List.map_toArray, List.map_cons, List.map_nil, Act.eval, s21]; simp [go_sem, -Array.getD_eq_getD_getElem?, s21, z1]
        · exact Below.refl _ _
        · exact (fun _ _ => rfl)
      case o6 =>
        intro a w hfr hG hd
        obtain ⟨d0, d1, _⟩ := hd
        refine ⟨fun hw => ?_, fun hw => absurd hw (by simp [Region.wanted])⟩
        have s22 : a.tmps.getD 22 undef = .int .i64 n := (d0 rfl).now
        refine op_calls2 ((HNT.out w).mono fun e' w' hh => ⟨_, hh.1, hh.2, (fun _ _ => rfl)⟩) ?_
        simp only [execOp, resolve, List.map_toArray, List.map_cons, List.map_nil, Act.eval, s22]; simp [go_sem, -Array.getD_eq_getD_getElem?, s22]
      case o7 =>
        intro a w hfr hG hd
        obtain ⟨d0, d1, _⟩ := hd
        refine ⟨fun hw => ?_, fun hw => absurd hw (by simp [Region.wanted])⟩
        have s20 : a.tmps.getD 20 undef = .string (S1 ++ ⟨#[91]⟩) := (d0 rfl).now
        have s23 : a.tmps.getD 23 undef = .string S2 := (d1 rfl).now
        refine op_yields (.string (S1 ++ ⟨#[91]⟩ ++ S2)) ?_ ?_ ?_
        · simp only [execOp, resolve, List.map_toArray, List.map_cons, List.map_nil, Act.eval, s20, s23]; simp [go_sem, -Array.getD_eq_getD_getElem?, s20, s23, l2]
        · exact Below.refl _ _
        · exact (fun _ _ => rfl)
      case o8 =>
        intro a w hfr hG hd
        obtain ⟨d0, _⟩ := hd
        refine ⟨fun hw => ?_, fun hw => absurd hw (by simp [Region.wanted])⟩
        have s24 : a.tmps.getD 24 undef = .string (S1 ++ ⟨#[91]⟩ ++ S2) := (d0 rfl).now
        refine op_yields (.string (S1 ++ ⟨#[91]⟩ ++ S2 ++ ⟨#[93]⟩)) ?_ ?_ ?_
        · simp only [execOp, resolve, List.map_toArray, List.map_cons, List.map_nil, Act.eval, s24]; simp [go_sem, -Array.getD_eq_getD_getElem?, s24, l3]
        · exact Below.refl _ _
        · exact (fun _ _ => rfl)
      case o9 =>
        intro a w hfr hG hd
        obtain ⟨d0, d1, d2, d3, d4, d5, d6, d7, d8, d9, d10, _⟩ := hd
        refine ⟨fun hw => ?_, fun hw => absurd hw (by simp [Region.wanted])⟩
        have s25 : a.tmps.getD 25 undef = .string (S1 ++ ⟨#[91]⟩ ++ S2 ++ ⟨#[93]⟩) := (d0 rfl).now
        refine op_yields (.string (S1 ++ ⟨#[91]⟩ ++ S2 ++ ⟨#[93]⟩)) ?_ ?_ ?_
        · simp only [execOp, resolve, List.map_toArray, List.map_cons, List.map_nil, Act.eval, s25]; simp [go_sem, -Array.getD_eq_getD_getElem?, s25]
        · exact Below.refl _ _
        · exact (fun _ _ => rfl)
      case hG => exact fun w' hb => HP.out.below ((Below.refl _ _).drew.trans (hb.mono (by simp)))
      case hend =>
        intro vs w' hG hv
        have key : vs 8 = .string (S1 ++ ⟨#[91]⟩ ++ S2 ++ ⟨#[93]⟩) ∧ vs 9 = .string (S1 ++ ⟨#[91]⟩ ++ S2 ++ ⟨#[93]⟩) := by
          obtain ⟨_, _, _, _, _, _, _, _, h8, h9, _⟩ := hv
          exact ⟨h8.now, h9.now⟩
        have HP2 := Lib.hid hG.now
        clear hv hG HP HMT HNT
        rw [HE.out] at key
        simp only [putAll, Act.put, key.1, key.2]
        clear key
        go_wp2_with fail
        refine bodyPost_ret (v := .string T) (by simp [results, Tryz.results7, go_sem]) rfl ?_
        exact ⟨rfl, HP2.out.bel⟩
    · have t2 : (kd == 2) = false := by rw [beq_eq_false_iff_ne]; exact h2
      by_cases h3 : 17 ≤ kd
      · obtain ⟨hn6, hns, qa, hks, hga⟩ := HGA.out h3
        have HNS := Lib.hid hns
        have hk1 : ks.length = 1 := by rw [hks]; rfl
        have HOA := Lib.hid (fun V (h : PrAt w d b kd n (.slice A1 ms.length c1) (.slice A2 ns.length c2) (.slice A3 ks.length c3) ms ns ks V) => IH qa V (h.kids qa (by rw [hks]; simp)) hga)
        obtain ⟨o, ho⟩ : ∃ o : Nat, (o : Int) = kd - 17 := ⟨(kd - 17).toNat, by omega⟩
        have ho4 : o < 4 := by omega
        have HOP := Lib.hid (show aggsL[o]? = some (aggsL.getD o ⟨#[]⟩) by rw [List.getD_eq_getElem?_getD, List.getElem?_eq_getElem (show o < aggsL.length from ho4)]; rfl)
        have hos := aggsL_size o
        have HE := Lib.hid (show (⟨((aggsL.getD o ⟨#[]⟩).data.toList ++ ([32, 98, 121, 32, 40] ++ joinN ns)).toArray⟩ : ByteArray) ++ ⟨#[41, 32, 40]⟩ ++ ⟨(printX d qa).toArray⟩ ++ ⟨#[41]⟩ = T by
          rw [← HT.out, agg_cat, printX_one (x := XE.mk kd n (.slice A1 ms.length c1) ms (.slice A2 ns.length c2) ns (.slice A3 ks.length c3) ks) (o := o) h1 h2 h3 hks (by show (kd - 17).toNat = o; omega)]; rfl)
        have hsa : (⟨(printX d qa).toArray⟩ : ByteArray).size ≤ 2097152000 := by
          have h1 := printX_len d qa hga
          have h2 : 2 ^ (d + 1) ≤ 2 ^ 21 := Nat.pow_le_pow_right (by omega) (by omega)
          show (printX d qa).toArray.size ≤ _
          rw [List.size_toArray]; omega
        obtain ⟨PA, hPA⟩ : ∃ P, (⟨(printX d qa).toArray⟩ : ByteArray) = P := ⟨_, rfl⟩
        rw [hPA] at HE hsa
        have HOA2 := Lib.hid (show ∀ V, PrAt w d b kd n (.slice A1 ms.length c1) (.slice A2 ns.length c2) (.slice A3 ks.length c3) ms ns ks V → Calls Tryz.prog 7 #[.agg #[.int .i64 qa.kd, .int .i64 qa.n, qa.mv, qa.nv, qa.kv]] V fun e w' => e = .returned (.string PA) ∧ Below V.heap.size V w' from by rw [← hPA]; exact HOA.out)
        obtain ⟨OP, hOP⟩ : ∃ P, aggsL.getD o ⟨#[]⟩ = P := ⟨_, rfl⟩
        rw [hOP] at HOP hos HE
        have HST := Lib.hid (show OP ++ ⟨#[32, 98, 121, 32, 40]⟩ = ⟨(OP.data.toList ++ ([32, 98, 121, 32, 40] ++ joinN (ns.take 0))).toArray⟩ by
          apply ByteArray.ext; simp [joinN])
        clear HOA hPA hOP HT hns
        have hkc : kcells ks = [.int .i64 qa.kd, .int .i64 qa.n, qa.mv, qa.nv, qa.kv] := by rw [hks]; rfl
        obtain ⟨ad, hA3⟩ : ∃ ad, A3 = some ad := by
          obtain ⟨ad, e, _, _⟩ := HP.out.k.sees.at_ (by omega)
          exact ⟨ad, e⟩
        subst hA3
        have HCL := Lib.hid (show ∀ V, PrAt w d b kd n (.slice A1 ms.length c1) (.slice A2 ns.length c2) (.slice (some ad) ks.length c3) ms ns ks V → ∀ j u, (kcells ks)[j]? = some u → V.cell? (ad.add j) = some u from fun V h => by
          obtain ⟨ad2, e, _, hc⟩ := h.k.sees.at_ (by omega)
          injection e with e; subst e
          exact hc)
        rw [hkc] at HCL
        have hw3 : IntKind.i64.wrap (kd - 17) = (o : Int) := by rw [IntKind.wrap_i64]; omega
        have o0 : (0 : Int) ≤ o := by omega
        have o14 : (o : Int) < 4 := by omega
        have kp0 : (0 : Int) < ks.length := by omega
        have hke : ¬ ks = [] := by rw [hks]; simp
        have hc3 := HP.out.n_.caps
        have l1 : ¬ (9223372036854775807 < OP.size + 5) := by omega
        have HH3 := Lib.hid h3
        clear hks hk1 hga hkc
        go_upto_region 6 with fail
        go_cut [3] from 30 to 36 (fun x3 wx => x3 = .string (OP ++ ⟨#[32, 98, 121, 32, 40]⟩) ∧ PrAt w d b kd n (.slice A1 ms.length c1) (.slice A2 ns.length c2) (.slice (some ad) ks.length c3) ms ns ks wx)
        case first =>
          refine wp_region_facts (R := fun a b => Below a.heap.size a b) (G := (fun W => PrAt w d b kd n (.slice A1 ms.length c1) (.slice A2 ns.length c2) (.slice (some ad) ks.length c3) ms ns ks W)) (V := fun i' u' W => match i' with | 0 => ∃ g, u' = .slice (some ⟨g, 0, none⟩) 4 4 ∧ Blk W g 9 (strs aggsL) | 1 => u' = .pointer (some ⟨b, 0, none⟩) | 2 => u' = .int .i64 kd | 3 => u' = .int .i64 o | 4 => ∃ g, u' = .pointer (some ⟨g, o, none⟩) ∧ Blk W g 9 (strs aggsL) | 5 => u' = .string OP | 6 => u' = .string (OP ++ ⟨#[32, 98, 121, 32, 40]⟩) | 7 => u' = .string (OP ++ ⟨#[32, 98, 121, 32, 40]⟩) | _ => True) (by kernel_rfl) (fun w => Below.refl _ _) (fun a b c h1 h2 => h1.trans (h2.mono h1.size)) (by kernel_rfl) (by kernel_rfl) ?hG ⟨?o0, ?o1, ?o2, ?o3, ?o4, ?o5, ?o6, ?o7, trivial⟩ ?hend
          case o0 =>
            intro a w hfr hG hd
            refine ⟨fun hw => ?_, fun hw => absurd hw (by simp [Region.wanted])⟩
            refine op_calls2 ((raggs_any w).mono fun e' w' hh => ⟨_, hh.1, hh.2.1, fun W hW => ⟨w.heap.size, rfl, hh.2.2.below hW hh.2.2.lt⟩⟩) ?_; simp only [execOp, resolve, List.map_toArray, List.map_cons, List.map_nil, Act.eval]; simp [go_sem]
          case o1 =>
            intro a w hfr hG hd
            refine ⟨fun hw => ?_, fun hw => absurd hw (by simp [Region.wanted])⟩
            have s1 : a.tmps.getD 1 undef = .pointer (some ⟨b, 0, none⟩) := hfr.at 1 (by kernel_rfl)
            refine op_yields (.pointer (some ⟨b, 0, none⟩)) ?_ ?_ ?_
            · simp only [execOp, resolve, List.map_toArray, List.map_cons, List.map_nil, Act.eval, s1]; simp [go_sem, -Array.getD_eq_getD_getElem?, s1]
            · exact Below.refl _ _
            · exact (fun _ _ => rfl)
          case o2 =>
            intro a w hfr hG hd
            obtain ⟨d0, _⟩ := hd
            refine ⟨fun hw => ?_, fun hw => absurd hw (by simp [Region.wanted])⟩
            have s31 : a.tmps.getD 31 undef = .pointer (some ⟨b, 0, none⟩) := (d0 rfl).now
            have z0 := hG.now.box.cell 0; simp only [List.getElem?_cons_zero, List.getElem?_cons_succ] at z0
            refine op_yields (.int .i64 kd) ?_ ?_ ?_
            · simp only [execOp, resolve, List.map_toArray, List.map_cons, List.map_nil, Act.eval, s31]; simp [go_sem, -Array.getD_eq_getD_getElem?, s31, z0]
            · exact Below.refl _ _
            · exact (fun _ _ => rfl)
          case o3 =>
            intro a w hfr hG hd
            obtain ⟨d0, _⟩ := hd
            refine ⟨fun hw => ?_, fun hw => absurd hw (by simp [Region.wanted])⟩
            have s32 : a.tmps.getD 32 undef = .int .i64 kd := (d0 rfl).now
            refine op_yields (.int .i64 o) ?_ ?_ ?_
            · simp only [execOp, resolve, List.map_toArray, List.map_cons, List.map_nil, Act.eval, s32]; simp [go_sem, -Array.getD_eq_getD_getElem?, s32, hw3]
            · exact Below.refl _ _
            · exact (fun _ _ => rfl)
          case o4 =>
            intro a w hfr hG hd
            obtain ⟨d0, d1, _⟩ := hd
            refine ⟨fun hw => ?_, fun hw => absurd hw (by simp [Region.wanted])⟩
            obtain ⟨g, s30, _⟩ := (d0 rfl).now
            have f30 : Hold (fun a b => Below a.heap.size a b) (fun W => Blk W g 9 (strs aggsL)) w := fun w2 h2 => by obtain ⟨_, e1, e2⟩ := d0 rfl w2 h2; have e3 := s30.symm.trans e1; simp only [Value.slice.injEq, Option.some.injEq, Addr.mk.injEq, Value.pointer.injEq, and_true, true_and] at e3; subst e3; exact e2
            have s30 : a.tmps.getD 30 undef = .slice (some ⟨g, 0, none⟩) 4 4 := s30
            have s33 : a.tmps.getD 33 undef = .int .i64 o := (d1 rfl).now
            refine op_yields (.pointer (some ⟨g, o, none⟩)) ?_ (Below.refl _ _) (fun W hW => ⟨g, rfl, f30 W hW⟩); simp only [execOp, resolve, List.map_toArray, List.map_cons, List.map_nil, Act.eval, s30, s33]; simp [go_sem, -Array.getD_eq_getD_getElem?, s30, s33, o0, o14]
          case o5 =>
            intro a w hfr hG hd
            obtain ⟨d0, _⟩ := hd
            refine ⟨fun hw => ?_, fun hw => absurd hw (by simp [Region.wanted])⟩
            obtain ⟨g, s34, _⟩ := (d0 rfl).now
            have f34 : Hold (fun a b => Below a.heap.size a b) (fun W => Blk W g 9 (strs aggsL)) w := fun w2 h2 => by obtain ⟨_, e1, e2⟩ := d0 rfl w2 h2; have e3 := s34.symm.trans e1; simp only [Value.slice.injEq, Option.some.injEq, Addr.mk.injEq, Value.pointer.injEq, and_true, true_and] at e3; subst e3; exact e2
            have s34 : a.tmps.getD 34 undef = .pointer (some ⟨g, o, none⟩) := s34
            have zo : w.cell? ⟨g, o, none⟩ = some (.string OP) := by rw [f34.now.cell o]; unfold strs; rw [List.getElem?_map, HOP.out]; rfl
            refine op_yields (.string OP) ?_ ?_ ?_
            · simp only [execOp, resolve, List.map_toArray, List.map_cons, List.map_nil, Act.eval, s34]; simp [go_sem, -Array.getD_eq_getD_getElem?, s34, zo]
            · exact Below.refl _ _
            · exact (fun _ _ => rfl)
          case o6 =>
            intro a w hfr hG hd
            obtain ⟨d0, _⟩ := hd
            refine ⟨fun hw => ?_, fun hw => absurd hw (by simp [Region.wanted])⟩
            have s35 : a.tmps.getD 35 undef = .string OP := (d0 rfl).now
            refine op_yields (.string (OP ++ ⟨#[32, 98, 121, 32, 40]⟩)) ?_ ?_ ?_
            · simp only [execOp, resolve, List.map_toArray, List.map_cons, List.map_nil, Act.eval, s35]; simp [go_sem, -Array.getD_eq_getD_getElem?, s35, l1]
            · exact Below.refl _ _
            · exact (fun _ _ => rfl)
          case o7 =>
            intro a w hfr hG hd
            obtain ⟨d0, d1, d2, d3, d4, d5, d6, d7, d8, _⟩ := hd
            refine ⟨fun hw => ?_, fun hw => absurd hw (by simp [Region.wanted])⟩
            have s36 : a.tmps.getD 36 undef = .string (OP ++ ⟨#[32, 98, 121, 32, 40]⟩) := (d0 rfl).now
            refine op_yields (.string (OP ++ ⟨#[32, 98, 121, 32, 40]⟩)) ?_ ?_ ?_
            · simp only [execOp, resolve, List.map_toArray, List.map_cons, List.map_nil, Act.eval, s36]; simp [go_sem, -Array.getD_eq_getD_getElem?, s36]
            · exact Below.refl _ _
            · exact (fun _ _ => rfl)
          case hG => exact fun w' hb => HP.out.below ((Below.refl _ _).drew.trans (hb.mono (by simp)))
          case hend =>
            intro vs w' hG hv
            have key : vs 6 = .string (OP ++ ⟨#[32, 98, 121, 32, 40]⟩) ∧ vs 7 = .string (OP ++ ⟨#[32, 98, 121, 32, 40]⟩) := by
              obtain ⟨_, _, _, _, _, _, h6, h7, _⟩ := hv
              exact ⟨h6.now, h7.now⟩
            have HP2 := Lib.hid hG.now
            clear hv hG HP HOA2 HCL
            simp only [putAll, Act.put, key.1, key.2]
            clear key
            go_simp
            go_wp2_with fail
            go_meet
            exact ⟨rfl, HP2.out⟩
        case rest =>
          obtain ⟨rfl, hat⟩ := hcut
          have HP2 := Lib.hid hat
          clear hat HP x0 x1 x2 x3 x4 l1
          rw [HST.out]
          obtain ⟨S0, hS0⟩ : ∃ S, (⟨(OP.data.toList ++ ([32, 98, 121, 32, 40] ++ joinN (ns.take 0))).toArray⟩ : ByteArray) = S := ⟨_, rfl⟩
          have HS0 := Lib.hid hS0.symm
          rw [hS0]
          clear hS0 HST
          have z3 := HP2.out.box.cell 3
          simp only [List.getElem?_cons_zero, List.getElem?_cons_succ] at z3
          go_wp2_with fail
          go_loopg [3, 40] ns.length (fun g x3 x40 wr => ∃ (k : Nat) (S : ByteArray), k + g = ns.length ∧ x40 = .int .i64 k ∧ x3 = .string S ∧ Hid (S = ⟨(OP.data.toList ++ ([32, 98, 121, 32, 40] ++ joinN (ns.take k))).toArray⟩) ∧ PrAt w d b kd n (.slice A1 ms.length c1) (.slice A2 ns.length c2) (.slice (some ad) ks.length c3) ms ns ks wr)
          case atStart => exact ⟨0, S0, by omega, rfl, rfl, HS0, HP2.out⟩
          case round =>
            obtain ⟨k, S, hkg, rfl, rfl, HS, hat⟩ := hrel
            have HM := Lib.hid hat
            clear hat HP2 HS0 z3
            have hsz : S.size ≤ 200 := by
              have h2 := HS.out
              have h3 := joinN_len (l := ns.take k) (fun m hm => HNS.out m (List.mem_of_mem_take hm))
              rw [List.length_take] at h3
              have h4 : S.size = OP.size + (5 + (joinN (ns.take k)).length) := by
                rw [h2]; show (OP.data.toList ++ ([32, 98, 121, 32, 40] ++ joinN (ns.take k))).toArray.size = _
                rw [List.size_toArray, List.length_append, List.length_append, ba_len]; rfl
              omega
            cases gk with
            | zero =>
              have hk : ¬ (k : Int) < ns.length := by omega
              have HSE := Lib.hid (show S ++ ⟨#[41, 32, 40]⟩ ++ PA ++ ⟨#[41]⟩ = T by rw [HS.out, List.take_of_length_le (by omega)]; exact HE.out)
              obtain ⟨x0, x1, x2, x3, x4⟩ := blk_cells5 HM.out.box
              obtain ⟨z0, z1, z2, z3, z4⟩ := kid_cells0 (HCL.out wr HM.out)
              have HCA := Lib.hid (HOA2.out wr HM.out)
              have l1 : ¬ (9223372036854775807 < S.size + 3) := by omega
              have l2 : ¬ (9223372036854775807 < S.size + 3 + PA.size) := by omega
              have l3 : ¬ (9223372036854775807 < S.size + 3 + PA.size + 1) := by omega
              go_wp2_with fail
              (with_reducible refine HCA.out.mono ?_); rintro e wq ⟨rfl, hbq⟩
              go_wp2_with fail
              go_ret
              exact ⟨by rw [← HSE.out]; rfl, HM.out.bel.trans (hbq.mono HM.out.bel.size)⟩
            | succ g =>
              have hlt : k < ns.length := by omega
              obtain ⟨au, hkl, hA, e0⟩ := HM.out.n_.sees.str hlt
              have hf := HNS.out _ (List.getElem_mem hkl)
              have HSN := Lib.hid (show joinN (ns.take (k + 1)) = joinN (ns.take k) ++ (if (ns.take k).isEmpty then ns[k].data.toList else 44 :: ns[k].data.toList) by rw [List.take_succ_eq_append_getElem hkl]; exact joinN_snoc _ _)
              generalize ns[k] = nm at *
              subst hA
              obtain ⟨p, hpd⟩ : ∃ p : Bool, decide (0 < k) = p := ⟨_, rfl⟩
              go_upto_if 46 with fail
              have HPD := Lib.hid hpd
              clear hpd
              go_cut [3] from 47 to 48 (fun x3 wx => ∃ S2 : ByteArray, x3 = .string S2 ∧ Hid (S2 = ⟨(OP.data.toList ++ ([32, 98, 121, 32, 40] ++ (joinN (ns.take k) ++ (if (ns.take k).isEmpty then [] else [44])))).toArray⟩) ∧ S2.size ≤ 201 ∧ wx = wr)
              case first =>
                cases p with
                | false =>
                  have HEM := Lib.hid (show (ns.take k).isEmpty = true by rw [show k = 0 by have := of_decide_eq_false HPD.out; omega]; rfl)
                  go_wp2_with fail
                  go_meet
                  exact ⟨S, rfl, Lib.hid (by rw [HS.out, HEM.out]; simp), by omega, rfl⟩
                | true =>
                  have HEM := Lib.hid (show (ns.take k).isEmpty = false by
                    have hk0 := of_decide_eq_true HPD.out
                    cases ns with
                    | nil => exact absurd hkl (by simp)
                    | cons y l =>
                      cases k with
                      | zero => exact absurd hk0 (by omega)
                      | succ k => rfl)
                  have HS2 := Lib.hid (show S ++ ⟨#[44]⟩ = ⟨(OP.data.toList ++ ([32, 98, 121, 32, 40] ++ (joinN (ns.take k) ++ (if (ns.take k).isEmpty then [] else [44])))).toArray⟩ by
                    rw [HEM.out, HS.out]; apply ByteArray.ext; simp)
                  have hs2 : (S ++ (⟨#[44]⟩ : ByteArray)).size ≤ 201 := by rw [ByteArray.size_append]; show S.size + 1 ≤ 201; omega
                  have HS2S := Lib.hid hs2
                  clear hs2
                  go_wp2_with fail
                  go_meet
                  exact ⟨_, rfl, Lib.hid HS2.out, HS2S.out, rfl⟩
              case rest =>
                obtain ⟨S2, rfl, HS2, hs2, hwc⟩ := hcut
                subst hwc
                have HS3 := Lib.hid (show S2 ++ nm = ⟨(OP.data.toList ++ ([32, 98, 121, 32, 40] ++ joinN (ns.take (k + 1)))).toArray⟩ by
                  rw [HSN.out, HS2.out]; apply ByteArray.ext; cases (ns.take k).isEmpty <;> simp)
                go_wp2_with fail
                go_roundg g
                case measure => omega
                case rel => exact ⟨k + 1, _, by omega, by go_num, rfl, Lib.hid HS3.out, HM.out⟩
      · obtain ⟨qa, qb, hks, hga, hgb⟩ := HGT.out (by omega) (by omega)
        have hk2 : ks.length = 2 := by rw [hks]; rfl
        have HOA := Lib.hid (fun V (h : PrAt w d b kd n (.slice A1 ms.length c1) (.slice A2 ns.length c2) (.slice A3 ks.length c3) ms ns ks V) => IH qa V (h.kids qa (by rw [hks]; simp)) hga)
        have HOB := Lib.hid (fun V (h : PrAt w d b kd n (.slice A1 ms.length c1) (.slice A2 ns.length c2) (.slice A3 ks.length c3) ms ns ks V) => IH qb V (h.kids qb (by rw [hks]; simp)) hgb)
        have hla := printX_len d qa hga
        have hlb := printX_len d qb hgb
        have HLL := Lib.hid (And.intro hla hlb)
        clear hla hlb
        obtain ⟨o, ho⟩ : ∃ o : Nat, (o : Int) = kd - 3 := ⟨(kd - 3).toNat, by omega⟩
        have ho14 : o < 14 := by omega
        have HOP := Lib.hid (show opsL[o]? = some (opsL.getD o ⟨#[]⟩) by rw [List.getD_eq_getElem?_getD, List.getElem?_eq_getElem (show o < opsL.length from ho14)]; rfl)
        have hos := opsL_size o
        have HE := Lib.hid (show (⟨#[40]⟩ : ByteArray) ++ ⟨(printX d qa).toArray⟩ ++ ⟨#[32]⟩ ++ opsL.getD o ⟨#[]⟩ ++ ⟨#[32]⟩ ++ ⟨(printX d qb).toArray⟩ ++ ⟨#[41]⟩ = T by
          rw [← HT.out, two_cat, printX_two (x := XE.mk kd n (.slice A1 ms.length c1) ms (.slice A2 ns.length c2) ns (.slice A3 ks.length c3) ks) (o := o) h1 h2 h3 hks (by show (kd - 3).toNat = o; omega)])
        have hsa : (⟨(printX d qa).toArray⟩ : ByteArray).size ≤ 2097152000 := by
          have h1 := HLL.out.1
          have h2 : 2 ^ (d + 1) ≤ 2 ^ 21 := Nat.pow_le_pow_right (by omega) (by omega)
          show (printX d qa).toArray.size ≤ _
          rw [List.size_toArray]; omega
        have hsb : (⟨(printX d qb).toArray⟩ : ByteArray).size ≤ 2097152000 := by
          have h1 := HLL.out.2
          have h2 : 2 ^ (d + 1) ≤ 2 ^ 21 := Nat.pow_le_pow_right (by omega) (by omega)
          show (printX d qb).toArray.size ≤ _
          rw [List.size_toArray]; omega
        obtain ⟨PA, hPA⟩ : ∃ P, (⟨(printX d qa).toArray⟩ : ByteArray) = P := ⟨_, rfl⟩
        obtain ⟨PB, hPB⟩ : ∃ P, (⟨(printX d qb).toArray⟩ : ByteArray) = P := ⟨_, rfl⟩
        rw [hPA] at HE hsa
        rw [hPB] at HE hsb
        have HOA2 := Lib.hid (show ∀ V, PrAt w d b kd n (.slice A1 ms.length c1) (.slice A2 ns.length c2) (.slice A3 ks.length c3) ms ns ks V → Calls Tryz.prog 7 #[.agg #[.int .i64 qa.kd, .int .i64 qa.n, qa.mv, qa.nv, qa.kv]] V fun e w' => e = .returned (.string PA) ∧ Below V.heap.size V w' from by rw [← hPA]; exact HOA.out)
        have HOB2 := Lib.hid (show ∀ V, PrAt w d b kd n (.slice A1 ms.length c1) (.slice A2 ns.length c2) (.slice A3 ks.length c3) ms ns ks V → Calls Tryz.prog 7 #[.agg #[.int .i64 qb.kd, .int .i64 qb.n, qb.mv, qb.nv, qb.kv]] V fun e w' => e = .returned (.string PB) ∧ Below V.heap.size V w' from by rw [← hPB]; exact HOB.out)
        generalize opsL.getD o ⟨#[]⟩ = OP at *
        clear HOA HOB hPA hPB HLL HT
        have hkc : kcells ks = [.int .i64 qa.kd, .int .i64 qa.n, qa.mv, qa.nv, qa.kv, .int .i64 qb.kd, .int .i64 qb.n, qb.mv, qb.nv, qb.kv] := by rw [hks]; rfl
        obtain ⟨ad, hA3⟩ : ∃ ad, A3 = some ad := by
          obtain ⟨ad, e, _, _⟩ := HP.out.k.sees.at_ (by omega)
          exact ⟨ad, e⟩
        subst hA3
        have HCL := Lib.hid (show ∀ V, PrAt w d b kd n (.slice A1 ms.length c1) (.slice A2 ns.length c2) (.slice (some ad) ks.length c3) ms ns ks V → ∀ j u, (kcells ks)[j]? = some u → V.cell? (ad.add j) = some u from fun V h => by
          obtain ⟨ad2, e, _, hc⟩ := h.k.sees.at_ (by omega)
          injection e with e; subst e
          exact hc)
        rw [hkc] at HCL
        have HK2 := Lib.hid hk2
        have h34 : (kd : Int) - 3 = (o : Int) := by omega
        have hw3 : IntKind.i64.wrap (kd - 3) = (o : Int) := by rw [IntKind.wrap_i64]; omega
        have o0 : (0 : Int) ≤ o := by omega
        have o14 : (o : Int) < 14 := by omega
        have hc3 := HP.out.k.caps
        have k2 : (2 : Int) ≤ ks.length := by omega
        have kp0 : (0 : Int) < ks.length := by omega
        have kp1 : (1 : Int) < ks.length := by omega
        have hke : ¬ ks = [] := by rw [hks]; simp
        have l1 : ¬ (9223372036854775807 < 1 + PA.size) := by omega
        have l2 : ¬ (9223372036854775807 < 1 + PA.size + 1) := by omega
        have l3 : ¬ (9223372036854775807 < 1 + PA.size + 1 + OP.size) := by omega
        have l4 : ¬ (9223372036854775807 < 1 + PA.size + 1 + OP.size + 1) := by omega
        have l5 : ¬ (9223372036854775807 < 1 + PA.size + 1 + OP.size + 1 + PB.size) := by omega
        have l6 : ¬ (9223372036854775807 < 1 + PA.size + 1 + OP.size + 1 + PB.size + 1) := by omega
        have hng : ¬ (17 : Int) ≤ kd := h3
        go_upto_region 15 with fail
        refine wp_region_facts (R := fun a b => Below a.heap.size a b) (G := (fun W => PrAt w d b kd n (.slice A1 ms.length c1) (.slice A2 ns.length c2) (.slice (some ad) ks.length c3) ms ns ks W)) (V := fun i' u' W => match i' with | 0 => u' = .pointer (some ⟨b, 4, none⟩) | 1 => u' = .slice (some ad) ks.length c3 | 2 => u' = .pointer (some ad) | 3 => u' = .agg #[.int .i64 qa.kd, .int .i64 qa.n, qa.mv, qa.nv, qa.kv] | 4 => u' = .string PA | 5 => u' = .string (⟨#[40]⟩ ++ PA) | 6 => u' = .string (⟨#[40]⟩ ++ PA ++ ⟨#[32]⟩) | 7 => ∃ g, u' = .slice (some ⟨g, 0, none⟩) 14 14 ∧ Blk W g 9 (strs opsL) | 8 => u' = .pointer (some ⟨b, 0, none⟩) | 9 => u' = .int .i64 kd | 10 => u' = .int .i64 o | 11 => ∃ g, u' = .pointer (some ⟨g, o, none⟩) ∧ Blk W g 9 (strs opsL) | 12 => u' = .string OP | 13 => u' = .string (⟨#[40]⟩ ++ PA ++ ⟨#[32]⟩ ++ OP) | 14 => u' = .string (⟨#[40]⟩ ++ PA ++ ⟨#[32]⟩ ++ OP ++ ⟨#[32]⟩) | 15 => u' = .pointer (some ⟨b, 4, none⟩) | 16 => u' = .slice (some ad) ks.length c3 | 17 => u' = .pointer (some (ad.add 5)) | 18 => u' = .agg #[.int .i64 qb.kd, .int .i64 qb.n, qb.mv, qb.nv, qb.kv] | 19 => u' = .string PB | 20 => u' = .string (⟨#[40]⟩ ++ PA ++ ⟨#[32]⟩ ++ OP ++ ⟨#[32]⟩ ++ PB) | 21 => u' = .string (⟨#[40]⟩ ++ PA ++ ⟨#[32]⟩ ++ OP ++ ⟨#[32]⟩ ++ PB ++ ⟨#[41]⟩) | 22 => u' = .string (⟨#[40]⟩ ++ PA ++ ⟨#[32]⟩ ++ OP ++ ⟨#[32]⟩ ++ PB ++ ⟨#[41]⟩) | _ => True) (by kernel_rfl) (fun w => Below.refl _ _) (fun a b c h1 h2 => h1.trans (h2.mono h1.size)) (by kernel_rfl) (by kernel_rfl) ?hG ⟨?o0, ?o1, ?o2, ?o3, ?o4, ?o5, ?o6, ?o7, ?o8, ?o9, ?o10, ?o11, ?o12, ?o13, ?o14, ?o15, ?o16, ?o17, ?o18, ?o19, ?o20, ?o21, ?o22, trivial⟩ ?hend
        case o0 =>
          intro a w hfr hG hd
          refine ⟨fun hw => ?_, fun hw => absurd hw (by simp [Region.wanted])⟩
          have s1 : a.tmps.getD 1 undef = .pointer (some ⟨b, 0, none⟩) := hfr.at 1 (by kernel_rfl)
          refine op_yields (.pointer (some ⟨b, 4, none⟩)) ?_ ?_ ?_
          · simp only [execOp, resolve, List.map_toArray, List.map_cons, List.map_nil, Act.eval, s1]; simp [go_sem, -Array.getD_eq_getD_getElem?, s1]
          · exact Below.refl _ _
          · exact (fun _ _ => rfl)
        case o1 =>
          intro a w hfr hG hd
          obtain ⟨d0, _⟩ := hd
          refine ⟨fun hw => ?_, fun hw => absurd hw (by simp [Region.wanted])⟩
          have s62 : a.tmps.getD 62 undef = .pointer (some ⟨b, 4, none⟩) := (d0 rfl).now
          have z4 := hG.now.box.cell 4; simp only [List.getElem?_cons_zero, List.getElem?_cons_succ] at z4
          refine op_yields (.slice (some ad) ks.length c3) ?_ ?_ ?_
          · simp only [execOp, resolve, List.map_toArray, List.map_cons, List.map_nil, Act.eval, s62]; simp [go_sem, -Array.getD_eq_getD_getElem?, s62, z4]
          · exact Below.refl _ _
          · exact (fun _ _ => rfl)
        case o2 =>
          intro a w hfr hG hd
          obtain ⟨d0, _⟩ := hd
          refine ⟨fun hw => ?_, fun hw => absurd hw (by simp [Region.wanted])⟩
          have s63 : a.tmps.getD 63 undef = .slice (some ad) ks.length c3 := (d0 rfl).now
          refine op_yields (.pointer (some ad)) ?_ ?_ ?_
          · simp only [execOp, resolve, List.map_toArray, List.map_cons, List.map_nil, Act.eval, s63]; simp [go_sem, -Array.getD_eq_getD_getElem?, s63, kp0, hke]
          · exact Below.refl _ _
          · exact (fun _ _ => rfl)
        case o3 =>
          intro a w hfr hG hd
          obtain ⟨d0, _⟩ := hd
          refine ⟨fun hw => ?_, fun hw => absurd hw (by simp [Region.wanted])⟩
          have s64 : a.tmps.getD 64 undef = .pointer (some ad) := (d0 rfl).now
          obtain ⟨z0, z1, z2, z3, z4⟩ := kid_cells0 (HCL.out w hG.now)
          refine op_yields (.agg #[.int .i64 qa.kd, .int .i64 qa.n, qa.mv, qa.nv, qa.kv]) ?_ ?_ ?_
          · simp only [execOp, resolve, List.map_toArray, List.map_cons, List.map_nil, Act.eval, s64]; simp [go_sem, -Array.getD_eq_getD_getElem?, s64, z0, z1, z2, z3, z4]
          · exact Below.refl _ _
          · exact (fun _ _ => rfl)
        case o4 =>
          intro a w hfr hG hd
          obtain ⟨d0, _⟩ := hd
          refine ⟨fun hw => ?_, fun hw => absurd hw (by simp [Region.wanted])⟩
          have s65 : a.tmps.getD 65 undef = .agg #[.int .i64 qa.kd, .int .i64 qa.n, qa.mv, qa.nv, qa.kv] := (d0 rfl).now
          refine op_calls2 ((HOA2.out w hG.now).mono fun e' w' hh => ⟨_, hh.1, hh.2, (fun _ _ => rfl)⟩) ?_
          simp only [execOp, resolve, List.map_toArray, List.map_cons, List.map_nil, Act.eval, s65]; simp [go_sem, -Array.getD_eq_getD_getElem?, s65]
        case o5 =>
          intro a w hfr hG hd
          obtain ⟨d0, _⟩ := hd
          refine ⟨fun hw => ?_, fun hw => absurd hw (by simp [Region.wanted])⟩
          have s66 : a.tmps.getD 66 undef = .string PA := (d0 rfl).now
          refine op_yields (.string (⟨#[40]⟩ ++ PA)) ?_ ?_ ?_
          · simp only [execOp, resolve, List.map_toArray, List.map_cons, List.map_nil, Act.eval, s66]; simp [go_sem, -Array.getD_eq_getD_getElem?, s66, l1]
          · exact Below.refl _ _
          · exact (fun _ _ => rfl)
        case o6 =>
          intro a w hfr hG hd
          obtain ⟨d0, _⟩ := hd
          refine ⟨fun hw => ?_, fun hw => absurd hw (by simp [Region.wanted])⟩
          have s67 : a.tmps.getD 67 undef = .string (⟨#[40]⟩ ++ PA) := (d0 rfl).now
          refine op_yields (.string (⟨#[40]⟩ ++ PA ++ ⟨#[32]⟩)) ?_ ?_ ?_
          · simp only [execOp, resolve, List.map_toArray, List.map_cons, List.map_nil, Act.eval, s67]; simp [go_sem, -Array.getD_eq_getD_getElem?, s67, l2]
          · exact Below.refl _ _
          · exact (fun _ _ => rfl)
        case o7 =>
          intro a w hfr hG hd
          obtain ⟨d0, _⟩ := hd
          refine ⟨fun hw => ?_, fun hw => absurd hw (by simp [Region.wanted])⟩
          refine op_calls2 ((rops_any w).mono fun e' w' hh => ⟨_, hh.1, hh.2.1, fun W hW => ⟨w.heap.size, rfl, hh.2.2.below hW hh.2.2.lt⟩⟩) ?_; simp only [execOp, resolve, List.map_toArray, List.map_cons, List.map_nil, Act.eval]; simp [go_sem]
        case o8 =>
          intro a w hfr hG hd
          refine ⟨fun hw => ?_, fun hw => absurd hw (by simp [Region.wanted])⟩
          have s1 : a.tmps.getD 1 undef = .pointer (some ⟨b, 0, none⟩) := hfr.at 1 (by kernel_rfl)
          refine op_yields (.pointer (some ⟨b, 0, none⟩)) ?_ ?_ ?_
          · simp only [execOp, resolve, List.map_toArray, List.map_cons, List.map_nil, Act.eval, s1]; simp [go_sem, -Array.getD_eq_getD_getElem?, s1]
          · exact Below.refl _ _
          · exact (fun _ _ => rfl)
        case o9 =>
          intro a w hfr hG hd
          obtain ⟨d0, _⟩ := hd
          refine ⟨fun hw => ?_, fun hw => absurd hw (by simp [Region.wanted])⟩
          have s70 : a.tmps.getD 70 undef = .pointer (some ⟨b, 0, none⟩) := (d0 rfl).now
          have z0 := hG.now.box.cell 0; simp only [List.getElem?_cons_zero, List.getElem?_cons_succ] at z0
          refine op_yields (.int .i64 kd) ?_ ?_ ?_
          · simp only [execOp, resolve, List.map_toArray, List.map_cons, List.map_nil, Act.eval, s70]; simp [go_sem, -Array.getD_eq_getD_getElem?, s70, z0]
          · exact Below.refl _ _
          · exact (fun _ _ => rfl)
        case o10 =>
          intro a w hfr hG hd
          obtain ⟨d0, _⟩ := hd
          refine ⟨fun hw => ?_, fun hw => absurd hw (by simp [Region.wanted])⟩
          have s71 : a.tmps.getD 71 undef = .int .i64 kd := (d0 rfl).now
          refine op_yields (.int .i64 o) ?_ ?_ ?_
          · simp only [execOp, resolve, List.map_toArray, List.map_cons, List.map_nil, Act.eval, s71]; simp [go_sem, -Array.getD_eq_getD_getElem?, s71, hw3]
          · exact Below.refl _ _
          · exact (fun _ _ => rfl)
        case o11 =>
          intro a w hfr hG hd
          obtain ⟨d0, d1, _⟩ := hd
          refine ⟨fun hw => ?_, fun hw => absurd hw (by simp [Region.wanted])⟩
          obtain ⟨g, s69, _⟩ := (d0 rfl).now
          have f69 : Hold (fun a b => Below a.heap.size a b) (fun W => Blk W g 9 (strs opsL)) w := fun w2 h2 => by obtain ⟨_, e1, e2⟩ := d0 rfl w2 h2; have e3 := s69.symm.trans e1; simp only [Value.slice.injEq, Option.some.injEq, Addr.mk.injEq, Value.pointer.injEq, and_true, true_and] at e3; subst e3; exact e2
          have s69 : a.tmps.getD 69 undef = .slice (some ⟨g, 0, none⟩) 14 14 := s69
          have s72 : a.tmps.getD 72 undef = .int .i64 o := (d1 rfl).now
          refine op_yields (.pointer (some ⟨g, o, none⟩)) ?_ (Below.refl _ _) (fun W hW => ⟨g, rfl, f69 W hW⟩); simp only [execOp, resolve, List.map_toArray, List.map_cons, List.map_nil, Act.eval, s69, s72]; simp [go_sem, -Array.getD_eq_getD_getElem?, s69, s72, o0, o14]
        case o12 =>
          intro a w hfr hG hd
          obtain ⟨d0, _⟩ := hd
          refine ⟨fun hw => ?_, fun hw => absurd hw (by simp [Region.wanted])⟩
          obtain ⟨g, s73, _⟩ := (d0 rfl).now
          have f73 : Hold (fun a b => Below a.heap.size a b) (fun W => Blk W g 9 (strs opsL)) w := fun w2 h2 => by obtain ⟨_, e1, e2⟩ := d0 rfl w2 h2; have e3 := s73.symm.trans e1; simp only [Value.slice.injEq, Option.some.injEq, Addr.mk.injEq, Value.pointer.injEq, and_true, true_and] at e3; subst e3; exact e2
          have s73 : a.tmps.getD 73 undef = .pointer (some ⟨g, o, none⟩) := s73
          have zo : w.cell? ⟨g, o, none⟩ = some (.string OP) := by rw [f73.now.cell o]; unfold strs; rw [List.getElem?_map, HOP.out]; rfl
          refine op_yields (.string OP) ?_ ?_ ?_
          · simp only [execOp, resolve, List.map_toArray, List.map_cons, List.map_nil, Act.eval, s73]; simp [go_sem, -Array.getD_eq_getD_getElem?, s73, zo]
          · exact Below.refl _ _
          · exact (fun _ _ => rfl)
        case o13 =>
          intro a w hfr hG hd
          obtain ⟨d0, d1, _⟩ := hd
          refine ⟨fun hw => ?_, fun hw => absurd hw (by simp [Region.wanted])⟩
          have s68 : a.tmps.getD 68 undef = .string (⟨#[40]⟩ ++ PA ++ ⟨#[32]⟩) := (d0 rfl).now
          have s74 : a.tmps.getD 74 undef = .string OP := (d1 rfl).now
          refine op_yields (.string (⟨#[40]⟩ ++ PA ++ ⟨#[32]⟩ ++ OP)) ?_ ?_ ?_
          · simp only [execOp, resolve, List.map_toArray, List.map_cons, List.map_nil, Act.eval, s68, s74]; simp [go_sem, -Array.getD_eq_getD_getElem?, s68, s74, l3]
          · exact Below.refl _ _
          · exact (fun _ _ => rfl)
        case o14 =>
          intro a w hfr hG hd
          obtain ⟨d0, _⟩ := hd
          refine ⟨fun hw => ?_, fun hw => absurd hw (by simp [Region.wanted])⟩
          have s75 : a.tmps.getD 75 undef = .string (⟨#[40]⟩ ++ PA ++ ⟨#[32]⟩ ++ OP) := (d0 rfl).now
          refine op_yields (.string (⟨#[40]⟩ ++ PA ++ ⟨#[32]⟩ ++ OP ++ ⟨#[32]⟩)) ?_ ?_ ?_
          · simp only [execOp, resolve, List.map_toArray, List.map_cons, List.map_nil, Act.eval, s75]; simp [go_sem, -Array.getD_eq_getD_getElem?, s75, l4]
          · exact Below.refl _ _
          · exact (fun _ _ => rfl)
        case o15 =>
          intro a w hfr hG hd
          refine ⟨fun hw => ?_, fun hw => absurd hw (by simp [Region.wanted])⟩
          have s1 : a.tmps.getD 1 undef = .pointer (some ⟨b, 0, none⟩) := hfr.at 1 (by kernel_rfl)
          refine op_yields (.pointer (some ⟨b, 4, none⟩)) ?_ ?_ ?_
          · simp only [execOp, resolve, List.map_toArray, List.map_cons, List.map_nil, Act.eval, s1]; simp [go_sem, -Array.getD_eq_getD_getElem?, s1]
          · exact Below.refl _ _
          · exact (fun _ _ => rfl)
        case o16 =>
          intro a w hfr hG hd
          obtain ⟨d0, _⟩ := hd
          refine ⟨fun hw => ?_, fun hw => absurd hw (by simp [Region.wanted])⟩
          have s77 : a.tmps.getD 77 undef = .pointer (some ⟨b, 4, none⟩) := (d0 rfl).now
          have z4 := hG.now.box.cell 4; simp only [List.getElem?_cons_zero, List.getElem?_cons_succ] at z4
          refine op_yields (.slice (some ad) ks.length c3) ?_ ?_ ?_
          · simp only [execOp, resolve, List.map_toArray, List.map_cons, List.map_nil, Act.eval, s77]; simp [go_sem, -Array.getD_eq_getD_getElem?, s77, z4]
          · exact Below.refl _ _
          · exact (fun _ _ => rfl)
        case o17 =>
          intro a w hfr hG hd
          obtain ⟨d0, _⟩ := hd
          refine ⟨fun hw => ?_, fun hw => absurd hw (by simp [Region.wanted])⟩
          have s78 : a.tmps.getD 78 undef = .slice (some ad) ks.length c3 := (d0 rfl).now
          refine op_yields (.pointer (some (ad.add 5))) ?_ ?_ ?_
          · simp only [execOp, resolve, List.map_toArray, List.map_cons, List.map_nil, Act.eval, s78]; simp [go_sem, -Array.getD_eq_getD_getElem?, s78, kp1]
          · exact Below.refl _ _
          · exact (fun _ _ => rfl)
        case o18 =>
          intro a w hfr hG hd
          obtain ⟨d0, _⟩ := hd
          refine ⟨fun hw => ?_, fun hw => absurd hw (by simp [Region.wanted])⟩
          have s79 : a.tmps.getD 79 undef = .pointer (some (ad.add 5)) := (d0 rfl).now
          obtain ⟨z0, z1, z2, z3, z4⟩ := kid_cells5 (HCL.out w hG.now)
          refine op_yields (.agg #[.int .i64 qb.kd, .int .i64 qb.n, qb.mv, qb.nv, qb.kv]) ?_ ?_ ?_
          · simp only [execOp, resolve, List.map_toArray, List.map_cons, List.map_nil, Act.eval, s79]; simp [go_sem, -Array.getD_eq_getD_getElem?, s79, z0, z1, z2, z3, z4]
          · exact Below.refl _ _
          · exact (fun _ _ => rfl)
        case o19 =>
          intro a w hfr hG hd
          obtain ⟨d0, d1, _⟩ := hd
          refine ⟨fun hw => ?_, fun hw => absurd hw (by simp [Region.wanted])⟩
          have s80 : a.tmps.getD 80 undef = .agg #[.int .i64 qb.kd, .int .i64 qb.n, qb.mv, qb.nv, qb.kv] := (d0 rfl).now
          refine op_calls2 ((HOB2.out w hG.now).mono fun e' w' hh => ⟨_, hh.1, hh.2, (fun _ _ => rfl)⟩) ?_
          simp only [execOp, resolve, List.map_toArray, List.map_cons, List.map_nil, Act.eval, s80]; simp [go_sem, -Array.getD_eq_getD_getElem?, s80]
        case o20 =>
          intro a w hfr hG hd
          obtain ⟨d0, d1, _⟩ := hd
          refine ⟨fun hw => ?_, fun hw => absurd hw (by simp [Region.wanted])⟩
          have s76 : a.tmps.getD 76 undef = .string (⟨#[40]⟩ ++ PA ++ ⟨#[32]⟩ ++ OP ++ ⟨#[32]⟩) := (d0 rfl).now
          have s81 : a.tmps.getD 81 undef = .string PB := (d1 rfl).now
          refine op_yields (.string (⟨#[40]⟩ ++ PA ++ ⟨#[32]⟩ ++ OP ++ ⟨#[32]⟩ ++ PB)) ?_ ?_ ?_
          · simp only [execOp, resolve, List.map_toArray, List.map_cons, List.map_nil, Act.eval, s76, s81]; simp [go_sem, -Array.getD_eq_getD_getElem?, s76, s81, l5]
          · exact Below.refl _ _
          · exact (fun _ _ => rfl)
        case o21 =>
          intro a w hfr hG hd
          obtain ⟨d0, _⟩ := hd
          refine ⟨fun hw => ?_, fun hw => absurd hw (by simp [Region.wanted])⟩
          have s82 : a.tmps.getD 82 undef = .string (⟨#[40]⟩ ++ PA ++ ⟨#[32]⟩ ++ OP ++ ⟨#[32]⟩ ++ PB) := (d0 rfl).now
          refine op_yields (.string (⟨#[40]⟩ ++ PA ++ ⟨#[32]⟩ ++ OP ++ ⟨#[32]⟩ ++ PB ++ ⟨#[41]⟩)) ?_ ?_ ?_
          · simp only [execOp, resolve, List.map_toArray, List.map_cons, List.map_nil, Act.eval, s82]; simp [go_sem, -Array.getD_eq_getD_getElem?, s82, l6]
          · exact Below.refl _ _
          · exact (fun _ _ => rfl)
        case o22 =>
          intro a w hfr hG hd
          obtain ⟨d0, d1, d2, d3, d4, d5, d6, d7, d8, d9, d10, d11, d12, d13, d14, d15, d16, d17, d18, d19, d20, d21, d22, d23, _⟩ := hd
          refine ⟨fun hw => ?_, fun hw => absurd hw (by simp [Region.wanted])⟩
          have s83 : a.tmps.getD 83 undef = .string (⟨#[40]⟩ ++ PA ++ ⟨#[32]⟩ ++ OP ++ ⟨#[32]⟩ ++ PB ++ ⟨#[41]⟩) := (d0 rfl).now
          refine op_yields (.string (⟨#[40]⟩ ++ PA ++ ⟨#[32]⟩ ++ OP ++ ⟨#[32]⟩ ++ PB ++ ⟨#[41]⟩)) ?_ ?_ ?_
          · simp only [execOp, resolve, List.map_toArray, List.map_cons, List.map_nil, Act.eval, s83]; simp [go_sem, -Array.getD_eq_getD_getElem?, s83]
          · exact Below.refl _ _
          · exact (fun _ _ => rfl)
        case hG => exact fun w' hb => HP.out.below ((Below.refl _ _).drew.trans (hb.mono (by simp)))
        case hend =>
          intro vs w' hG hv
          have key : vs 21 = .string (⟨#[40]⟩ ++ PA ++ ⟨#[32]⟩ ++ OP ++ ⟨#[32]⟩ ++ PB ++ ⟨#[41]⟩) ∧ vs 22 = .string (⟨#[40]⟩ ++ PA ++ ⟨#[32]⟩ ++ OP ++ ⟨#[32]⟩ ++ PB ++ ⟨#[41]⟩) := by
            obtain ⟨_, _, _, _, _, _, _, _, _, _, _, _, _, _, _, _, _, _, _, _, _, h21, h22, _⟩ := hv
            exact ⟨h21.now, h22.now⟩
          have HP2 := Lib.hid hG.now
          clear hv hG HP HOA2 HOB2 HCL
          rw [HE.out] at key
          simp only [putAll, Act.put, key.1, key.2]
          clear key
          go_wp2_with fail
          refine bodyPost_ret (v := .string T) (by simp [results, Tryz.results7, go_sem]) rfl ?_
          exact ⟨rfl, HP2.out.bel⟩
theorem print_any : ∀ (d : Nat), d ≤ 21 → PrintSaid d
  | 0, _ => fun x w h _ => h.elim
  | d + 1, hd => print_step d (by omega) (print_any d (by omega))
/-- Print of a right expression of numbers: at most so many bytes. -/
theorem printV_len {x : XE} (h : keepV 5 x) : (printX 5 x).length ≤ 32000 := by
  have h1 := printX_len 5 x (keepV_good 5 x h)
  have h2 : (2 : Nat) ^ (5 + 1) = 64 := rfl
  omega
end Go.Proofs.YtcaapbbbekggiaaGreatDoor

namespace Go.Proofs.YtcaapbbbekggiaaGreatDoor
open Go.ChangeShapes Go.WideShapes Go.ChangeAt Go.RowKit
set_option linter.unusedVariables false
set_option linter.unusedSimpArgs false
set_option maxRecDepth 100000
/-- There are tokens, at most so many. -/
def Cuts (l : List UInt8) (n : Nat) (rest : List UInt8) : Prop := ∃ ts, CutR l ts rest ∧ ts.length ≤ n
theorem Cuts.nil (rest : List UInt8) : Cuts [] 0 rest := ⟨[], CutR.nil rest, Nat.le_refl _⟩
theorem Cuts.blank {l rest : List UInt8} {n : Nat} (b : UInt8) (hb : (b.toNat == 32 || b.toNat == 10) = true) (h : Cuts l n rest) : Cuts (b :: l) n rest := by
  obtain ⟨ts, h1, h2⟩ := h
  exact ⟨_, CutR.blank b hb h1, by rw [List.length_map]; exact h2⟩
theorem Cuts.tok {l rest : List UInt8} {n : Nat} (t : Tok) (ht : okTok t) (h0 : t.at_ = 0) (hf : FollowL t (l ++ rest)) (h : Cuts l n rest) : Cuts (tokL t ++ l) (n + 1) rest := by
  obtain ⟨ts, h1, h2⟩ := h
  exact ⟨_, CutR.tok t ht h0 hf h1, by rw [List.length_cons, List.length_map]; omega⟩
theorem Cuts.append {l l2 rest : List UInt8} {n m : Nat} (h : Cuts l n (l2 ++ rest)) (h2 : Cuts l2 m rest) : Cuts (l ++ l2) (n + m) rest := by
  obtain ⟨ts, h1, h3⟩ := h
  obtain ⟨us, h4, h5⟩ := h2
  exact ⟨_, h1.append h4 rfl, by rw [List.length_append, List.length_map]; omega⟩
theorem Cuts.more {l rest : List UInt8} {n m : Nat} (h : Cuts l n rest) (hm : n ≤ m) : Cuts l m rest := by
  obtain ⟨ts, h1, h2⟩ := h
  exact ⟨ts, h1, by omega⟩
/-- One sign ahead. -/
theorem Cuts.sign {l rest : List UInt8} {n : Nat} (x : ByteArray) (hx : x ∈ signsL) (hf : ∀ c r, l ++ rest = c :: r → signOk x.data.toList c = true) (h : Cuts l n rest) : Cuts (x.data.toList ++ l) (n + 1) rest :=
  h.tok ⟨4, 0, 0, x⟩ (.inr (.inr (.inr ⟨rfl, rfl, hx⟩))) rfl (fun c r e => hf c r e)
theorem Cuts.word {l rest : List UInt8} {n : Nat} (x : ByteArray) {c : UInt8} {r : List UInt8} (e : x.data.toList = c :: r) (hc : smallN c.toNat = true) (hr : ∀ y ∈ r, withinN y.toNat = true) (hl : r.length ≤ 23) (hf : ∀ c r, l ++ rest = c :: r → withinN c.toNat = false) (h : Cuts l n rest) : Cuts (x.data.toList ++ l) (n + 1) rest :=
  h.tok ⟨2, 0, 0, x⟩ (.inr (.inl ⟨rfl, rfl, c, r, e, hc, hr, hl⟩)) rfl (fun c r e => by show (!withinN c.toNat) = true; rw [hf c r e]; rfl)
theorem Cuts.text {l rest : List UInt8} {n : Nat} (x : ByteArray) (hx : x.size ≤ 24) (h : Cuts l n rest) : Cuts (quoteL x.data.toList ++ l) (n + 1) rest :=
  h.tok ⟨3, 0, 0, x⟩ (.inr (.inr (.inl ⟨rfl, rfl, hx⟩))) rfl (fun c r e => rfl)
theorem Cuts.num {l rest : List UInt8} {n : Nat} (z : Int) (hz : I64 z) (hf : ∀ c r, l ++ rest = c :: r → digitN c.toNat = false) (h : Cuts l n rest) : Cuts (Lib.itoa z ++ l) (n + 1) rest :=
  h.tok ⟨1, z, 0, ⟨#[]⟩⟩ (.inl ⟨rfl, hz, rfl⟩) rfl (fun c r e => by show (!digitN c.toNat) = true; rw [hf c r e]; rfl)
/-- No digit follows. -/
def NoDigit (rest : List UInt8) : Prop := ∀ c r, rest = c :: r → digitN c.toNat = false
theorem head_is {c d : UInt8} {l r : List UInt8} (e : d :: l = c :: r) : c = d := by injection e with e _; exact e.symm
/-- klaxonkeep's names are words. -/
theorem keepName_word2 {x : ByteArray} (h : x ∈ keepNames) : ∃ c r, x.data.toList = c :: r ∧ smallN c.toNat = true ∧ (∀ y ∈ r, withinN y.toNat = true) ∧ r.length ≤ 23 := by
  simp only [keepNames, List.mem_cons, List.not_mem_nil, or_false] at h
  rcases h with rfl | rfl | rfl | rfl
  · exact ⟨97, [], rfl, by decide, by simp, by simp⟩
  · exact ⟨98, [], rfl, by decide, by simp, by simp⟩
  · exact ⟨99, [], rfl, by decide, by simp, by simp⟩
  · exact ⟨110, [97, 109, 101], rfl, by decide, by decide, by simp⟩
theorem signF_mem {kd : Int} (h1 : 1 ≤ kd) (h4 : kd ≤ 4) : signF kd ∈ signsL ∧ ∃ c r, (signF kd).data.toList = c :: r ∧ withinN c.toNat = false := by
  have hk : kd = 1 ∨ kd = 2 ∨ kd = 3 ∨ kd = 4 := by omega
  rcases hk with rfl | rfl | rfl | rfl
  · exact ⟨(by simp [signsL] : (⟨#[61]⟩ : ByteArray) ∈ signsL), 61, [], rfl, by decide⟩
  · exact ⟨(by simp [signsL] : (⟨#[33, 61]⟩ : ByteArray) ∈ signsL), 33, [61], rfl, by decide⟩
  · exact ⟨(by simp [signsL] : (⟨#[94, 61]⟩ : ByteArray) ∈ signsL), 94, [61], rfl, by decide⟩
  · exact ⟨(by simp [signsL] : (⟨#[33, 94]⟩ : ByteArray) ∈ signsL), 33, [94], rfl, by decide⟩
theorem signOk_quote (s : List UInt8) : signOk s 34 = true := by
  unfold signOk
  split
  · decide
  · split
    · decide
    · rfl
/-- A matcher's text: three tokens. -/
theorem mtc_cuts {x : Mtc} {l rest : List UInt8} {n : Nat} (hn : x.1 ∈ keepNames) (hv : x.2.1.size ≤ 24) (h1 : 1 ≤ x.2.2) (h4 : x.2.2 ≤ 4) (h : Cuts l n rest) : Cuts (mtcL x ++ l) (n + 3) rest := by
  obtain ⟨c, r, e, hc, hr, hl⟩ := keepName_word2 hn
  obtain ⟨hs, d, q, es, hd⟩ := signF_mem h1 h4
  have k1 := (h.text x.2.1 hv).sign (signF x.2.2) hs (fun c r e => by
    have : c = 34 := by unfold quoteL at e; exact head_is e
    rw [this]; exact signOk_quote _)
  have k2 := k1.word x.1 e hc hr hl (fun c' r' e' => by
    rw [es] at e'
    have : c' = d := head_is (show d :: (q ++ (quoteL x.2.1.data.toList ++ l) ++ rest) = c' :: r' by simpa using e')
    rw [this]; exact hd)
  unfold mtcL
  rw [List.append_assoc, List.append_assoc]
  exact k2
theorem keepNames_mem {a : Nat} (h : a < 3) : keepNames.getD a ⟨#[]⟩ ∈ keepNames := by
  match a, h with
  | 0, _ => exact (show (⟨#[97]⟩ : ByteArray) ∈ keepNames by simp [keepNames])
  | 1, _ => exact (show (⟨#[98]⟩ : ByteArray) ∈ keepNames by simp [keepNames])
  | 2, _ => exact (show (⟨#[99]⟩ : ByteArray) ∈ keepNames by simp [keepNames])
theorem comma_cuts {l rest : List UInt8} {n : Nat} (h : Cuts l n rest) : Cuts (44 :: l) (n + 1) rest :=
  h.sign ⟨#[44]⟩ (by simp [signsL]) (fun c r e => by unfold signOk; rw [if_neg (by decide), if_neg (by decide)])
theorem sign1_cuts {l rest : List UInt8} {n : Nat} (b : UInt8) (hb : (⟨#[b]⟩ : ByteArray) ∈ signsL) (h1 : ¬ (b = 61 ∨ b = 60 ∨ b = 62)) (h2 : b ≠ 45) (h : Cuts l n rest) : Cuts (b :: l) (n + 1) rest :=
  h.sign ⟨#[b]⟩ hb (fun c r e => by
    unfold signOk
    rw [if_neg (fun h => h1 (by simpa using h)), if_neg (fun h => h2 (by simpa using h))])
/-- The matchers' texts. -/
theorem keepMs_cuts {ms : List Mtc} (h : keepMs ms) {l rest : List UInt8} {n : Nat} (hc : Cuts l n rest) : Cuts (joinM ms ++ l) (n + 7) rest := by
  obtain ⟨c, _, h⟩ := h
  have hn : (⟨#[110, 97, 109, 101]⟩ : ByteArray) ∈ keepNames := by simp [keepNames]
  have h1 : (⟨#[c]⟩ : ByteArray).size ≤ 24 := by show #[c].size ≤ 24; simp
  rcases h with rfl | ⟨a, q, kd, ha, hq, hk1, hk4, rfl⟩
  · have k := mtc_cuts (x := (⟨#[110, 97, 109, 101]⟩, ⟨#[c]⟩, 1)) hn h1 (Int.le_refl 1) (by omega : (1 : Int) ≤ 4) hc
    unfold joinM
    simp only [List.isEmpty_nil, if_true, List.append_nil]
    exact k.more (by omega)
  · have h3 := keepValue_size q (by omega)
    have k1 := mtc_cuts (x := (keepNames.getD a ⟨#[]⟩, keepValues.getD q ⟨#[]⟩, kd)) (keepNames_mem ha) (by show (keepValues.getD q ⟨#[]⟩).size ≤ 24; omega) hk1 hk4 hc
    have k2 := mtc_cuts (x := (⟨#[110, 97, 109, 101]⟩, ⟨#[c]⟩, 1)) hn h1 (Int.le_refl 1) (by omega : (1 : Int) ≤ 4) (comma_cuts k1)
    have e : joinM [(⟨#[110, 97, 109, 101]⟩, ⟨#[c]⟩, 1), (keepNames.getD a ⟨#[]⟩, keepValues.getD q ⟨#[]⟩, kd)] ++ l = mtcL (⟨#[110, 97, 109, 101]⟩, ⟨#[c]⟩, 1) ++ (44 :: (mtcL (keepNames.getD a ⟨#[]⟩, keepValues.getD q ⟨#[]⟩, kd) ++ l)) := by
      unfold joinM joinM joinM
      simp
    rw [e]
    exact k2.more (by omega)
/-- Names with commas between, a sign behind. -/
theorem joinN_cuts : ∀ (ns : List ByteArray), (∀ x ∈ ns, x ∈ keepNames) → ∀ {l rest : List UInt8} {n : Nat}, Cuts (41 :: l) n rest → Cuts (joinN ns ++ (41 :: l)) (n + 2 * ns.length) rest
  | [], _, l, rest, n, h => by simpa [joinN] using h
  | x :: ns, hm, l, rest, n, h => by
    obtain ⟨c, r, e, hc, hr, hl⟩ := keepName_word2 (hm x List.mem_cons_self)
    have ih := joinN_cuts ns (fun y hy => hm y (List.mem_cons_of_mem _ hy)) h
    unfold joinN
    cases ns with
    | nil =>
      simp only [List.isEmpty_nil, if_true, List.append_nil, List.length_singleton]
      exact (h.word x e hc hr hl (fun d q e => by rw [head_is (show 41 :: (l ++ rest) = d :: q from e)]; decide)).more (by omega)
    | cons y ns =>
      simp only [List.isEmpty_cons, Bool.false_eq_true, if_false, List.append_assoc]
      exact ((comma_cuts ih).word x e hc hr hl (fun d q e => by rw [head_is (show 44 :: (joinN (y :: ns) ++ 41 :: l ++ rest) = d :: q from e)]; decide)).more (by simp only [List.length_cons]; omega)
theorem aggs_word : ∀ o, o < 4 → ∃ c r, (aggsL.getD o ⟨#[]⟩).data.toList = c :: r ∧ smallN c.toNat = true ∧ (∀ y ∈ r, withinN y.toNat = true) ∧ r.length ≤ 23 := by
  intro o h
  match o, h with
  | 0, _ => exact ⟨115, [117, 109], rfl, by decide, by decide, by simp⟩
  | 1, _ => exact ⟨109, [105, 110], rfl, by decide, by decide, by simp⟩
  | 2, _ => exact ⟨109, [97, 120], rfl, by decide, by decide, by simp⟩
  | 3, _ => exact ⟨99, [111, 117, 110, 116], rfl, by decide, by decide, by simp⟩
/-- An operator, blanks on both sides. -/
theorem op_cuts {o : Nat} (h : o < 14) {l rest : List UInt8} {n : Nat} (hc : Cuts l n rest) : Cuts ((opsL.getD o ⟨#[]⟩).data.toList ++ (32 :: l)) (n + 1) rest := by
  have hb := hc.blank 32 (by decide)
  have hs : ∀ x : ByteArray, x ∈ signsL → Cuts (x.data.toList ++ (32 :: l)) (n + 1) rest := fun x hx => hb.sign x hx (fun c r e => by
    rw [head_is (show 32 :: (l ++ rest) = c :: r from e)]
    exact (by simpa [follow] using follow_blank (t := ⟨4, 0, 0, x⟩) (.inr (.inr (.inr ⟨rfl, rfl, hx⟩))) 32 (.inl rfl)))
  have hw : ∀ (x : ByteArray) (c : UInt8) (r : List UInt8), x.data.toList = c :: r → smallN c.toNat = true → (∀ y ∈ r, withinN y.toNat = true) → r.length ≤ 23 → Cuts (x.data.toList ++ (32 :: l)) (n + 1) rest := fun x c r e h1 h2 h3 =>
    hb.word x e h1 h2 h3 (fun d q e => by rw [head_is (show 32 :: (l ++ rest) = d :: q from e)]; decide)
  match o, h with
  | 0, _ => exact hs ⟨#[43]⟩ (by simp [signsL])
  | 1, _ => exact hs ⟨#[45]⟩ (by simp [signsL])
  | 2, _ => exact hs ⟨#[42]⟩ (by simp [signsL])
  | 3, _ => exact hs ⟨#[47]⟩ (by simp [signsL])
  | 4, _ => exact hs ⟨#[37]⟩ (by simp [signsL])
  | 5, _ => exact hs ⟨#[61, 61]⟩ (by simp [signsL])
  | 6, _ => exact hs ⟨#[33, 61]⟩ (by simp [signsL])
  | 7, _ => exact hs ⟨#[60]⟩ (by simp [signsL])
  | 8, _ => exact hs ⟨#[60, 61]⟩ (by simp [signsL])
  | 9, _ => exact hs ⟨#[62]⟩ (by simp [signsL])
  | 10, _ => exact hs ⟨#[62, 61]⟩ (by simp [signsL])
  | 11, _ => exact hw ⟨#[97, 110, 100]⟩ 97 [110, 100] rfl (by decide) (by decide) (by simp)
  | 12, _ => exact hw ⟨#[111, 114]⟩ 111 [114] rfl (by decide) (by decide) (by simp)
  | 13, _ => exact hw ⟨#[117, 110, 108, 101, 115, 115]⟩ 117 [110, 108, 101, 115, 115] rfl (by decide) (by decide) (by simp)
/-- An expression of two, its kids' texts ahead and behind. -/
theorem two_cuts {a b rest : List UInt8} {o n m : Nat} (ho : o < 14) (ha : ∀ r, NoDigit r → Cuts a n r) (hb : ∀ r, NoDigit r → Cuts b m r) : Cuts (40 :: (a ++ (32 :: ((opsL.getD o ⟨#[]⟩).data.toList ++ (32 :: (b ++ [41])))))) (n + m + 3) rest := by
  have k1 : Cuts [41] 1 rest := sign1_cuts 41 (by simp [signsL]) (by decide) (by decide) (Cuts.nil rest)
  have k2 := (hb ([41] ++ rest) (fun c r e => by rw [head_is (show 41 :: rest = c :: r from e)]; decide)).append k1
  have k3 := (op_cuts ho k2).blank 32 (by decide)
  have k4 := (ha (32 :: ((opsL.getD o ⟨#[]⟩).data.toList ++ (32 :: (b ++ [41]))) ++ rest) (fun c r e => by rw [head_is (show 32 :: (((opsL.getD o ⟨#[]⟩).data.toList ++ (32 :: (b ++ [41]))) ++ rest) = c :: r from e)]; decide)).append k3
  exact (sign1_cuts 40 (by simp [signsL]) (by decide) (by decide) k4).more (by omega)
theorem num_cuts {d : Nat} {x : XE} {hi : Int} (hhi : hi ≤ 9) (h : x.kd = 1 ∧ -3 ≤ x.n ∧ x.n ≤ hi ∧ x.ms = [] ∧ x.ns = [] ∧ x.kids = []) : ∀ r, NoDigit r → Cuts (printX (d + 1) x) 1 r := by
  intro r hr
  have e : printX (d + 1) x = Lib.itoa x.n ++ [] := by rw [printX, if_pos h.1, List.append_nil]
  rw [e]
  exact (Cuts.nil r).num x.n (by obtain ⟨_, h1, h2, _⟩ := h; unfold I64; omega) hr
theorem keepN_cuts : ∀ (d : Nat) (x : XE), keepN d x → ∃ n, 2 * (n + 3) ≤ 15 * 2 ^ d ∧ ∀ r, NoDigit r → Cuts (printX d x) n r
  | 0, _, h => h.elim
  | d + 1, x, h => by
    obtain ⟨hp1, hp2⟩ := (show 2 ^ (d + 1) = 2 ^ d + 2 ^ d ∧ 1 ≤ 2 ^ d from ⟨by rw [Nat.pow_succ]; omega, Nat.one_le_two_pow⟩)
    rcases h with h | ⟨h1, h2, h3, h4, h5, a, b, hk, ha, hb⟩
    · exact ⟨1, by omega, num_cuts (by omega) h⟩
    · have hd := keepN_pos hb
      obtain ⟨d', rfl⟩ : ∃ d', d = d' + 1 := ⟨d - 1, by omega⟩
      obtain ⟨m, hm, hc⟩ := keepN_cuts _ b hb
      refine ⟨1 + m + 3, by omega, fun r hr => ?_⟩
      rw [printX_two (o := (x.kd - 3).toNat) (by omega) (by omega) (by omega) hk rfl]
      exact two_cuts (by omega) (num_cuts (by omega) ha) hc
theorem keepV_cuts : ∀ (d : Nat) (x : XE), keepV d x → ∃ n, 2 * (n + 3) ≤ 15 * 2 ^ d ∧ ∀ r, NoDigit r → Cuts (printX d x) n r
  | 0, _, h => h.elim
  | d + 1, x, h => by
    obtain ⟨hp1, hp2⟩ := (show 2 ^ (d + 1) = 2 ^ d + 2 ^ d ∧ 1 ≤ 2 ^ d from ⟨by rw [Nat.pow_succ]; omega, Nat.one_le_two_pow⟩)
    rcases h with ⟨h1, h2, h3, h4, h5, h6⟩ | ⟨h1, h2, h3, h4, h5, a, b, hk, ha, hb⟩ | ⟨h1, h2, h3, h4, h5, a, b, hk, ha, hb⟩ | ⟨h1, h2, h3, h4, h5, a, b, hk, ha, hb⟩ | ⟨h1, h2, h3, h4, h5, a, hk, ha⟩
    · refine ⟨12, by omega, fun r hr => ?_⟩
      have e : printX (d + 1) x = 123 :: (joinM x.ms ++ (125 :: 91 :: (Lib.itoa x.n ++ [93]))) := by rw [printX, if_neg (by omega), if_pos h1]
      rw [e]
      have k1 : Cuts [93] 1 r := sign1_cuts 93 (by simp [signsL]) (by decide) (by decide) (Cuts.nil r)
      have k2 := k1.num x.n (by unfold I64; omega) (fun c q e => by rw [head_is (show 93 :: r = c :: q from e)]; decide)
      have k3 := sign1_cuts 125 (by simp [signsL]) (by decide) (by decide) (sign1_cuts 91 (by simp [signsL]) (by decide) (by decide) k2)
      exact (sign1_cuts 123 (by simp [signsL]) (by decide) (by decide) (keepMs_cuts h4 k3)).more (by omega)
    · have hd := keepV_pos ha
      obtain ⟨d', rfl⟩ : ∃ d', d = d' + 1 := ⟨d - 1, by omega⟩
      obtain ⟨m, hm, hc⟩ := keepV_cuts _ a ha
      have hq : 1 ≤ 2 ^ d' := Nat.one_le_two_pow
      have hq2 : 2 ^ (d' + 1) = 2 ^ d' + 2 ^ d' := by rw [Nat.pow_succ]; omega
      refine ⟨m + 1 + 3, by omega, fun r hr => ?_⟩
      rw [printX_two (o := (x.kd - 3).toNat) (by omega) (by omega) (by omega) hk rfl]
      exact two_cuts (by omega) hc (num_cuts (by omega) hb)
    · obtain ⟨m, hm, hc⟩ := keepV_cuts _ a ha
      obtain ⟨m2, hm2, hc2⟩ := keepV_cuts _ b hb
      refine ⟨m + m2 + 3, by omega, fun r hr => ?_⟩
      rw [printX_two (o := (x.kd - 3).toNat) (by omega) (by omega) (by omega) hk rfl]
      exact two_cuts (by omega) hc hc2
    · obtain ⟨m, hm, hc⟩ := keepV_cuts _ a ha
      obtain ⟨m2, hm2, hc2⟩ := keepN_cuts _ b hb
      refine ⟨m + m2 + 3, by omega, fun r hr => ?_⟩
      rw [printX_two (o := (x.kd - 3).toNat) (by omega) (by omega) (by omega) hk rfl]
      exact two_cuts (by omega) hc hc2
    · have hd := keepV_pos ha
      obtain ⟨d', rfl⟩ : ∃ d', d = d' + 1 := ⟨d - 1, by omega⟩
      have hq : 1 ≤ 2 ^ d' := Nat.one_le_two_pow
      have hq2 : 2 ^ (d' + 1) = 2 ^ d' + 2 ^ d' := by rw [Nat.pow_succ]; omega
      obtain ⟨m, hm, hc⟩ := keepV_cuts _ a ha
      have hn4 := h5.length_le
      refine ⟨m + 14, by omega, fun r hr => ?_⟩
      rw [printX_one (o := (x.kd - 17).toNat) (by omega) (by omega) (by omega) hk rfl]
      obtain ⟨c, q, e, hcc, hqq, hll⟩ := aggs_word (x.kd - 17).toNat (by omega)
      have k1 : Cuts [41] 1 r := sign1_cuts 41 (by simp [signsL]) (by decide) (by decide) (Cuts.nil r)
      have k2 := (hc ([41] ++ r) (fun c q e => by rw [head_is (show 41 :: r = c :: q from e)]; decide)).append k1
      have k3 := (sign1_cuts 40 (by simp [signsL]) (by decide) (by decide) k2).blank 32 (by decide)
      have k4 := sign1_cuts 41 (by simp [signsL]) (by decide) (by decide) k3
      have k5 := joinN_cuts x.ns (fun y hy => h5.subset hy) k4
      have k6 := (sign1_cuts 40 (by simp [signsL]) (by decide) (by decide) k5).blank 32 (by decide)
      have k7 := (k6.word ⟨#[98, 121]⟩ (c := 98) (r := [121]) rfl (by decide) (by decide) (by simp) (fun c q e => by rw [head_is (show 32 :: _ = c :: q from e)]; decide)).blank 32 (by decide)
      have k8 := k7.word (aggsL.getD (x.kd - 17).toNat ⟨#[]⟩) e hcc hqq hll (fun c q e => by rw [head_is (show 32 :: _ = c :: q from e)]; decide)
      have h44 : keepNames.length = 4 := rfl
      exact k8.more (by omega)
/-- The text of an expression of numbers, and its tokens. -/
theorem keepV_toks {x : XE} (h : keepV 5 x) : ∃ ts, tokF (printX 5 x) = (ts, (printX 5 x).length) ∧ ts.length ≤ 237 ∧ ∀ t ∈ ts, okTok t := by
  obtain ⟨n, hn, hc⟩ := keepV_cuts 5 x h
  obtain ⟨ts, h1, h2⟩ := hc [] (fun c r e => by cases e)
  have h3 : (2 : Nat) ^ 5 = 32 := rfl
  exact ⟨ts, h1.tokF (by omega), by omega, h1.ok⟩
end Go.Proofs.YtcaapbbbekggiaaGreatDoor
