/- Texts, merged in one. -/
import Derived.Test.YtlmakdclebbbkaaGreatBase5
import Derived.Test.YtlmakdclebbbkaaGreatBase4
import Derived.Deep.RegionLaw
import Derived.Laws.BytesArg
import Derived.Laws.IdiomStrings
import Derived.Test.YtlmakdclebbbkaaGreatBase33
import Derived.Test.YtlmakdclebbbkaaGreatBase7
import Derived.Deep.RegionHeld3
import Derived.Deep.CutBlock
import Derived.Deep.DeepCutAuto
import Derived.Deep.QuietTactic
import Derived.BigQuiet
namespace Go.Proofs.YtlmakdclebbbkaaGreat
open Go.ChangeShapes Go.WideShapes Go.ChangeAt Go.RowKit
set_option linter.unusedVariables false
set_option linter.unusedSimpArgs false
set_option maxRecDepth 100000
theorem step_append_at3 {P : Program} {w : World} {ops : Array Oper} {o : Oper} {a : Act} {K : Act → World → Prop} {Q : Exit → Act → World → Prop} {E : Prop} (hgd : o.guard = none) (s x : Operand) (t : TypeId)
    (ho : o.op = .call { callee := .builtin .append, args := #[s, x], argTypes := #[t, t] })
    (base : Nat) (e : TypeId) (i : TypeInfo) (z : Value) (size bytes : Nat) (ht : P.underlying t = some (.slice e)) (hi : P.info? e = some i) (hz : i.zero = some z)
    (hsize : i.size = size) (hby : i.bytes = bytes) (hzs : z.cells.size = size) (hsz : 0 < size)
    (v : Value) (n : Nat) (xs : List Value) (hv : a.eval s = v) (hown : w.ownsRow base e size v n xs)
    (B : Nat) (A : Option Addr) (m c : Nat) (news : List Value) (hx : a.eval x = .slice A m c) (hs : Sees w B size A m news) (h1 : ∀ u ∈ news, u.oneCell' = true)
    (h63 : n + m ≤ maxLen) (hbytes : (n + m) * bytes ≤ 140737488355328) (hbase : base ≤ w.heap.size)
    (h : ∀ v' w', w'.ownsRow base e size v' (n + m) (xs ++ news) → w.grownBy w' v.ownBlock → Where w v v' → K (a.put o.dst v') w') :
    if Region.wanted o (yielded ops a.tmps) = true then Oper.wp P o a w K Q else E := by
  have hw : Region.wanted o (yielded ops a.tmps) = true := by simp [Region.wanted, hgd]
  rw [if_pos hw]
  obtain ⟨v', w', hr, h2, h3⟩ := append_run (P := P) w base t o.type e i z size bytes ht hi hz hsize hby hzs hsz v n xs hown B A m c news hs h1 h63 hbytes hbase
  have h4 := append_where (P := P) w base t o.type e i z size bytes ht hi hz hsize hby hzs hsz v n xs hown B A m c news hs h1 h63 hbytes v' w' hr
  unfold Oper.wp execOp
  simp only [ho, resolve, invoke, builtin, Sem.run_bind, Sem.run_pure, Result.andThen_ok, List.map_toArray, List.map_cons, List.map_nil, hv, hx, hr]
  exact h v' w' h2 h3 h4
theorem I64_tdiv {v d : Int} (h : I64 v) (hd : 0 < d) : I64 (v.tdiv d) := by
  unfold I64 at *
  have h1 : (v.tdiv d).natAbs ≤ v.natAbs := by
    rw [Int.natAbs_tdiv]; exact Nat.div_le_self _ _
  rcases Int.le_total 0 v with h2 | h2
  · have := Int.tdiv_nonneg h2 (Int.le_of_lt hd)
    omega
  · have : v.tdiv d ≤ 0 := by
      have h3 := Int.tdiv_nonneg (a := -v) (b := d) (by omega) (Int.le_of_lt hd)
      rw [Int.neg_tdiv] at h3; omega
    omega
theorem name_cell {w : World} {g a : Nat} (h : Blk w g 9 (strs keepNames)) (ha : a < 3) : w.cell? ⟨g, a, none⟩ = some (.string (keepNames.getD a ⟨#[]⟩)) := by
  rw [h.cell a]
  match a, ha with
  | 0, _ => rfl
  | 1, _ => rfl
  | 2, _ => rfl
theorem value_cell {w : World} {g a : Nat} (h : Blk w g 9 (strs keepValues)) (ha : a < 4) : w.cell? ⟨g, a, none⟩ = some (.string (keepValues.getD a ⟨#[]⟩)) := by
  rw [h.cell a]
  match a, ha with
  | 0, _ => rfl
  | 1, _ => rfl
  | 2, _ => rfl
  | 3, _ => rfl
theorem conv_at (w : World) (g : Nat) (c : UInt8) (v : Int) (hv : v = c.toNat) (hb : Blk w g 5 [.int .u8 v]) :
    (convert 107 9 (.slice (some ⟨g, 0, none⟩) 1 1)).run Tryz.prog w = .ok (.string ⟨#[c]⟩) w := by
  subst hv
  refine run_convert_bytes_back _ 107 9 5 ⟨g, 0, none⟩ 1 [c] Tryz.underlying107 Tryz.underlying5 Tryz.underlying9 fun j hj => ?_
  have hj0 : j = 0 := by simpa using hj
  subst hj0
  rw [add_zero']
  exact hb.cell 0
end Go.Proofs.YtlmakdclebbbkaaGreat

namespace Go.Proofs.YtlmakdclebbbkaaGreat
open Go.ChangeShapes Go.WideShapes Go.ChangeAt Go.RowKit
set_option linter.unusedVariables false
set_option linter.unusedSimpArgs false
set_option maxRecDepth 100000
theorem Only.grown {b : Nat} {w w' : World} (h : Only b w w') : w.grownBy w' (some b) := ⟨h.os, h.tape, h.output, h.size, fun k hk hn => h.block k hk (fun e => hn (by rw [e]))⟩
section
variable {ts : List Tok} {en : Int} {s : PS} {n : Nat}
end
end Go.Proofs.YtlmakdclebbbkaaGreat

namespace Go.Proofs.YtlmakdclebbbkaaGreat
open Go.ChangeShapes Go.WideShapes Go.ChangeAt Go.RowKit
set_option linter.unusedVariables false
set_option linter.unusedSimpArgs false
set_option maxRecDepth 100000
def NextAns (b i : Nat) (w : World) (e : Ending) (w' : World) : Prop := ∃ kd n : Int, I64 kd ∧ I64 n ∧ e = .returned (.tuple #[.int .i64 kd, .int .i64 n]) ∧ Blk w' b 3 [.int .i64 ((i + 1 : Nat) : Int)] ∧ w.grownBy w' (some b)
theorem pickF_I64 {l : List Int} (h : ∀ z ∈ l, I64 z) (i : Nat) : I64 (pickF l i) := by
  rw [pickF]
  split
  · exact h _ (List.getElem_mem _)
  · unfold I64; omega
set_option maxHeartbeats 2000000 in
theorem next_any (k : KSet) (b B i : Nat) (w : World) (hk : k.ok B w) (hB : B ≤ b) (hb : Blk w b 3 [.int .i64 i]) (hi : i ≤ 1000) :
    Calls Tryz.prog 80 #[k.val, .pointer (some ⟨b, 0, none⟩)] w (NextAns b i w) := by
  have hn := hk.n_
  have hn2 := hk.n2_
  have hlt := hb.lt
  have HPI := Lib.hid (pickF_I64 hk.valsI i)
  have e0 := hb.cell 0
  have f0 := hb.frozen 0
  simp only [List.getElem?_cons_zero] at e0
  have HB1 := Lib.hid (show Blk ((w.setCell ⟨b, 0, none⟩ (.int .i64 ((i : Int) + 1))).alloc (.cells #[.slice k.A k.n k.c, .slice k.A2 k.n2 k.c2] 53)) b 3 [.int .i64 ((i + 1 : Nat) : Int)] from ((hb.set 0 (.int .i64 ((i : Int) + 1))).alloc _))
  have HG1 := Lib.hid (show w.grownBy ((w.setCell ⟨b, 0, none⟩ (.int .i64 ((i : Int) + 1))).alloc (.cells #[.slice k.A k.n k.c, .slice k.A2 k.n2 k.c2] 53)) (some b) from only_alloc (only_setCell (World.grownBy.refl w _) (p := ⟨b, 0, none⟩) (.inl rfl) _) _)
  have HC := Lib.hid (show Blk ((w.setCell ⟨b, 0, none⟩ (.int .i64 ((i : Int) + 1))).alloc (.cells #[.slice k.A k.n k.c, .slice k.A2 k.n2 k.c2] 53)) w.heap.size 53 [.slice k.A k.n k.c, .slice k.A2 k.n2 k.c2] from by
    have h := heap_alloc_new (w.setCell ⟨b, 0, none⟩ (.int .i64 ((i : Int) + 1))) (.cells #[.slice k.A k.n k.c, .slice k.A2 k.n2 k.c2] 53)
    rw [show (w.setCell ⟨b, 0, none⟩ (.int .i64 ((i : Int) + 1))).heap.size = w.heap.size by simp [World.setCell]] at h
    exact Blk.mk h)
  have HK := Lib.hid (show k.ok B ((w.setCell ⟨b, 0, none⟩ (.int .i64 ((i : Int) + 1))).alloc (.cells #[.slice k.A k.n k.c, .slice k.A2 k.n2 k.c2] 53)) from by
    have hg := HG1.out
    have hs : B ≤ w.heap.size := by omega
    have hr : ∀ g, some b = some g → B ≤ g := fun g e => by injection e with e; omega
    exact ⟨hk.has_.grown hg hs hr, hk.hasI, hk.n_, hk.vals_.grown hg hs hr, hk.valsI, hk.n2_⟩)
  clear hk hb
  show Calls _ _ #[.agg #[.slice k.A k.n k.c, .slice k.A2 k.n2 k.c2], _] _ _
  go_enter Tryz.func80, Tryz.ntmps80
  go_upto_region 3 with fail
  generalize (w.setCell ⟨b, 0, none⟩ (.int .i64 ((i : Int) + 1))).alloc (.cells #[.slice k.A k.n k.c, .slice k.A2 k.n2 k.c2] 53) = W1 at *
  have c0 := HC.out.cell 0
  have c1 := HC.out.cell 1
  simp only [List.getElem?_cons_zero, List.getElem?_cons_succ] at c0 c1
  clear e0 f0 hlt
  have HPK := Lib.hid (pick_any k.A2 k.n2 k.c2 B k.vals i W1 HK.out.vals_ (by omega) (by omega))
  by_cases h1 : i < k.n
  · by_cases h2 : i < 30
    · obtain ⟨ad, hkl, hA, hc⟩ := HK.out.has_.int h1
      have hI := HK.out.hasI _ (List.getElem_mem hkl)
      generalize k.has[i] = kd at *
      rw [hA] at c0
      have HAX := Lib.hid hA
      clear hA
      have i1 : ¬ (k.n : Int) ≤ i := by omega
      have i2 : ¬ (30 : Int) ≤ i := by omega
      go_upto_region 5 with fail
      have HVS := Lib.hid (show Sees W1.drew B 1 k.A2 k.n2 (ints k.vals) from HK.out.vals_.drewN 1)
      have HSX := Lib.hid (⟨c0, c1, hc⟩ : W1.cell? ⟨w.heap.size, 0, none⟩ = some (.slice (some ad) k.n k.c) ∧ W1.cell? ⟨w.heap.size, 1, none⟩ = some (.slice k.A2 k.n2 k.c2) ∧ W1.cell? (ad.add i) = some (.int .i64 kd))
      go_region_held3 (fun V => V.cell? ⟨w.heap.size, 0, none⟩ = some (.slice (some ad) k.n k.c) ∧ V.cell? ⟨w.heap.size, 1, none⟩ = some (.slice k.A2 k.n2 k.c2) ∧ V.cell? (ad.add i) = some (.int .i64 kd)) (exact HSX.out) (first | (go_at_call 77; (with_reducible refine (pick_any k.A2 k.n2 k.c2 B k.vals i _ HVS.out (by omega) (by omega)).mono ?_); rintro e wz ⟨rfl, rfl⟩) | fail)
      all_goals
        go_wp2_with fail
        go_ret2
        exact ⟨kd, pickF k.vals i, hI, HPI.out, rfl, HB1.out, only_drew HG1.out⟩
    · have i1 : ¬ (k.n : Int) ≤ i := by omega
      have i2 : (30 : Int) ≤ i := by omega
      go_wp2_with fail
      (with_reducible refine HPK.out.mono ?_); rintro e wz ⟨rfl, rfl⟩
      go_wp2_with fail
      go_ret2
      exact ⟨0, pickF k.vals i, by unfold I64; omega, HPI.out, rfl, HB1.out, HG1.out⟩
  · have i1 : (k.n : Int) ≤ i := by omega
    go_wp2_with fail
    (with_reducible refine HPK.out.mono ?_); rintro e wz ⟨rfl, rfl⟩
    go_wp2_with fail
    go_ret2
    exact ⟨0, pickF k.vals i, by unfold I64; omega, HPI.out, rfl, HB1.out, HG1.out⟩
theorem next_v (k : KSet) (b B i : Nat) (w : World) (hk : k.ok B w) (hB : B ≤ b) (hb : Blk w b 3 [.int .i64 i]) (hi : i ≤ 1000) :
    Calls Tryz.prog 80 #[.agg #[.slice k.A k.n k.c, .slice k.A2 k.n2 k.c2], .pointer (some ⟨b, 0, none⟩)] w (NextAns b i w) := next_any k b B i w hk hB hb hi
def set5W (w : World) (b : Nat) (v0 v1 v2 v3 v4 : Value) : World := ((((w.setCell ⟨b, 0, none⟩ v0).setCell ⟨b, 1, none⟩ v1).setCell ⟨b, 2, none⟩ v2).setCell ⟨b, 3, none⟩ v3).setCell ⟨b, 4, none⟩ v4
theorem set5W_blk {w : World} {b : Nat} {t : TypeId} {x0 x1 x2 x3 x4 : Value} (h : Blk w b t [x0, x1, x2, x3, x4]) (v0 v1 v2 v3 v4 : Value) : Blk (set5W w b v0 v1 v2 v3 v4) b t [v0, v1, v2, v3, v4] := ((((h.set 0 v0).set 1 v1).set 2 v2).set 3 v3).set 4 v4
theorem set5W_grown (w : World) (b : Nat) (v0 v1 v2 v3 v4 : Value) : w.grownBy (set5W w b v0 v1 v2 v3 v4) (some b) :=
  only_setCell (p := ⟨b, 4, none⟩) (only_setCell (p := ⟨b, 3, none⟩) (only_setCell (p := ⟨b, 2, none⟩) (only_setCell (p := ⟨b, 1, none⟩) (only_setCell (p := ⟨b, 0, none⟩) (World.grownBy.refl w _) (.inl rfl) _) (.inl rfl) _) (.inl rfl) _) (.inl rfl) _) (.inl rfl) _
theorem blk_cells5 {w : World} {b : Nat} {t : TypeId} {x0 x1 x2 x3 x4 : Value} (h : Blk w b t [x0, x1, x2, x3, x4]) : w.cell? ⟨b, 0, none⟩ = some x0 ∧ w.cell? ⟨b, 1, none⟩ = some x1 ∧ w.cell? ⟨b, 2, none⟩ = some x2 ∧ w.cell? ⟨b, 3, none⟩ = some x3 ∧ w.cell? ⟨b, 4, none⟩ = some x4 :=
  ⟨h.cell 0, h.cell 1, h.cell 2, h.cell 3, h.cell 4⟩
theorem blk_fr5 {w : World} {b : Nat} {t : TypeId} {x0 x1 x2 x3 x4 : Value} (h : Blk w b t [x0, x1, x2, x3, x4]) : w.frozen? ⟨b, 0, none⟩ = false ∧ w.frozen? ⟨b, 1, none⟩ = false ∧ w.frozen? ⟨b, 2, none⟩ = false ∧ w.frozen? ⟨b, 3, none⟩ = false ∧ w.frozen? ⟨b, 4, none⟩ = false :=
  ⟨h.frozen 0, h.frozen 1, h.frozen 2, h.frozen 3, h.frozen 4⟩
structure VecAtX (k : KSet) (B b : Nat) (w0 : World) (b3 b6 j : Nat) (w : World) : Prop where
  box : Blk w b3 53 [.slice k.A k.n k.c, .slice k.A2 k.n2 k.c2]
  res : Blk w b6 37 [.int .i64 0, .int .i64 0, .slice none 0 0, .slice none 0 0, .slice none 0 0]
  at_ : Blk w b 3 [.int .i64 (j : Nat)]
  ok : k.ok B w
  gr : w0.grownBy w (some b)
  lt : B ≤ b ∧ b < w0.heap.size ∧ w0.heap.size ≤ b3 ∧ b3 < b6
theorem KSet.ok.grown {k : KSet} {B : Nat} {w w' : World} {row : Option Nat} (h : k.ok B w) (hg : w.grownBy w' row) (hs : B ≤ w.heap.size) (hr : ∀ g, row = some g → B ≤ g) : k.ok B w' := ⟨h.has_.grown hg hs hr, h.hasI, h.n_, h.vals_.grown hg hs hr, h.valsI, h.n2_⟩
section
variable {k : KSet} {B b : Nat} {w0 w w' : World} {b3 b6 j : Nat}
theorem VecAtX.grown (h : VecAtX k B b w0 b3 b6 j w) (hg : w.grownBy w' (some b)) {j' : Nat} (ha : Blk w' b 3 [.int .i64 (j' : Nat)]) : VecAtX k B b w0 b3 b6 j' w' := by
  have hl := h.lt
  have h1 := h.gr.size
  exact ⟨h.box.grown hg (fun e => by injection e with e; omega), h.res.grown hg (fun e => by injection e with e; omega), ha, h.ok.grown hg (by omega) (fun g e => by injection e with e; omega), h.gr.trans hg, hl⟩
theorem VecAtX.below (h : VecAtX k B b w0 b3 b6 j w) (hb : Below w.heap.size w w') : VecAtX k B b w0 b3 b6 j w' := h.grown (only_of_below hb _) (h.at_.below hb h.at_.lt)
theorem VecAtX.alloc (h : VecAtX k B b w0 b3 b6 j w) (o : Obj) : VecAtX k B b w0 b3 b6 j (w.alloc o) := h.below ((Below.refl _ _).alloc (Nat.le_refl _) o)
theorem VecAtX.drew (h : VecAtX k B b w0 b3 b6 j w) : VecAtX k B b w0 b3 b6 j w.drew := h.below (Below.refl _ _).drew
theorem VecAtX.start (h : k.ok B w) (hB : B ≤ b) (ha : Blk w b 3 [.int .i64 (j : Nat)]) : VecAtX k B b w w.heap.size (w.heap.size + 1) j ((w.alloc (.cells #[.slice k.A k.n k.c, .slice k.A2 k.n2 k.c2] 53)).alloc (.cells #[.int .i64 0, .int .i64 0, .slice none 0 0, .slice none 0 0, .slice none 0 0] 37)) := by
  have hl := ha.lt
  have hb : Below w.heap.size w ((w.alloc (.cells #[.slice k.A k.n k.c, .slice k.A2 k.n2 k.c2] 53)).alloc (.cells #[.int .i64 0, .int .i64 0, .slice none 0 0, .slice none 0 0, .slice none 0 0] 37)) := ((Below.refl _ w).alloc (Nat.le_refl _) _).alloc (by simp) _
  refine ⟨(Blk.mk (heap_alloc_new w (.cells #[.slice k.A k.n k.c, .slice k.A2 k.n2 k.c2] 53))).alloc _, ?_, ha.below hb hl, h.grown (only_of_below hb none) (by omega) (fun g e => by cases e), only_of_below hb _, hB, hl, Nat.le_refl _, Nat.lt_succ_self _⟩
  have h := heap_alloc_new (w.alloc (.cells #[.slice k.A k.n k.c, .slice k.A2 k.n2 k.c2] 53)) (.cells #[.int .i64 0, .int .i64 0, .slice none 0 0, .slice none 0 0, .slice none 0 0] 37)
  rw [show (w.alloc (.cells #[.slice k.A k.n k.c, .slice k.A2 k.n2 k.c2] 53)).heap.size = w.heap.size + 1 by simp] at h
  exact Blk.mk h
end
def VecAns (d b i : Nat) (K : XE → Prop) (w : World) (e : Ending) (w' : World) : Prop := ∃ (x : XE) (j : Nat), e = .returned x.val ∧ K x ∧ FarS (fun c => c < w.heap.size) (okX d x) w' ∧ Blk w' b 3 [.int .i64 (j : Nat)] ∧ j + 1 ≤ i + 2 ^ d ∧ w.grownBy w' (some b)
theorem VecAtX.fin {k : KSet} {B b : Nat} {w0 w : World} {b3 b6 j i d : Nat} (h : VecAtX k B b w0 b3 b6 j w) {K : XE → Prop} (x : XE) (hK : K x) (hx : FarS (fun c => c < w0.heap.size ∨ c = b6) (okX d x) w) (hj : j + 1 ≤ i + 2 ^ d) :
    VecAns d b i K w0 (.returned x.val) (set5W w b6 (.int .i64 x.kd) (.int .i64 x.n) x.mv x.nv x.kv) := by
  have hl := h.lt
  have hg := set5W_grown w b6 (.int .i64 x.kd) (.int .i64 x.n) x.mv x.nv x.kv
  exact ⟨x, j, rfl, hK, (hx.grown hg (fun c e => .inr (by injection e with e; exact e.symm))).mono (fun c _ hc => .inl hc), h.at_.grown hg (fun e => by injection e with e; omega), hj, h.gr.andThen hg (fun c e => .inl (by injection e with e; omega))⟩
theorem two_pow (d : Nat) : 2 ^ (d + 1) = 2 ^ d + 2 ^ d ∧ 1 ≤ 2 ^ d := ⟨by rw [Nat.pow_succ]; omega, Nat.one_le_two_pow⟩
theorem tmod5 (z : Int) (h : I64 z) : ∃ q, z.tmod 5 = q ∧ IntKind.i64.wrap q = q := by
  unfold I64 at h
  have h1 : -9223372036854775808 ≤ z.tmod 5 ∧ z.tmod 5 ≤ 9223372036854775807 := by
    rcases Int.le_total 0 z with h2 | h2
    · have := Int.tmod_lt_of_pos z (b := 5) (by omega)
      have := Int.tmod_nonneg 5 h2
      omega
    · have h3 := Int.neg_tmod z 5
      have := Int.tmod_lt_of_pos (-z) (b := 5) (by omega)
      have := Int.tmod_nonneg (a := -z) 5 (by omega)
      omega
  exact ⟨_, rfl, by rw [IntKind.wrap_i64]; omega⟩
def numX (v : Int) : XE := .mk 1 v (.slice none 0 0) [] (.slice none 0 0) [] (.slice none 0 0) []
theorem numX_far {S : Nat → Prop} {w : World} (d : Nat) (v : Int) : FarS S (okX (d + 1) (numX v)) w := okX_far (FarS.nil 3) (FarS.nil 1) (FarS.nil 5) (fun k hk => absurd hk List.not_mem_nil)
theorem ok_box2 {k : KSet} {B b : Nat} {w0 w : World} {b3 b6 j : Nat} (h : VecAtX k B b w0 b3 b6 j w) : w.cell? ⟨b3, 0, none⟩ = some (.slice k.A k.n k.c) ∧ w.cell? ⟨b3, 1, none⟩ = some (.slice k.A2 k.n2 k.c2) := ⟨h.box.cell 0, h.box.cell 1⟩
def pairX (kk : Int) (g : Nat) (x y : XE) : XE := .mk kk 0 (.slice none 0 0) [] (.slice none 0 0) [] (.slice (some ⟨g, 0, none⟩) 2 2) [x, y]
theorem VecAtX.pair {k : KSet} {B b : Nat} {w0 w : World} {b3 b6 j i d : Nat} (h : VecAtX k B b w0 b3 b6 j w) {K : XE → Prop} (kk : Int) (x y : XE) (hK : ∀ g, K (pairX kk g x y)) (hx : FarS (fun c => c < w0.heap.size ∨ c = b6) (okX d x) w) (hy : FarS (fun c => c < w0.heap.size ∨ c = b6) (okX d y) w) (hj : j + 1 ≤ i + 2 ^ (d + 1)) :
    VecAns (d + 1) b i K w0 (.returned (pairX kk w.heap.size x y).val) (set5W (w.alloc (.cells #[.int .i64 x.kd, .int .i64 x.n, x.mv, x.nv, x.kv, .int .i64 y.kd, .int .i64 y.n, y.mv, y.nv, y.kv] 37)) b6 (.int .i64 kk) (.int .i64 0) (.slice none 0 0) (.slice none 0 0) (.slice (some ⟨w.heap.size, 0, none⟩) 2 2)) := by
  have hl := h.lt
  have h6 := h.res.lt
  have hs := h.gr.size
  have hg : w.grownBy (w.alloc (.cells #[.int .i64 x.kd, .int .i64 x.n, x.mv, x.nv, x.kv, .int .i64 y.kd, .int .i64 y.n, y.mv, y.nv, y.kv] 37)) none := only_alloc (World.grownBy.refl w _) _
  refine (h.alloc (.cells #[.int .i64 x.kd, .int .i64 x.n, x.mv, x.nv, x.kv, .int .i64 y.kd, .int .i64 y.n, y.mv, y.nv, y.kv] 37)).fin (K := K) (i := i) (pairX kk w.heap.size x y) (hK _) ?_ hj
  refine okX_far (FarS.nil 3) (FarS.nil 1) ?_ (fun q hq => ?_)
  · have hb : Blk (w.alloc (.cells #[.int .i64 x.kd, .int .i64 x.n, x.mv, x.nv, x.kv, .int .i64 y.kd, .int .i64 y.n, y.mv, y.nv, y.kv] 37)) w.heap.size 37 (kcells [x, y]) := Blk.mk (heap_alloc_new w _)
    exact FarS.slc (S := fun c => c < w0.heap.size ∨ c = b6) (n := 2) (size := 5) hb (fun e => by rcases e with e | e <;> omega) rfl (by omega)
  · rw [List.mem_cons, List.mem_singleton] at hq
    rcases hq with rfl | rfl
    · exact hx.grown hg (fun c e => by cases e)
    · exact hy.grown hg (fun c e => by cases e)
structure Kid (d s g : Nat) (x : XE) (w : World) : Prop where
  blk : Blk w g 37 [.int .i64 x.kd, .int .i64 x.n, x.mv, x.nv, x.kv]
  far : FarS (fun c => c < s) (okX d x) w
  lt : s ≤ g
theorem Kid.made {d s : Nat} {x : XE} {w : World} (h : FarS (fun c => c < s) (okX d x) w) (hs : s ≤ w.heap.size) : Kid d s w.heap.size x (w.alloc (.cells #[.int .i64 x.kd, .int .i64 x.n, x.mv, x.nv, x.kv] 37)) :=
  ⟨Blk.mk (heap_alloc_new w _), h.grown (only_alloc (World.grownBy.refl w none) _) (fun c e => by cases e), hs⟩
theorem Kid.grown {d s g r : Nat} {x : XE} {w w' : World} (h : Kid d s g x w) (hg : w.grownBy w' (some r)) (hr : r < s) : Kid d s g x w' :=
  ⟨h.blk.grown hg (fun e => by injection e with e; have := h.lt; omega), h.far.grown hg (fun c e => by injection e with e; omega), h.lt⟩
theorem Kid.below {d s g : Nat} {x : XE} {w w' : World} (h : Kid d s g x w) (hb : Below w.heap.size w w') : Kid d s g x w' :=
  ⟨h.blk.below hb h.blk.lt, h.far.below hb, h.lt⟩
theorem Kid.s0 {d s g b6 : Nat} {x : XE} {w w0 : World} (h : Kid d s g x w) (h0 : w0.heap.size ≤ s) (h6 : b6 < s) : FarS (fun c => c < w0.heap.size ∨ c = b6) (okX d x) w :=
  h.far.mono (fun c _ hc => by rcases hc with hc | hc <;> omega)
set_option maxHeartbeats 4000000 in
theorem number_any (k : KSet) (b B : Nat) (hB : B ≤ b) :
    ∀ (d deep i : Nat) (w : World), deep + d = 5 → k.ok B w → Blk w b 3 [.int .i64 (i : Nat)] → i + 2 ^ d ≤ 1000 → 0 < d →
    Calls Tryz.prog 81 #[k.val, .pointer (some ⟨b, 0, none⟩), .int .i64 (deep : Nat)] w (VecAns d b i (keepN d) w)
  | 0, _, _, _, _, _, _, _, h => absurd h (by omega)
  | d + 1, deep, i, w, hd, hk, hb, hi, _ => by
    obtain ⟨hp1, hp2⟩ := two_pow d
    have hi1 : i + 1 ≤ 1000 := by omega
    have HI := Lib.hid hi
    have HP := Lib.hid hp1
    have HVS := Lib.hid (VecAtX.start hk hB hb)
    have HIH := Lib.hid (fun (j : Nat) (V : World) h1 h2 h3 h4 => show Calls Tryz.prog 81 #[.agg #[.slice k.A k.n k.c, .slice k.A2 k.n2 k.c2], .pointer (some ⟨b, 0, none⟩), .int .i64 ((deep : Int) + 1)] V (VecAns d b j (keepN d) V) from number_any k b B hB d (deep + 1) j V (by omega) h1 h2 h3 h4)
    clear hk hb hi
    obtain ⟨b3, hb3⟩ : ∃ c, w.heap.size = c := ⟨_, rfl⟩
    obtain ⟨b6, hb6⟩ : ∃ c, b3 + 1 = c := ⟨_, rfl⟩
    have HB3 := Lib.hid hb3
    have HB6 := Lib.hid hb6
    have HV0 := Lib.hid (show VecAtX k B b w b3 b6 i ((w.alloc (.cells #[.slice k.A k.n k.c, .slice k.A2 k.n2 k.c2] 53)).alloc (.cells #[.int .i64 0, .int .i64 0, .slice none 0 0, .slice none 0 0, .slice none 0 0] 37)) by subst hb3; subst hb6; exact HVS.out)
    clear hb3 hb6 HVS
    show Calls _ _ #[.agg #[.slice k.A k.n k.c, .slice k.A2 k.n2 k.c2], _, _] _ _
    go_enter Tryz.func81, Tryz.ntmps81
    go_upto_region 1 with fail
    rw [HB3.out, HB6.out]
    generalize (w.alloc (.cells #[.slice k.A k.n k.c, .slice k.A2 k.n2 k.c2] 53)).alloc (.cells #[.int .i64 0, .int .i64 0, .slice none 0 0, .slice none 0 0, .slice none 0 0] 37) = W1 at *
    obtain ⟨c0, c1⟩ := ok_box2 HV0.out
    go_wp2_with fail
    (with_reducible refine (next_v k b B i W1 HV0.out.ok hB HV0.out.at_ (by omega)).mono ?_); rintro e wn ⟨kd, n, hkd, hn, rfl, hat, hg⟩
    have HV1 := Lib.hid (HV0.out.grown hg hat)
    have HW := Lib.hid (fun V => within_any n (-3) 5 V hn (by omega) (by omega) (by omega))
    have HWK := Lib.hid (fun V => within_any n 3 5 V hn (by omega) (by omega) (by omega))
    obtain ⟨hv1, hv2⟩ := nWithin_in n (lo := -3) (hi := 5) (by omega)
    obtain ⟨hk1, hk2⟩ := nWithin_in n (lo := 3) (hi := 5) (by omega)
    generalize nWithin n (-3) 5 = v at *
    generalize nWithin n 3 5 = kk at *
    obtain ⟨q, hq, hqw⟩ := tmod5 kd hkd
    clear hat hg HV0 c0 c1
    go_wp2_with fail
    (with_reducible refine (HW.out _).mono ?_); rintro e wz ⟨rfl, rfl⟩
    go_upto_region 3 with fail
    have HB9 := Lib.hid (Blk.mk (heap_alloc_new wn (.cells #[.int .i64 1, .int .i64 v, .slice none 0 0, .slice none 0 0, .slice none 0 0] 37)) : Blk _ wn.heap.size 37 [.int .i64 1, .int .i64 v, .slice none 0 0, .slice none 0 0, .slice none 0 0])
    have HV2 := Lib.hid (HV1.out.alloc (.cells #[.int .i64 1, .int .i64 v, .slice none 0 0, .slice none 0 0, .slice none 0 0] 37))
    obtain ⟨b9, hb9⟩ : ∃ c, wn.heap.size = c := ⟨_, rfl⟩
    have HB9N := Lib.hid hb9
    have h96 : b6 < b9 := by have := HV1.out.res.lt; omega
    rw [hb9] at HB9
    clear hb9 HW HV1
    rw [HB9N.out]
    generalize wn.alloc (.cells #[.int .i64 1, .int .i64 v, .slice none 0 0, .slice none 0 0, .slice none 0 0] 37) = W2 at *
    have HFIN := Lib.hid (HV2.out.fin (K := keepN (d + 1)) (i := i) (numX v) (.inl ⟨rfl, hv1, hv2, rfl, rfl, rfl⟩) (numX_far d v) (by omega))
    by_cases h4 : q = 4
    · subst h4
      have t1 : ((4 : Int) != 4) = false := rfl
      by_cases h0 : 0 < d
      · have hd3 : (deep : Int) ≤ 3 := by omega
        have hde : IntKind.i64.wrap ((deep : Int) + 1) = ((deep + 1 : Nat) : Int) := by rw [IntKind.wrap_i64]; omega
        go_upto_region 5 with fail
        have Z := Lib.hid (show VecAtX k B b w b3 b6 (i + 1) W2.drew ∧ Blk W2.drew b9 37 [.int .i64 1, .int .i64 v, .slice none 0 0, .slice none 0 0, .slice none 0 0] from ⟨HV2.out.drew, HB9.out⟩)
        have HDS := Lib.hid (HIH.out (i + 1) W2.drew Z.out.1.ok Z.out.1.at_ (by have := HI.out; omega) h0)
        have HDL := Lib.hid (show w.heap.size ≤ W2.drew.heap.size ∧ b6 < W2.drew.heap.size from ⟨HV2.out.gr.size, HV2.out.res.lt⟩)
        have tok1 : True := trivial
        have tok2 : True := trivial
        clear HV2 HB9 HIH hq hqw HFIN
        have hnb : b9 ≠ b := by have := Z.out.1.lt; omega
        have HNB := Lib.hid hnb
        clear hnb
        obtain ⟨c0, c1⟩ := ok_box2 Z.out.1
        obtain ⟨x0, x1, x2, x3, x4⟩ := blk_cells5 Z.out.2
        simp only [World.cell?_drew] at c0 c1 x0 x1 x2 x3 x4
        go_region_law (first
          | (have tk := tok1; (try go_simp); go_at_call 17; (with_reducible refine (HWK.out _).mono ?_); rintro e wz ⟨rfl, rfl⟩; clear tok1 tk HWK)
          | (have tk := tok2; (try go_simp); go_at_call 81; (with_reducible refine HDS.out.mono ?_); rintro e wq ⟨⟨xk, xn, xmv, xms, xnv, xns, xkv, xks⟩, j, he, hkx, hfx, hatq, hjq, hgq⟩; obtain ⟨A1, c1, A2, c2, A3, c3, e1, e2, e3⟩ := okX_forms hfx.now; simp only [XE.mv, XE.nv, XE.kv, XE.ms, XE.ns, XE.kids] at e1 e2 e3; subst e1; subst e2; subst e3; have he2 : e = .returned (.agg #[.int .i64 xk, .int .i64 xn, .slice A1 xms.length c1, .slice A2 xns.length c2, .slice A3 xks.length c3]) := he; subst he2; have HKX := Lib.hid hkx; have HFX := Lib.hid hfx; have HJ := Lib.hid hjq; have Z_n := Lib.hid (⟨Z.out.1.grown hgq hatq, Z.out.2.grown hgq (fun e => HNB.out (by injection e))⟩ : VecAtX k B b w b3 b6 j wq ∧ Blk wq b9 37 [.int .i64 1, .int .i64 v, .slice none 0 0, .slice none 0 0, .slice none 0 0]); clear Z he hkx hfx hjq hatq hgq HDS tok2 tk; have Z := Z_n; clear Z_n; obtain ⟨u0, u1, u2, u3, u4⟩ := blk_cells5 Z.out.2; obtain ⟨y0, y1, y2, y3, y4⟩ := blk_cells5 (Z.out.1.alloc (.cells #[.int .i64 1, .int .i64 v, .slice none 0 0, .slice none 0 0, .slice none 0 0, .int .i64 xk, .int .i64 xn, .slice A1 xms.length c1, .slice A2 xns.length c2, .slice A3 xks.length c3] 37)).res; obtain ⟨z0, z1, z2, z3, z4⟩ := blk_fr5 (Z.out.1.alloc (.cells #[.int .i64 1, .int .i64 v, .slice none 0 0, .slice none 0 0, .slice none 0 0, .int .i64 xk, .int .i64 xn, .slice A1 xms.length c1, .slice A2 xns.length c2, .slice A3 xks.length c3] 37)).res)
          | fail)
        all_goals
          have HQ := Lib.hid (set5W_blk (Z.out.1.alloc (.cells #[.int .i64 1, .int .i64 v, .slice none 0 0, .slice none 0 0, .slice none 0 0, .int .i64 xk, .int .i64 xn, .slice A1 xms.length c1, .slice A2 xns.length c2, .slice A3 xks.length c3] 37)).res (.int .i64 kk) (.int .i64 0) (.slice none 0 0) (.slice none 0 0) (.slice (some ⟨wq.heap.size, 0, none⟩) 2 2))
          have HFN := Lib.hid (Z.out.1.pair (d := d) (i := i) (K := keepN (d + 1)) kk (numX v) (.mk xk xn (.slice A1 xms.length c1) xms (.slice A2 xns.length c2) xns (.slice A3 xks.length c3) xks) (fun g => .inr ⟨hk1, hk2, rfl, rfl, rfl, _, _, rfl, ⟨rfl, hv1, hv2, rfl, rfl, rfl⟩, HKX.out⟩) (by obtain ⟨d', rfl⟩ : ∃ d', d = d' + 1 := ⟨d - 1, by omega⟩; exact numX_far d' v) (HFX.out.mono (fun c _ hc => by have := HDL.out; rcases hc with hc | hc <;> omega)) (by have := HJ.out; have := HP.out; omega))
          go_wp2_with fail
          obtain ⟨q0, q1, q2, q3, q4⟩ := blk_cells5 HQ.out
          unfold set5W at q0 q1 q2 q3 q4
          refine bodyPost_ret (v := (pairX kk wq.heap.size (numX v) (.mk xk xn (.slice A1 xms.length c1) xms (.slice A2 xns.length c2) xns (.slice A3 xks.length c3) xks)).val) (by simp [XE.val, pairX, XE.kd, XE.n, XE.mv, XE.nv, XE.kv, results, Tryz.results81, go_sem, q0, q1, q2, q3, q4]) rfl ?_
          exact HFN.out
      · have hd3 : ¬ (deep : Int) ≤ 3 := by omega
        obtain ⟨x0, x1, x2, x3, x4⟩ := blk_cells5 HB9.out
        obtain ⟨y0, y1, y2, y3, y4⟩ := blk_cells5 HV2.out.res
        obtain ⟨z0, z1, z2, z3, z4⟩ := blk_fr5 HV2.out.res
        have HQ := Lib.hid (set5W_blk HV2.out.res (.int .i64 1) (.int .i64 v) (.slice none 0 0) (.slice none 0 0) (.slice none 0 0))
        go_wp2_with fail
        obtain ⟨q0, q1, q2, q3, q4⟩ := blk_cells5 HQ.out
        unfold set5W at q0 q1 q2 q3 q4
        refine bodyPost_ret (v := (numX v).val) (by simp [XE.val, numX, XE.kd, XE.n, XE.mv, XE.nv, XE.kv, results, Tryz.results81, go_sem, q0, q1, q2, q3, q4]) rfl ?_
        exact HFIN.out
    · have t1 : (q != 4) = true := by rw [bne_iff_ne]; exact h4
      obtain ⟨x0, x1, x2, x3, x4⟩ := blk_cells5 HB9.out
      obtain ⟨y0, y1, y2, y3, y4⟩ := blk_cells5 HV2.out.res
      obtain ⟨z0, z1, z2, z3, z4⟩ := blk_fr5 HV2.out.res
      have HQ := Lib.hid (set5W_blk HV2.out.res (.int .i64 1) (.int .i64 v) (.slice none 0 0) (.slice none 0 0) (.slice none 0 0))
      go_wp2_with fail
      obtain ⟨q0, q1, q2, q3, q4⟩ := blk_cells5 HQ.out
      unfold set5W at q0 q1 q2 q3 q4
      refine bodyPost_ret (v := (numX v).val) (by simp [XE.val, numX, XE.kd, XE.n, XE.mv, XE.nv, XE.kv, results, Tryz.results81, go_sem, q0, q1, q2, q3, q4]) rfl ?_
      exact HFIN.out
end Go.Proofs.YtlmakdclebbbkaaGreat
