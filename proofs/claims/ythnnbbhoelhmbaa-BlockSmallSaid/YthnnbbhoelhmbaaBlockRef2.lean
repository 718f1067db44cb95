/- klaxonref1.Block. -/
import Derived.Test.YthnnbbhoelhmbaaBlockRef
import Derived.Deep.RegionHeld3
namespace Go.Proofs.Ythnnbbhoelhmbaa
open Go.ChangeShapes Go.WideShapes Go.ChangeAt Go.RowKit
set_option linter.unusedVariables false
set_option maxRecDepth 100000
theorem own_grown_ne {w w' : World} {base : Nat} {e : TypeId} {size n : Nat} {v v0 : Value} {xs : List Value} (h : w.ownsRow base e size v n xs) (hg : w.grownBy w' v0.ownBlock) (hn : ∀ k, v.ownBlock = some k → v0.ownBlock ≠ some k) : w'.ownsRow base e size v n xs := by
  refine ⟨h.1, ?_⟩
  rcases h.2 with h2 | ⟨g, cap, cur, hv, hg2, hh, rest⟩
  · exact .inl h2
  · refine .inr ⟨g, cap, cur, hv, hg2, ?_, rest⟩
    have hlt : g < w.heap.size := (Array.getElem?_eq_some_iff.1 hh).1
    rw [hg.block g hlt (fun e => hn g (by rw [hv]; rfl) e.symm)]; exact hh
theorem step_append_at {P : Program} {w : World} {ops : Array Oper} {o : Oper} {a : Act} {K : Act → World → Prop} {Q : Exit → Act → World → Prop} {E : Prop} (hgd : o.guard = none) (s x : Operand) (t : TypeId)
    (ho : o.op = .call { callee := .builtin .append, args := #[s, x], argTypes := #[t, t] })
    (base : Nat) (e : TypeId) (i : TypeInfo) (z : Value) (size bytes : Nat) (ht : P.underlying t = some (.slice e)) (hi : P.info? e = some i) (hz : i.zero = some z)
    (hsize : i.size = size) (hby : i.bytes = bytes) (hzs : z.cells.size = size) (hsz : 0 < size)
    (v : Value) (n : Nat) (xs : List Value) (hv : a.eval s = v) (hown : w.ownsRow base e size v n xs)
    (B : Nat) (A : Option Addr) (m c : Nat) (news : List Value) (hx : a.eval x = .slice A m c) (hs : Sees w B size A m news) (h1 : ∀ u ∈ news, u.oneCell' = true)
    (h63 : n + m ≤ maxLen) (hbytes : (n + m) * bytes ≤ 140737488355328) (hbase : base ≤ w.heap.size)
    (h : ∀ v' w', w'.ownsRow base e size v' (n + m) (xs ++ news) → w.grownBy w' v.ownBlock → Where w v v' → K (a.put o.dst v') w') :
    if Region.wanted o (yielded ops a.tmps) = true then Oper.wp P o a w K Q else E := by
  have hw : Region.wanted o (yielded ops a.tmps) = true := by simp [Region.wanted, hgd]
  rw [if_pos hw]
  obtain ⟨v', w', hr, h2, h3⟩ := append_run (P := P) w base t o.type e i z size bytes ht hi hz hsize hby hzs hsz v n xs hown B A m c news hs h1 h63 hbytes hbase
  have h4 := append_where (P := P) w base t o.type e i z size bytes ht hi hz hsize hby hzs hsz v n xs hown B A m c news hs h1 h63 hbytes v' w' hr
  unfold Oper.wp execOp
  simp only [ho, resolve, invoke, builtin, Sem.run_bind, Sem.run_pure, Result.andThen_ok, List.map_toArray, List.map_cons, List.map_nil, hv, hx, hr]
  exact h v' w' h2 h3 h4
/-- The bytes of l, each step's difference kept as it is. -/
def refB (t d v : Int) : List (Int × Int) → List Int
  | [] => []
  | x :: l => num (wrap64 (wrap64 (x.1 - t) - d)) ++ num (wrap64 (x.2 - v)) ++ refB x.1 (wrap64 (x.1 - t)) x.2 l
theorem refB_eq (l : List (Int × Int)) (t d v : Int) (hd : I64 d) : refB t d v l = bodyF t v d l := by
  induction l generalizing t d v with
  | nil => rfl
  | cons x l ih =>
    rw [refB, bodyF, ih _ _ _ (I64_wrap _)]
    rw [show wrap64 (d + wrap64 (wrap64 (x.1 - t) - d)) = wrap64 (x.1 - t) from wrap_back (I64_wrap _)]
/-- The midst of Block: s's box, the bytes so far. -/
def RefAt (W : World) (bx : Nat) (x y : Int) (ys : List Int) (w : World) (v : Value) : Prop :=
  Blk w bx 25 [.int .i64 x, .int .i64 y] ∧ w.ownsRow W.heap.size 5 1 v ys.length (u8s ys) ∧ Below W.heap.size W w ∧ v.ownBlock ≠ some bx ∧ W.heap.size ≤ bx
theorem RefAt.below {W w w2 : World} {bx : Nat} {x y : Int} {ys : List Int} {v : Value} (h : RefAt W bx x y ys w v) (hb : Below w.heap.size w w2) : RefAt W bx x y ys w2 v :=
  ⟨h.1.below hb h.1.lt, own_below h.2.1 hb (Nat.le_refl _), h.2.2.1.trans (hb.mono h.2.2.1.size), h.2.2.2.1, h.2.2.2.2⟩
theorem RefAt.drew {W w : World} {bx : Nat} {x y : Int} {ys : List Int} {v : Value} (h : RefAt W bx x y ys w v) : RefAt W bx x y ys w.drew v :=
  ⟨h.1, h.2.1.drew, h.2.2.1.drew, h.2.2.2.1, h.2.2.2.2⟩
theorem RefAt.app {W w w2 : World} {bx : Nat} {x y : Int} {ys zs : List Int} {v v' : Value} (h : RefAt W bx x y ys w v)
    (hown : w2.ownsRow W.heap.size 5 1 v' (ys.length + zs.length) (u8s ys ++ u8s zs)) (hg : w.grownBy w2 v.ownBlock) (hw : Where w v v') : RefAt W bx x y (ys ++ zs) w2 v' :=
  ⟨h.1.grown hg (fun e => h.2.2.2.1 e.symm), by rw [u8s_append, List.length_append]; exact hown, h.2.2.1.grown hg h.2.2.1.size (fun k hk => (h.2.1.lt k hk).1), where_ne hw h.1.lt h.2.2.2.1, h.2.2.2.2⟩
/-- A row that is new since w0, where v's block is older. -/
def Newer (w0 : World) (v vA : Value) : Prop := (∀ k, v.ownBlock = some k → k < w0.heap.size) ∧ ∀ k, vA.ownBlock = some k → w0.heap.size ≤ k
theorem Newer.ne {w0 : World} {v vA : Value} (h : Newer w0 v vA) : ∀ k, vA.ownBlock = some k → v.ownBlock ≠ some k := fun k h1 h2 => by
  have := h.1 k h2; have := h.2 k h1; omega
end Go.Proofs.Ythnnbbhoelhmbaa
