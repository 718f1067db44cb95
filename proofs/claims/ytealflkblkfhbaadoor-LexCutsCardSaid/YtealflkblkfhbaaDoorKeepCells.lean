/- klaxonkeep's names and values in memory; an append in a region that draws its order. -/
import Derived.Test.YtealflkblkfhbaaDoorSet
import Derived.Test.YtealflkblkfhbaaDoorWhere
import Derived.Deep.RegionLaw
import Derived.Laws.BytesArg
import Derived.Laws.IdiomStrings
namespace Go.Proofs.YtealflkblkfhbaaDoor
open Go.ChangeShapes Go.WideShapes Go.ChangeAt Go.RowKit
set_option linter.unusedVariables false
set_option linter.unusedSimpArgs false
set_option maxRecDepth 100000
theorem step_append_at3 {P : Program} {w : World} {ops : Array Oper} {o : Oper} {a : Act} {K : Act → World → Prop} {Q : Exit → Act → World → Prop} {E : Prop} (hgd : o.guard = none) (s x : Operand) (t : TypeId)
    (ho : o.op = .call { callee := .builtin .append, args := #[s, x], argTypes := #[t, t] })
    (base : Nat) (e : TypeId) (i : TypeInfo) (z : Value) (size bytes : Nat) (ht : P.underlying t = some (.slice e)) (hi : P.info? e = some i) (hz : i.zero = some z)
    (hsize : i.size = size) (hby : i.bytes = bytes) (hzs : z.cells.size = size) (hsz : 0 < size)
    (v : Value) (n : Nat) (xs : List Value) (hv : a.eval s = v) (hown : w.ownsRow base e size v n xs)
    (B : Nat) (A : Option Addr) (m c : Nat) (news : List Value) (hx : a.eval x = .slice A m c) (hs : Sees w B size A m news) (h1 : ∀ u ∈ news, u.oneCell' = true)
    (h63 : n + m ≤ maxLen) (hbytes : (n + m) * bytes ≤ 140737488355328) (hbase : base ≤ w.heap.size)
    (h : ∀ v' w', w'.ownsRow base e size v' (n + m) (xs ++ news) → w.grownBy w' v.ownBlock → Where w v v' → K (a.put o.dst v') w') :
    if Region.wanted o (yielded ops a.tmps) = true then Oper.wp P o a w K Q else E := by
  have hw : Region.wanted o (yielded ops a.tmps) = true := by simp [Region.wanted, hgd]
  rw [if_pos hw]
  obtain ⟨v', w', hr, h2, h3⟩ := append_run (P := P) w base t o.type e i z size bytes ht hi hz hsize hby hzs hsz v n xs hown B A m c news hs h1 h63 hbytes hbase
  have h4 := append_where (P := P) w base t o.type e i z size bytes ht hi hz hsize hby hzs hsz v n xs hown B A m c news hs h1 h63 hbytes v' w' hr
  unfold Oper.wp execOp
  simp only [ho, resolve, invoke, builtin, Sem.run_bind, Sem.run_pure, Result.andThen_ok, List.map_toArray, List.map_cons, List.map_nil, hv, hx, hr]
  exact h v' w' h2 h3 h4
theorem I64_tdiv {v d : Int} (h : I64 v) (hd : 0 < d) : I64 (v.tdiv d) := by
  unfold I64 at *
  have h1 : (v.tdiv d).natAbs ≤ v.natAbs := by
    rw [Int.natAbs_tdiv]; exact Nat.div_le_self _ _
  rcases Int.le_total 0 v with h2 | h2
  · have := Int.tdiv_nonneg h2 (Int.le_of_lt hd)
    omega
  · have : v.tdiv d ≤ 0 := by
      have h3 := Int.tdiv_nonneg (a := -v) (b := d) (by omega) (Int.le_of_lt hd)
      rw [Int.neg_tdiv] at h3; omega
    omega
theorem name_cell {w : World} {g a : Nat} (h : Blk w g 9 (strs keepNames)) (ha : a < 3) : w.cell? ⟨g, a, none⟩ = some (.string (keepNames.getD a ⟨#[]⟩)) := by
  rw [h.cell a]
  match a, ha with
  | 0, _ => rfl
  | 1, _ => rfl
  | 2, _ => rfl
theorem value_cell {w : World} {g a : Nat} (h : Blk w g 9 (strs keepValues)) (ha : a < 4) : w.cell? ⟨g, a, none⟩ = some (.string (keepValues.getD a ⟨#[]⟩)) := by
  rw [h.cell a]
  match a, ha with
  | 0, _ => rfl
  | 1, _ => rfl
  | 2, _ => rfl
  | 3, _ => rfl
/-- string([]byte{c}), of a block that holds it. -/
theorem conv_at (w : World) (g : Nat) (c : UInt8) (v : Int) (hv : v = c.toNat) (hb : Blk w g 5 [.int .u8 v]) :
    (convert 41 9 (.slice (some ⟨g, 0, none⟩) 1 1)).run Tryd.prog w = .ok (.string ⟨#[c]⟩) w := by
  subst hv
  refine run_convert_bytes_back _ 41 9 5 ⟨g, 0, none⟩ 1 [c] Tryd.underlying41 Tryd.underlying5 Tryd.underlying9 fun j hj => ?_
  have hj0 : j = 0 := by simpa using hj
  subst hj0
  rw [add_zero']
  exact hb.cell 0
end Go.Proofs.YtealflkblkfhbaaDoor
