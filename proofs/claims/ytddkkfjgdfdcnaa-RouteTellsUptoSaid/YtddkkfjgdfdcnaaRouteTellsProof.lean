/- PROVED: whatever the arguments of RouteTells are, the call returns true, and each argument reads behind it as it read before. Conditions: none. -/
import Derived.Test.YtddkkfjgdfdcnaaRows
import Derived.Test.YtddkkfjgdfdcnaaRTells
import Derived.Test.YtddkkfjgdfdcnaaArgsTree
import Derived.Test.YtddkkfjgdfdcnaaArgsRoute
import Derived.Test.YtddkkfjgdfdcnaaArgsMute
import Derived.Test.YtddkkfjgdfdcnaaBase
import Derived.WalkKit
import Derived.ProofKit
import Derived.OpenShut
import Derived.ShutString
import Derived.ChangeOld
import Derived.Below
import Derived.JoinedCond
namespace Go.Proofs.Ytddkkfjgdfdcnaa.routeTells
open Go.ChangeShapes Go.WideShapes Go.ChangeAt Go.RowKit
open Go.ChangeMaps (open_string shut_string)
set_option linter.unusedVariables false

theorem own : ownKnob Try.prog.godebug = none := by kernel_rfl
theorem laidOut : laidOutB Try.prog = true := by kernel_rfl

theorem walk (a0 : KTree) (a1 : RT) (b1 : Nat) (a2 : Bool) (a3 : KSet) (w : World) (w0 : a0.ok w.heap.size w) (w1 : okAt b1 a1 w ∧ szAt b1 a1 ∧ countF b1 a1 ≤ b1 ∧ b1 ≤ 600000) (w3 : a3.ok w.heap.size w) :
    Calls Try.prog 4 #[a0.val, a1.val, .bool a2, a3.val] w fun e w' => e = .returned (.bool true) ∧ Below w.heap.size w w' := by
  exact route_tells a0 a1 b1 a2 a3 w w0 w1.1 w1.2.1 w1.2.2.1 w1.2.2.2 w3

theorem contract (H : Type) (enc : TypeId × Value → H) (W : World) (base : Nat) (args : Array Value) (ds gs : List (DataW H)) (before : List MemPlace)
    (hval : ∀ (j : Nat) t v, Try.f4.params[j]? = some t → args[j]? = some v → Value.okWide Try.prog W .any base t v)
    (hW : DataW.Whole enc Try.prog Try.f4.params.toList Rows.routeTellsSpec.vars false W args.toList ds gs before) (hk : Rows.uptoSmall H (ds ++ gs) = true) :
    Calls Try.prog 4 args W fun e W' => ∃ v, e = .returned v ∧ Rows.routeTellsSpec.post enc Try.prog Try.f4 false true false false W args v W' := by
  have hW' := hW
  obtain ⟨p, q, hA0, hV, rfl, hfz, hnd⟩ := hW
  have hA : DataW.TrodAll enc Try.prog W 0 (fun _ => true) true Try.f4.params.toList args.toList ds p := hA0
  rw [Try.params4] at hA hval
  obtain ⟨v0, vs0, d0, ds0, p0, q0, hargs, rfl, rfl, h0, r0⟩ := trodAll_cons hA
  obtain ⟨v1, vs1, d1, ds1, p1, q1, rfl, rfl, rfl, h1, r1⟩ := trodAll_cons r0
  obtain ⟨v2, vs2, d2, ds2, p2, q2, rfl, rfl, rfl, h2, r2⟩ := trodAll_cons r1
  obtain ⟨v3, vs3, d3, ds3, p3, q3, rfl, rfl, rfl, h3, r3⟩ := trodAll_cons r2
  obtain ⟨rfl, rfl, rfl⟩ := trodAll_nil r3
  obtain rfl : args = #[v0, v1, v2, v3] := by cases args; simp_all
  obtain ⟨rfl, rfl⟩ := trodVars_none hV
  have hbk_ : ∀ n, n ≤ Rows.uptoBulkAll ([d0, d1, d2, d3] ++ []) → n ≤ 1048576 := fun n hn => Nat.le_trans hn (of_decide_eq_true hk)
  have k0 := h0
  have lt0 : ∀ x ∈ p0, x.block < W.heap.size := by obtain ⟨m, hm⟩ := k0; exact DataW.trod_lt m _ _ _ hm
  obtain ⟨a0, rfl, w0⟩ := arg_tree Try.underlying39 (by kernel_rfl) (by kernel_rfl) Try.underlying37 Try.underlying37 Try.underlying37 Try.underlying3 (by kernel_rfl) (hval 0 39 v0 rfl rfl) h0
  have k1 := h1
  have lt1 : ∀ x ∈ p1, x.block < W.heap.size := by obtain ⟨m, hm⟩ := k1; exact DataW.trod_lt m _ _ _ hm
  obtain ⟨a1, b1, rfl, x1, y1, z1, hbk1⟩ := arg_route (hval 1 28 v1 rfl rfl) h1
  have w1 : okAt b1 a1 W ∧ szAt b1 a1 ∧ countF b1 a1 ≤ b1 ∧ b1 ≤ 600000 := ⟨x1, y1, z1, by have hp := hbk_ (Rows.uptoBulk d1) (bulk_part (by simp)); omega⟩
  obtain ⟨a2, rfl, rfl, rfl⟩ := open_bool Try.underlying4 (hval 2 4 v2 rfl rfl) h2
  have k3 := h3
  have lt3 : ∀ x ∈ p3, x.block < W.heap.size := by obtain ⟨m, hm⟩ := k3; exact DataW.trod_lt m _ _ _ hm
  obtain ⟨a3, rfl, w3⟩ := arg_set Try.underlying41 (by kernel_rfl) (by kernel_rfl) Try.underlying37 Try.underlying37 Try.underlying3 (by kernel_rfl) (hval 3 41 v3 rfl rfl) h3
  clear hA0 hval
  refine (walk a0 a1 b1 a2 a3 W w0 w1 w3).mono fun e W' ⟨he, bel⟩ => ?_
  subst he
  exact ⟨_, rfl, _, _, _, [], _, [], hW', trodAll_mk1 (shut_bool Try.underlying4 _), (trodAll_cons_mk (Below.trod laidOut (by kernel_rfl) (of_decide_eq_true (by kernel_rfl)) k0 bel lt0) (trodAll_cons_mk (Below.trod laidOut (by kernel_rfl) (of_decide_eq_true (by kernel_rfl)) k1 bel lt1) (trodAll_cons_mk (shut_bool Try.underlying4 _) (trodAll_cons_mk (Below.trod laidOut (by kernel_rfl) (of_decide_eq_true (by kernel_rfl)) k3 bel lt3) trodAll_mk0)))), rfl, bel.frame _, fun h => by cases h⟩

set_option maxRecDepth 100000 in
theorem lifted (os : Os) (started : os.Started) (H : Type) (enc : TypeId × Value → H) (F : Stop.Interp) :
    ReturnsInHanded {} Try.checked os 4 .any ((Rows.OpenSpec.upto Rows.routeTellsSpec).pre6 enc Try.prog Try.f4 Rows.routeTellsUptoRow.domain false) (((Rows.OpenSpec.upto Rows.routeTellsSpec).at F).post enc Try.prog Try.f4 false true false false) := by
  refine returnsInHanded_of_cond (C := Try.checked) (s := Rows.OpenSpec.upto Rows.routeTellsSpec) (k := Rows.uptoSmall) rfl own started (by kernel_rfl) Try.func4
    (OpenSpec.witness (enc := enc) (C := Try.checked) (s := Rows.OpenSpec.upto Rows.routeTellsSpec) (k := Rows.uptoSmall) rfl false ⟨#[], #[.agg #[.slice none 0 0, .slice none 0 0, .slice none 0 0], .agg #[.slice none 0 0, .string ByteArray.empty, .bool false, .slice none 0 0], .bool false, .agg #[.slice none 0 0, .slice none 0 0]], []⟩ 8 (by kernel_rfl) (by kernel_rfl) (by kernel_rfl)
      (x := ([.agg [.nil, .nil, .nil], .agg [.nil, .lit (.string []), .lit (.bool false), .nil], .lit (.bool false), .agg [.nil, .nil]], [], [])) (by kernel_rfl) rfl (by kernel_rfl)) ?_
  intro W base args ds gs before hval hW _ hk _
  exact contract H enc W base args ds gs before hval hW hk

theorem over : Rows.routeTellsUptoRow.holds Try.pinned (Rows.OpenSpec.upto Rows.routeTellsSpec) :=
  OpenClaim.holds_of_cond 4 Try.f4 rfl rfl rfl rfl rfl rfl rfl ⟨rfl, rfl, rfl, rfl, rfl⟩ rfl rfl rfl rfl rfl (by kernel_rfl) Try.func4 (by kernel_rfl)
    (of_decide_eq_true (by kernel_rfl)) (by unfold Func.isWrapper; first | (rw [if_pos (by decide +kernel)]; kernel_rfl) | (rw [if_neg (by decide +kernel)]; exact ⟨rfl, rfl⟩))
    (fun os started H enc _ F => lifted os started H enc F)

theorem proved : Rows.RouteTellsUptoSaid := over
end Go.Proofs.Ytddkkfjgdfdcnaa.routeTells
