/- expr.reader: pick, its walk. -/
import Derived.Test.YtnkbpcenkbihpaaDoorRead5
import Derived.Test.YtnkbpcenkbihpaaDoorKeepX2
namespace Go.Proofs.YtnkbpcenkbihpaaDoor
open Go.ChangeShapes Go.WideShapes Go.ChangeAt Go.RowKit
set_option linter.unusedVariables false
set_option linter.unusedSimpArgs false
set_option maxRecDepth 100000
/-- Within pick: both boxes, the matchers so far. -/
structure PkAt (b : Nat) (A : Option Addr) (n c : Nat) (ts : List Tok) (en : Int) (s : PS) (w0 : World) (g2 g3 : Nat) (z : Int) (v : Value) (ms : List Mtc) (w : World) : Prop where
  rd : RdAt b A n c ts en s w
  only : Only b w0 w
  z_ : Blk w g2 26 [.int .i64 0, .int .i64 0, .slice none 0 0, .slice none 0 0, .slice none 0 0]
  x : Blk w g3 26 [.int .i64 2, .int .i64 z, v, .slice none 0 0, .slice none 0 0]
  row : w.ownsRow w0.heap.size 54 3 v ms.length (mtcs ms)
  ne : ∀ g, v.ownBlock = some g → g3 < g
  l2 : w0.heap.size ≤ g2
  l3 : g2 < g3
  lb : b < w0.heap.size
section
variable {b n c g2 g3 : Nat} {A : Option Addr} {ts : List Tok} {en : Int} {s s' : PS} {w0 w w' : World} {v v' : Value} {ms : List Mtc} {z : Int}
theorem PkAt.moved (h : PkAt b A n c ts en s w0 g2 g3 z v ms w) (hm : Moved b A n c ts en s' w w') : PkAt b A n c ts en s' w0 g2 g3 z v ms w' := by
  have h2 := h.l2; have h3 := h.l3; have hb := h.lb
  refine ⟨hm.rd, h.only.trans hm.only, h.z_.only hm.only (by omega), h.x.only hm.only (by omega), own_grown h.row hm.only.grown (fun g hg e => ?_), h.ne, h2, h3, hb⟩
  have := (h.row.lt g hg).1
  injection e with e; omega
theorem PkAt.below (h : PkAt b A n c ts en s w0 g2 g3 z v ms w) (hb : Below w.heap.size w w') : PkAt b A n c ts en s w0 g2 g3 z v ms w' := h.moved ⟨h.rd.below hb, Only.of_below hb⟩
/-- The matchers grown, and laid into the box. -/
theorem PkAt.push (h : PkAt b A n c ts en s w0 g2 g3 z v ms w) (h0 : RdAt b A n c ts en s' w0) {m : Mtc} (hown : w'.ownsRow w0.heap.size 54 3 v' (ms.length + 1) (mtcs ms ++ [.string m.1, .string m.2.1, .int .i64 m.2.2])) (hg : w.grownBy w' v.ownBlock) (hw : Where w v v') :
    PkAt b A n c ts en s w0 g2 g3 z v' (ms ++ [m]) (w'.setCell ⟨g3, 2, none⟩ v') := by
  have h2 := h.l2; have h3 := h.l3; have hb := h.lb
  have hr : ∀ g, v.ownBlock = some g → w0.heap.size ≤ g := fun g hg => (h.row.lt g hg).1
  have ho := h.only.of_grown hg hr
  have ho2 := ho.setNew (g := g3) (by omega) 2 v'
  have hne : ∀ g, v'.ownBlock = some g → g3 < g := fun g hg2 => by
    rcases hw with hw | hw
    · exact h.ne g (hw ▸ hg2)
    · have := hw g hg2; have := h.x.lt; omega
  have hbk : Blk w' b 84 [.slice A n c, .int .i64 s.p, .int .i64 en, .int .i64 s.fa, .int .i64 s.fe] := h.rd.blk.grown hg (fun e => by have := hr b e.symm; omega)
  refine ⟨h0.of (hbk.far (p := ⟨g3, 2, none⟩) (show b ≠ g3 by omega) _) ho2 h.rd.le, ho2, ?_, ?_, ?_, hne, h2, h3, hb⟩
  · exact (h.z_.grown hg (fun e => by have := h.ne g2 e.symm; omega)).far (p := ⟨g3, 2, none⟩) (show g2 ≠ g3 by omega) _
  · exact (h.x.grown hg (fun e => by have := h.ne g3 e.symm; omega)).set 2 v'
  · have e : mtcs (ms ++ [m]) = mtcs ms ++ [.string m.1, .string m.2.1, .int .i64 m.2.2] := by rw [mtcs_append]; rfl
    rw [List.length_append, e]
    exact own_grown hown (only_setCell (World.grownBy.refl w' (some g3)) (p := ⟨g3, 2, none⟩) (.inl rfl) v') (fun g hg2 e => by have := hne g hg2; injection e with e; omega)
theorem PkAt.num (h : PkAt b A n c ts en s w0 g2 g3 z v ms w) (h0 : RdAt b A n c ts en s' w0) (y : Int) : PkAt b A n c ts en s w0 g2 g3 y v ms (w.setCell ⟨g3, 1, none⟩ (.int .i64 y)) := by
  have h2 := h.l2; have h3 := h.l3; have hb := h.lb
  have ho2 := h.only.setNew (g := g3) (by omega) 1 (.int .i64 y)
  exact ⟨h0.of (h.rd.blk.far (p := ⟨g3, 1, none⟩) (show b ≠ g3 by omega) _) ho2 h.rd.le, ho2, h.z_.far (p := ⟨g3, 1, none⟩) (show g2 ≠ g3 by omega) _, h.x.set 1 _, own_grown h.row (only_setCell (World.grownBy.refl w (some g3)) (p := ⟨g3, 1, none⟩) (.inl rfl) _) (fun g hg2 e => by have := h.ne g hg2; injection e with e; omega), h.ne, h2, h3, hb⟩
end
theorem round_left {ts : List Tok} {en : Int} {s : PS} {n : Nat} (hl : ts.length = n) (hp : s.p ≤ n) (hf : s.fe = 0) (q : Bool) : (matcherF ts en (if q = true then s else mustF ts en s 4 ⟨#[44]⟩)).2.p ≤ n ∧ leftF n (matcherF ts en (if q = true then s else mustF ts en s 4 ⟨#[44]⟩)).2 < leftF n s := by
  cases q with
  | true =>
    rw [if_pos rfl]
    have h := step_matcher (en := en) hl hp
    exact ⟨h.1.1, h.2 hf⟩
  | false =>
    rw [if_neg (by simp)]
    have h1 := step_must (en := en) hl hp (kd := 4) (by decide) ⟨#[44]⟩
    have h := step_matcher (en := en) hl h1.1
    refine ⟨h.1.1, Nat.lt_of_le_of_lt h.1.2 ?_⟩
    unfold mustF
    by_cases hq : isF ts s 4 ⟨#[44]⟩ = true
    · rw [if_pos hq]
      exact leftF_next n s hf (by have := (isF_lt (by decide) hq).2; omega)
    · rw [if_neg hq, leftF_fail ts en s n 1 (by decide) hp]
      have := leftF_zero n s hf hp
      omega
def readPickF (ts : List Tok) (en : Int) (n : Nat) (s : PS) : (List Mtc × Int) × PS :=
  let r := msF ts en (n + 2) [] (mustF ts en s 4 ⟨#[123]⟩)
  let t := takeF ts en (mustF ts en r.2 4 ⟨#[91]⟩) 1
  ((r.1, t.1.n), mustF ts en t.2 4 ⟨#[93]⟩)
end Go.Proofs.YtnkbpcenkbihpaaDoor
