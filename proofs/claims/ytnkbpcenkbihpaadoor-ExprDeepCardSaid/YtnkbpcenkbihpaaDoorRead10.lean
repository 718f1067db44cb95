/- expr.reader: ofOne. -/
import Derived.Test.YtnkbpcenkbihpaaDoorRead9
namespace Go.Proofs.YtnkbpcenkbihpaaDoor
open Go.ChangeShapes Go.WideShapes Go.ChangeAt Go.RowKit
set_option linter.unusedVariables false
set_option linter.unusedSimpArgs false
set_option maxRecDepth 100000
/-- Within ofOne: both boxes, the names so far. -/
structure OnAt (b : Nat) (A : Option Addr) (n c : Nat) (ts : List Tok) (en : Int) (s : PS) (w0 : World) (g2 g3 : Nat) (k : Int) (v : Value) (ns : List ByteArray) (kv : Value) (w : World) : Prop where
  rd : RdAt b A n c ts en s w
  only : Only b w0 w
  z_ : Blk w g2 26 [.int .i64 0, .int .i64 0, .slice none 0 0, .slice none 0 0, .slice none 0 0]
  x : Blk w g3 26 [.int .i64 k, .int .i64 0, .slice none 0 0, v, kv]
  row : w.ownsRow w0.heap.size 9 1 v ns.length (strs ns)
  ne : ∀ g, v.ownBlock = some g → g3 < g
  l2 : w0.heap.size ≤ g2
  l3 : g2 < g3
  lb : b < w0.heap.size
section
variable {b n c g2 g3 : Nat} {A : Option Addr} {ts : List Tok} {en : Int} {s s' : PS} {w0 w w' : World} {k : Int} {v v' kv : Value} {ns : List ByteArray}
theorem OnAt.moved (h : OnAt b A n c ts en s w0 g2 g3 k v ns kv w) (hm : Moved b A n c ts en s' w w') : OnAt b A n c ts en s' w0 g2 g3 k v ns kv w' := by
  have h2 := h.l2; have h3 := h.l3; have hb := h.lb
  refine ⟨hm.rd, h.only.trans hm.only, h.z_.only hm.only (by omega), h.x.only hm.only (by omega), own_grown h.row hm.only.grown (fun g hg e => ?_), h.ne, h2, h3, hb⟩
  have := (h.row.lt g hg).1
  injection e with e; omega
theorem OnAt.below (h : OnAt b A n c ts en s w0 g2 g3 k v ns kv w) (hb : Below w.heap.size w w') : OnAt b A n c ts en s w0 g2 g3 k v ns kv w' := h.moved ⟨h.rd.below hb, Only.of_below hb⟩
theorem names_grow (ns : List ByteArray) (x : ByteArray) : strs (ns ++ [x]) = strs ns ++ [.string x] := by simp [strs]
/-- The names grown, and laid into the box. -/
theorem OnAt.push (h : OnAt b A n c ts en s w0 g2 g3 k v ns kv w) (h0 : RdAt b A n c ts en s' w0) {m : ByteArray} (hown : w'.ownsRow w0.heap.size 9 1 v' (ns.length + 1) (strs ns ++ [.string m])) (hg : w.grownBy w' v.ownBlock) (hw : Where w v v') :
    OnAt b A n c ts en s w0 g2 g3 k v' (ns ++ [m]) kv (w'.setCell ⟨g3, 3, none⟩ v') := by
  have h2 := h.l2; have h3 := h.l3; have hb := h.lb
  have hr : ∀ g, v.ownBlock = some g → w0.heap.size ≤ g := fun g hg => (h.row.lt g hg).1
  have ho := h.only.of_grown hg hr
  have ho2 := ho.setNew (g := g3) (by omega) 3 v'
  have hne : ∀ g, v'.ownBlock = some g → g3 < g := fun g hg2 => by
    rcases hw with hw | hw
    · exact h.ne g (hw ▸ hg2)
    · have := hw g hg2; have := h.x.lt; omega
  have hbk : Blk w' b 84 [.slice A n c, .int .i64 s.p, .int .i64 en, .int .i64 s.fa, .int .i64 s.fe] := h.rd.blk.grown hg (fun e => by have := hr b e.symm; omega)
  refine ⟨h0.of (hbk.far (p := ⟨g3, 3, none⟩) (show b ≠ g3 by omega) _) ho2 h.rd.le, ho2, ?_, ?_, ?_, hne, h2, h3, hb⟩
  · exact (h.z_.grown hg (fun e => by have := h.ne g2 e.symm; omega)).far (p := ⟨g3, 3, none⟩) (show g2 ≠ g3 by omega) _
  · exact (h.x.grown hg (fun e => by have := h.ne g3 e.symm; omega)).set 3 v'
  · rw [List.length_append, names_grow]
    exact own_grown hown (only_setCell (World.grownBy.refl w' (some g3)) (p := ⟨g3, 3, none⟩) (.inl rfl) v') (fun g hg2 e => by have := hne g hg2; injection e with e; omega)
theorem OnAt.kid (h : OnAt b A n c ts en s w0 g2 g3 k v ns kv w) (h0 : RdAt b A n c ts en s' w0) (y : Value) : OnAt b A n c ts en s w0 g2 g3 k v ns y (w.setCell ⟨g3, 4, none⟩ y) := by
  have h2 := h.l2; have h3 := h.l3; have hb := h.lb
  have ho2 := h.only.setNew (g := g3) (by omega) 4 y
  exact ⟨h0.of (h.rd.blk.far (p := ⟨g3, 4, none⟩) (show b ≠ g3 by omega) _) ho2 h.rd.le, ho2, h.z_.far (p := ⟨g3, 4, none⟩) (show g2 ≠ g3 by omega) _, h.x.set 4 _, own_grown h.row (only_setCell (World.grownBy.refl w (some g3)) (p := ⟨g3, 4, none⟩) (.inl rfl) _) (fun g hg2 e => by have := h.ne g hg2; injection e with e; omega), h.ne, h2, h3, hb⟩
theorem OnAt.ans {d gk sx : Nat} {x : XE} (h : OnAt b A n c ts en s w0 g2 g3 k v ns (.slice (some ⟨gk, 0, none⟩) 1 1) w) (h0 : RdAt b A n c ts en s' w0) (hx : Kid d sx gk x w) (hs : g2 < sx) :
    XAns b A n c ts en (d + 1) (.mk k 0 [] ns [x.pe], s) w0 (.returned (.agg #[.int .i64 k, .int .i64 0, .slice none 0 0, v, .slice (some ⟨gk, 0, none⟩) 1 1])) (set5W w g2 (.int .i64 k) (.int .i64 0) (.slice none 0 0) v (.slice (some ⟨gk, 0, none⟩) 1 1)) := by
  have h2 := h.l2; have h3 := h.l3; have hb := h.lb
  have hlt := hx.lt
  have hg := set5W_grown w g2 (.int .i64 k) (.int .i64 0) (.slice none 0 0) v (.slice (some ⟨gk, 0, none⟩) 1 1)
  have ho := h.only.of_grown hg (fun g e => by injection e with e; omega)
  have hrow := own_grown h.row hg (fun g hg2 e => by have := h.ne g hg2; injection e with e; omega)
  have kx := hx.grown hg hs
  have hbk : Blk (set5W w g2 (.int .i64 k) (.int .i64 0) (.slice none 0 0) v (.slice (some ⟨gk, 0, none⟩) 1 1)) gk 26 (kcells [x]) := kx.blk
  refine ⟨.mk k 0 (.slice none 0 0) [] v ns (.slice (some ⟨gk, 0, none⟩) 1 1) [x], rfl, rfl, okX_far (FarS.nil 3) (FarS.own hrow (fun g hg2 e => by have := (hrow.lt g hg2).1; omega)) (FarS.slc (n := 1) (size := 5) hbk (by omega) rfl (by omega)) (fun q hq => ?_), h0.of (h.rd.blk.grown hg (fun e => by injection e with e; omega)) ho h.rd.le, ho⟩
  rw [List.mem_singleton] at hq
  subst hq
  exact kx.far.mono (fun q _ hq => by omega)
end
theorem name_left {ts : List Tok} {en : Int} {s : PS} {n : Nat} (hl : ts.length = n) (hp : s.p ≤ n) (hf : s.fe = 0) (q : Bool) : (takeF ts en (if q = true then s else mustF ts en s 4 ⟨#[44]⟩) 2).2.p ≤ n ∧ leftF n (takeF ts en (if q = true then s else mustF ts en s 4 ⟨#[44]⟩) 2).2 < leftF n s := by
  cases q with
  | true =>
    rw [if_pos rfl]
    have h := step_take (en := en) hl hp (kd := 2) (by decide)
    exact ⟨h.1.1, h.2 hf⟩
  | false =>
    rw [if_neg (by simp)]
    have h1 := step_must (en := en) hl hp (kd := 4) (by decide) ⟨#[44]⟩
    have h := step_take (en := en) hl h1.1 (kd := 2) (by decide)
    refine ⟨h.1.1, Nat.lt_of_le_of_lt h.1.2 ?_⟩
    unfold mustF
    by_cases hq : isF ts s 4 ⟨#[44]⟩ = true
    · rw [if_pos hq]
      exact leftF_next n s hf (by have := (isF_lt (by decide) hq).2; omega)
    · rw [if_neg hq, leftF_fail ts en s n 1 (by decide) hp]
      have := leftF_zero n s hf hp
      omega
end Go.Proofs.YtnkbpcenkbihpaaDoor
