/- Own rows of own lists of labels (out of XLblRows, where nothing of mute is). -/
import Derived.Test.YthbinnbnmckmfaaBase2
import Derived.Test.YthbinnbnmckmfaaLblFns
import Derived.Test.YthbinnbnmckmfaaBase
namespace Go.Proofs.Ythbinnbnmckmfaa
open Go.ChangeShapes Go.WideShapes Go.ChangeAt Go.RowKit
set_option linter.unusedVariables false
set_option maxRecDepth 100000
theorem Try.infoLbls : (Try.prog.info? 26).map (fun i => (i.zero, i.size, i.bytes)) = some (some (.slice none 0 0), 1, 24) := by kernel_rfl
/-- A list of labels in a block of labels. -/
def OwnL (w : World) (v : Value) (l : List Lbl) : Prop := ∃ A c, v = .slice A l.length c ∧ w.ownsRow 0 25 2 (.slice A l.length c) l.length (lbls l)
theorem OwnL.hasL {w : World} {v : Value} {l : List Lbl} (h : OwnL w v l) : HasL w v l := by
  obtain ⟨A, c, rfl, h2⟩ := h
  obtain ⟨A', c', h3, h4, h5⟩ := own_slice h2
  injection h3 with h3 _ h6; subst h3; subst h6
  exact ⟨A, c, rfl, Sees.of_own h2, h4, h5⟩
theorem OwnL.below {w w' : World} {v : Value} {l : List Lbl} (h : OwnL w v l) (hb : Below w.heap.size w w') : OwnL w' v l := by
  obtain ⟨A, c, rfl, h2⟩ := h
  exact ⟨A, c, rfl, own_below h2 hb (Nat.le_refl _)⟩
theorem OwnL.stays {w : World} {v : Value} {l : List Lbl} (h : OwnL w v l) : Stays (fun W => OwnL W v l) w := fun _ hb => h.below hb
theorem ownL_of {l : List Lbl} {w w' : World} {e : Ending} (h : OwnAns 25 2 l.length (lbls l) w e w') : ∃ A c, e = .returned (.slice A l.length c) ∧ OwnL w' (.slice A l.length c) l ∧ Below w.heap.size w w' := by
  obtain ⟨A, c, h1, h2, h3, _⟩ := h
  exact ⟨A, c, h1, ⟨A, c, rfl, own_mono h2 (Nat.zero_le _)⟩, h3⟩
structure OwnRows (base : Nat) (v : Value) (rows : List (Value × List Lbl)) (w : World) : Prop where
  own : w.ownsRow base 26 1 v rows.length (rows.map Prod.fst)
  each : ∀ x ∈ rows, OwnL w x.1 x.2
theorem OwnRows.below {base : Nat} {v : Value} {rows : List (Value × List Lbl)} {w w' : World} (h : OwnRows base v rows w) (hb : Below w.heap.size w w') : OwnRows base v rows w' := ⟨own_below h.own hb (Nat.le_refl _), fun x hx => (h.each x hx).below hb⟩
theorem OwnRows.stays {base : Nat} {v : Value} {rows : List (Value × List Lbl)} {w : World} (h : OwnRows base v rows w) : Stays (fun W => OwnRows base v rows W) w := fun _ hb => h.below hb
theorem OwnRows.nil (base : Nat) (w : World) : OwnRows base (.slice none 0 0) [] w := ⟨by simpa using World.ownsRow_nil w base 26 1, (fun x hx => absurd hx List.not_mem_nil)⟩
theorem OwnRows.push {base : Nat} {v v' x : Value} {l : List Lbl} {rows : List (Value × List Lbl)} {w w' : World} (h : OwnRows base v rows w) (hx : OwnL w x l) (hown : w'.ownsRow base 26 1 v' (rows.length + 1) (rows.map Prod.fst ++ [x])) (hg : w.grownBy w' v.ownBlock) : OwnRows base v' (rows ++ [(x, l)]) w' := by
  have key : ∀ y m, OwnL w y m → OwnL w' y m := by
    rintro y m ⟨A, c, rfl, h2⟩
    exact ⟨A, c, rfl, own_grown h2 hg (own_ne h2 h.own (by decide))⟩
  refine ⟨by simpa using hown, fun y hy => ?_⟩
  rcases List.mem_append.1 hy with hy | hy
  · exact key _ _ (h.each y hy)
  · rw [List.mem_singleton] at hy; subst hy; exact key _ _ hx
theorem OwnRows.mono {base base' : Nat} {v : Value} {rows : List (Value × List Lbl)} {w : World} (h : OwnRows base v rows w) (hb : base' ≤ base) : OwnRows base' v rows w := ⟨own_mono h.own hb, h.each⟩
/-- The sets of rows. -/
def setsOf (rows : List (Value × List Lbl)) : List (List Lbl) := rows.map Prod.snd
theorem setsOf_push (rows : List (Value × List Lbl)) (v : Value) (l : List Lbl) : setsOf (rows ++ [(v, l)]) = setsOf rows ++ [l] := by simp [setsOf]
/-- A call answers new rows of these sets. -/
def RowsAns (sets : List (List Lbl)) (w : World) (e : Ending) (w' : World) : Prop := ∃ A c rows, setsOf rows = sets ∧ e = .returned (.slice A rows.length c) ∧ OwnRows w.heap.size (.slice A rows.length c) rows w' ∧ Below w.heap.size w w' ∧ rows.length ≤ c ∧ c ≤ 9223372036854775807
end Go.Proofs.Ythbinnbnmckmfaa
