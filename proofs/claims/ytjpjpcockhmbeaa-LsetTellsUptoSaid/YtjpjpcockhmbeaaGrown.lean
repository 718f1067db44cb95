/- An append's frame, carried on. No program in it. -/
import Derived.Test.YtjpjpcockhmbeaaWhere
namespace Go.Proofs.Ytjpjpcockhmbeaa
open Go.RowKit
set_option linter.unusedVariables false
theorem only_alloc {a w : World} {row : Option Nat} (h : a.grownBy w row) (o : Obj) : a.grownBy (w.alloc o) row :=
  ⟨h.os, h.tape, h.output, Nat.le_trans h.size (by simp), fun i hi hne => (Below.heap_alloc w o i (Nat.lt_of_lt_of_le hi h.size)).trans (h.block i hi hne)⟩
theorem only_drewN {a w : World} {row : Option Nat} (h : a.grownBy w row) (n : Nat) : a.grownBy (w.drewN n) row := ⟨h.os, h.tape, h.output, h.size, h.block⟩
theorem only_drew {a w : World} {row : Option Nat} (h : a.grownBy w row) : a.grownBy w.drew row := ⟨h.os, h.tape, h.output, h.size, h.block⟩
theorem only_of_below {a w : World} (h : Below a.heap.size a w) (row : Option Nat) : a.grownBy w row := ⟨h.os, h.tape, h.output, h.size, fun i hi _ => h.block i hi⟩
theorem only_setCell {a w : World} {row : Option Nat} (h : a.grownBy w row) {p : Addr} (hp : row = some p.block ∨ a.heap.size ≤ p.block) (u : Value) : a.grownBy (w.setCell p u) row :=
  ⟨h.os, h.tape, h.output, by simpa [World.setCell] using h.size, fun i hi hne => (Below.heap_setCell w p u i (by
    rintro rfl
    rcases hp with hp | hp
    · exact hne hp.symm
    · omega)).trans (h.block i hi hne)⟩
/-- Two appends, one behind the other. -/
theorem grown_where {a b c : World} {v v1 : Value} (h : a.grownBy b v.ownBlock) (hw : Where a v v1) (k : b.grownBy c v1.ownBlock) : a.grownBy c v.ownBlock :=
  ⟨k.os.trans h.os, k.tape.trans h.tape, k.output.trans h.output, Nat.le_trans h.size k.size, fun i hi hn => (k.block i (Nat.lt_of_lt_of_le hi h.size) (fun e => by
    rcases hw with hw | hw
    · exact hn (e.trans hw)
    · have := hw i e.symm; omega)).trans (h.block i hi hn)⟩
theorem Where.trans {a b : World} {v v1 v2 : Value} (h : Where a v v1) (k : Where b v1 v2) (hs : a.heap.size ≤ b.heap.size) : Where a v v2 := by
  rcases k with k | k
  · rcases h with h | h
    · exact .inl (k.trans h)
    · exact .inr fun i hi => h i (k ▸ hi)
  · exact .inr fun i hi => Nat.le_trans hs (k i hi)
theorem Where.older {a b : World} {v v1 : Value} (h : Where b v v1) (hs : a.heap.size ≤ b.heap.size) : Where a v v1 := by
  rcases h with h | h
  · exact .inl h
  · exact .inr fun i hi => Nat.le_trans hs (h i hi)
/-- A call answers v with ys behind it; nothing else of what there was has turned. -/
def AppAns (base : Nat) (t : TypeId) (size n : Nat) (xs : List Value) (v : Value) (w : World) (e : Ending) (w' : World) : Prop :=
  ∃ A c, e = .returned (.slice A n c) ∧ w'.ownsRow base t size (.slice A n c) n xs ∧ w.grownBy w' v.ownBlock ∧ Where w v (.slice A n c) ∧ n ≤ c ∧ c ≤ 9223372036854775807
theorem appAns {base : Nat} {t : TypeId} {size n c : Nat} {xs : List Value} {v : Value} {w w' : World} {e : Ending} {A : Option Addr} (hown : w'.ownsRow base t size (.slice A n c) n xs) (hg : w.grownBy w' v.ownBlock) (hw : Where w v (.slice A n c))
    (he : e = .returned (.slice A n c)) : AppAns base t size n xs v w e w' := by
  obtain ⟨A', c', h1, h2, h3⟩ := own_slice hown
  injection h1 with h1 h4 h5
  subst h1; subst h5
  exact ⟨A, c, he, hown, hg, hw, h2, h3⟩
end Go.Proofs.Ytjpjpcockhmbeaa
