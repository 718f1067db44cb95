/- lset.Parse: the whole. -/
import Derived.Test.YtfcjalojgmpnoaaParse2
namespace Go.Proofs.Ytfcjalojgmpnoaa
open Go.ChangeShapes Go.WideShapes Go.ChangeAt Go.RowKit
set_option linter.unusedVariables false
set_option maxRecDepth 100000
theorem Try.infoLabel : (Try.prog.info? 23).map (fun i => (i.zero, i.size, i.bytes)) = some (some (.agg #[.string ⟨#[]⟩, .string ⟨#[]⟩]), 2, 32) := by kernel_rfl
theorem own_other {w : World} {base : Nat} {e : TypeId} {s n : Nat} {v : Value} {xs : List Value} (h : w.ownsRow base e s v n xs) {p : Addr} (hp : v.ownBlock ≠ some p.block) (u : Value) : (w.setCell p u).ownsRow base e s v n xs := by
  refine ⟨h.1, ?_⟩
  rcases h.2 with h2 | ⟨g, cap, cur, hv, hg, hh, rest⟩
  · exact .inl h2
  · refine .inr ⟨g, cap, cur, hv, hg, ?_, rest⟩
    exact (Below.heap_setCell w p u g (fun e => hp (by rw [hv, e]; rfl))).trans hh
theorem parseLoop_stop (f : Nat) (l : List (ByteArray × ByteArray)) : parseLoop (f + 1) [125] l = some l := by rw [parseLoop, if_pos rfl]
theorem parseLoop_first {f : Nat} {rest : List UInt8} {l : List (ByteArray × ByteArray)} (h : ¬ rest = [125]) (h0 : l.length = 0) : parseLoop (f + 1) rest l = match labelF rest with | none => none | some (x, r') => if l.length + 1 ≤ 6 then parseLoop f r' (l ++ [x]) else none := by
  conv => lhs; unfold parseLoop
  rw [if_neg h, if_pos h0]
  try rfl
theorem parseLoop_next {f : Nat} {r : List UInt8} {l : List (ByteArray × ByteArray)} (h : ¬ 44 :: r = [125]) (h0 : ¬ l.length = 0) : parseLoop (f + 1) (44 :: r) l = match labelF r with | none => none | some (x, r') => if l.length + 1 ≤ 6 then parseLoop f r' (l ++ [x]) else none := by
  conv => lhs; unfold parseLoop
  rw [if_neg h, if_neg h0]
  simp only [if_true]
  try rfl
theorem parseLoop_bad {f : Nat} {rest : List UInt8} {l : List (ByteArray × ByteArray)} (h : ¬ rest = [125]) (h0 : ¬ l.length = 0) (hc : ¬ ∃ r, rest = 44 :: r) : parseLoop (f + 1) rest l = none := by
  unfold parseLoop
  rw [if_neg h, if_neg h0]
  cases rest with
  | nil => rfl
  | cons x r => simp only; rw [if_neg (fun e => hc ⟨r, by rw [e]⟩)]
/-- What is told of a text that may be a set's. -/
def ParseAns (r : Option (List (ByteArray × ByteArray))) (w : World) (e : Ending) (w' : World) : Prop :=
  Below w.heap.size w w' ∧ match r with
    | none => e = .returned (.tuple #[.slice none 0 0, .bool false])
    | some l => ∃ A c, e = .returned (.tuple #[.slice A l.length c, .bool true]) ∧ w'.ownsRow w.heap.size 23 2 (.slice A l.length c) l.length (lbls l) ∧ l.length ≤ c ∧ c ≤ 9223372036854775807
theorem parseAns_no {w w' : World} {e : Ending} {r : Option (List (ByteArray × ByteArray))} (hr : r = none) (hb : Below w.heap.size w w') (he : e = .returned (.tuple #[.slice none 0 0, .bool false])) : ParseAns r w e w' := by subst hr; exact ⟨hb, he⟩
theorem parseAns_yes {w w' : World} {e : Ending} {r : Option (List (ByteArray × ByteArray))} {l : List (ByteArray × ByteArray)} {A : Option Addr} {c : Nat} (hr : r = some l) (hb : Below w.heap.size w w') (ho : w'.ownsRow w.heap.size 23 2 (.slice A l.length c) l.length (lbls l)) (he : e = .returned (.tuple #[.slice A l.length c, .bool true])) : ParseAns r w e w' := by
  subst hr
  obtain ⟨A', c', h1, h2, h3⟩ := own_slice ho
  injection h1 with h1 h4 h5; subst h1; subst h5
  exact ⟨hb, A, c, he, ho, h2, h3⟩
/-- What the loop leaves. -/
def ParseCut (Q : Option (List (ByteArray × ByteArray))) (w : World) (x5 x6 : Value) (wx : World) : Prop :=
  Below w.heap.size w wx ∧ match Q with
    | none => x5 = .bool false
    | some l => x5 = .bool true ∧ ∃ A c, x6 = .slice A l.length c ∧ wx.ownsRow w.heap.size 23 2 (.slice A l.length c) l.length (lbls l)
theorem parseCut_no {Q : Option (List (ByteArray × ByteArray))} {w wx : World} {x5 x6 : Value} (hQ : Q = none) (hb : Below w.heap.size w wx) (h5 : x5 = .bool false) : ParseCut Q w x5 x6 wx := by subst hQ; exact ⟨hb, h5⟩
theorem parseCut_yes {Q : Option (List (ByteArray × ByteArray))} {w wx : World} {x5 x6 : Value} {l : List (ByteArray × ByteArray)} {A : Option Addr} {c : Nat} (hQ : Q = some l) (hb : Below w.heap.size w wx) (h5 : x5 = .bool true) (h6 : x6 = .slice A l.length c) (ho : wx.ownsRow w.heap.size 23 2 (.slice A l.length c) l.length (lbls l)) : ParseCut Q w x5 x6 wx := by subst hQ; exact ⟨hb, h5, A, c, h6, ho⟩
/-- What holds at each round's head. -/
def ParseRel (Q : Option (List (ByteArray × ByteArray))) (s : ByteArray) (w : World) (g : Nat) (x4 x5 x6 : Value) (wr : World) : Prop :=
  Below w.heap.size w wr ∧ ((x5 = .bool false ∧ Q = none ∧ ∃ R, x4 = .string R) ∨
    (x5 = .bool true ∧ ∃ (rest : List UInt8) (l : List (ByteArray × ByteArray)) (A : Option Addr) (c : Nat), x4 = .string ⟨rest.toArray⟩ ∧ rest.length ≤ s.size ∧ l.length + g = 8 ∧ l.length ≤ 6 ∧ Q = parseLoop g rest l ∧ x6 = .slice A l.length c ∧ wr.ownsRow w.heap.size 23 2 (.slice A l.length c) l.length (lbls l)))
/-- The set's text behind the brace. -/
def behindL (s : List UInt8) : Option (List (ByteArray × ByteArray)) := match s with | [] => none | c :: r => if c = 123 then parseLoop 8 r [] else none
theorem parseF_behind (s : List UInt8) : parseF s = match behindL s with | none => none | some l => if rightS l then some l else none := by
  unfold parseF behindL
  cases s with
  | nil => rfl
  | cons c r =>
    simp only
    by_cases h : c = 123
    · simp only [h, if_true]; try rfl
    · simp [h]
end Go.Proofs.Ytfcjalojgmpnoaa
