/- Facts of memory that stay when more memory is made: one word for them all. No program in it. -/
import Derived.Test.YtfcjalojgmpnoaaBase
import Derived.Lib.Hide
namespace Go.Proofs.Ytfcjalojgmpnoaa
open Go.RowKit
set_option linter.unusedVariables false
/-- A fact that holds, and stays when memory is made. -/
def Stays (P : World → Prop) (w : World) : Prop := ∀ w', Below w.heap.size w w' → P w'
theorem Stays.now {P : World → Prop} {w : World} (h : Stays P w) : P w := h w (Below.refl _ _)
theorem Stays.below {P : World → Prop} {w w' : World} (h : Stays P w) (hb : Below w.heap.size w w') : Stays P w' := fun w2 h2 => h w2 (hb.trans (h2.mono hb.size))
/-- Behind w0, with these facts. -/
def Kept (w0 : World) (Ps : List (World → Prop)) (w : World) : Prop := Below w0.heap.size w0 w ∧ ∀ P ∈ Ps, Stays P w
section
variable {w0 w w' : World} {Ps : List (World → Prop)} {P P1 P2 P3 P4 P5 P6 P7 P8 P9 : World → Prop}
theorem Kept.start (w : World) : Kept w [] w := ⟨Below.refl _ _, fun P h => absurd h List.not_mem_nil⟩
theorem Kept.bel (h : Kept w0 Ps w) : Below w0.heap.size w0 w := h.1
theorem Kept.size (h : Kept w0 Ps w) : w0.heap.size ≤ w.heap.size := h.1.size
theorem Kept.below (h : Kept w0 Ps w) (hb : Below w.heap.size w w') : Kept w0 Ps w' := ⟨h.1.trans (hb.mono h.1.size), fun P hp => (h.2 P hp).below hb⟩
theorem Kept.alloc (h : Kept w0 Ps w) (o : Obj) : Kept w0 Ps (w.alloc o) := h.below ((Below.refl _ _).alloc (Nat.le_refl _) o)
theorem Kept.drew (h : Kept w0 Ps w) : Kept w0 Ps w.drew := h.below (Below.refl _ _).drew
theorem Kept.drewN (h : Kept w0 Ps w) (n : Nat) : Kept w0 Ps (w.drewN n) := by
  induction n with
  | zero => exact h
  | succ n ih => exact ih.drew
theorem Kept.add (h : Kept w0 Ps w) (hP : Stays P w) : Kept w0 (P :: Ps) w := ⟨h.1, fun Q hq => by
  rcases List.mem_cons.1 hq with rfl | hq
  · exact hP
  · exact h.2 Q hq⟩
theorem Kept.tail (h : Kept w0 (P :: Ps) w) : Kept w0 Ps w := ⟨h.1, fun Q hq => h.2 Q (List.mem_cons_of_mem _ hq)⟩
theorem Kept.p0 (h : Kept w0 (P :: Ps) w) : P w := (h.2 P List.mem_cons_self).now
theorem Kept.p1 (h : Kept w0 (P :: P1 :: Ps) w) : P1 w := h.tail.p0
theorem Kept.p2 (h : Kept w0 (P :: P1 :: P2 :: Ps) w) : P2 w := h.tail.p1
theorem Kept.p3 (h : Kept w0 (P :: P1 :: P2 :: P3 :: Ps) w) : P3 w := h.tail.p2
theorem Kept.p4 (h : Kept w0 (P :: P1 :: P2 :: P3 :: P4 :: Ps) w) : P4 w := h.tail.p3
theorem Kept.p5 (h : Kept w0 (P :: P1 :: P2 :: P3 :: P4 :: P5 :: Ps) w) : P5 w := h.tail.p4
theorem Kept.p6 (h : Kept w0 (P :: P1 :: P2 :: P3 :: P4 :: P5 :: P6 :: Ps) w) : P6 w := h.tail.p5
theorem Kept.p7 (h : Kept w0 (P :: P1 :: P2 :: P3 :: P4 :: P5 :: P6 :: P7 :: Ps) w) : P7 w := h.tail.p6
theorem Kept.p8 (h : Kept w0 (P :: P1 :: P2 :: P3 :: P4 :: P5 :: P6 :: P7 :: P8 :: Ps) w) : P8 w := h.tail.p7
end
section
variable {w w' : World} {B size n g base : Nat} {A : Option Addr} {xs cs : List Value} {t : TypeId} {v : Value}
theorem Sees.stays (h : Sees w B size A n xs) (hB : B ≤ w.heap.size) : Stays (fun W => Sees W B size A n xs) w := fun _ hb => h.below (hb.mono hB)
theorem Blk.stays (h : Blk w g t cs) : Stays (fun W => Blk W g t cs) w := fun _ hb => h.below hb h.lt
theorem own_stays (h : w.ownsRow base t size v n xs) : Stays (fun W => W.ownsRow base t size v n xs) w := fun _ hb => own_below h hb (Nat.le_refl _)
/-- A value is a slice that reads as these cells. -/
def Slc (w : World) (size : Nat) (v : Value) (n : Nat) (xs : List Value) : Prop := ∃ A c, v = .slice A n c ∧ Sees w w.heap.size size A n xs ∧ n ≤ c ∧ c ≤ 9223372036854775807
theorem Slc.below (h : Slc w size v n xs) (hb : Below w.heap.size w w') : Slc w' size v n xs := by
  obtain ⟨A, c, h1, h2, h3⟩ := h
  exact ⟨A, c, h1, (h2.below hb).more hb.size, h3⟩
theorem Slc.stays (h : Slc w size v n xs) : Stays (fun W => Slc W size v n xs) w := fun _ hb => h.below hb
theorem Slc.sees {c : Nat} (h : Slc w size (.slice A n c) n xs) : Sees w w.heap.size size A n xs := by
  obtain ⟨A', c', h1, h2, h3, h4⟩ := h
  injection h1 with h1 h5 h6
  subst h1; subst h6
  exact h2
theorem Slc.caps {c : Nat} (h : Slc w size (.slice A n c) n xs) : n ≤ c ∧ c ≤ 9223372036854775807 := by
  obtain ⟨A', c', h1, h2, h3, h4⟩ := h
  injection h1 with h1 h5 h6
  subst h6
  exact ⟨h3, h4⟩
theorem Slc.form (h : Slc w size v n xs) : ∃ A c, v = .slice A n c ∧ n ≤ c ∧ c ≤ 9223372036854775807 := by
  obtain ⟨A, c, h1, h2, h3⟩ := h
  exact ⟨A, c, h1, h3⟩
theorem Slc.of_own (h : w.ownsRow base t size v n xs) : Slc w size v n xs := by
  obtain ⟨A, c, rfl, h1, h2⟩ := own_slice h
  exact ⟨A, c, rfl, Sees.of_own h, h1, h2⟩
/-- A call answers a new slice of these cells. -/
theorem slc_ans {W : World} {e : Ending} (h : OwnAns t size n xs W e w') : ∃ A c, e = .returned (.slice A n c) ∧ Slc w' size (.slice A n c) n xs ∧ Below W.heap.size W w' := by
  obtain ⟨A, c, h1, h2, h3, h4, h5⟩ := h
  exact ⟨A, c, h1, Slc.of_own h2, h3⟩
end
end Go.Proofs.Ytfcjalojgmpnoaa
