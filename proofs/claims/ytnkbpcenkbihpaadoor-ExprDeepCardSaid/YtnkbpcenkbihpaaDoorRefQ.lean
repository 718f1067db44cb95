/- klaxonref1.Quote. -/
import Derived.Test.YtnkbpcenkbihpaaDoorBase
import Derived.Deep.CutBlock
import Derived.Deep.DeepCutAuto
namespace Go.Proofs.YtnkbpcenkbihpaaDoor
open Go.ChangeShapes Go.WideShapes Go.ChangeAt Go.RowKit
set_option linter.unusedVariables false
set_option linter.unusedSimpArgs false
set_option maxRecDepth 100000
/-- Within Quote: a row of its own of these bytes. -/
structure QAt (w : World) (A : Option Addr) (n c : Nat) (l : List UInt8) (wx : World) : Prop where
  row : wx.ownsRow w.heap.size 5 1 (.slice A n c) n (Lib.byteCells l)
  len : l.length = n
  bel : Below w.heap.size w wx
theorem QAt.one {w : World} (b : UInt8) (z : Int) (hz : z = b.toNat) : QAt w (some ⟨w.heap.size, 0, none⟩) 1 1 [b] (w.alloc (.cells #[.int .u8 z] 5)) := by
  subst hz
  exact ⟨(Blk.mk (heap_alloc_new w _) : Blk _ w.heap.size 5 [.int .u8 (b.toNat : Int)]).owns (n := 1) (cap := 1) (size := 1) (Nat.le_refl _) (Nat.le_refl _) (by unfold maxLen; omega) rfl, rfl, (Below.refl _ _).alloc (Nat.le_refl _) _⟩
theorem QAt.next {w wx w3 : World} {A A3 : Option Addr} {n c c3 : Nat} {l : List UInt8} {o : Obj} (h : QAt w A n c l wx) (b : UInt8) (hown : w3.ownsRow w.heap.size 5 1 (.slice A3 (n + 1) c3) (n + 1) (Lib.byteCells l ++ Lib.byteCells [b])) (hg : (wx.alloc o).grownBy w3 (Value.slice A n c).ownBlock) : QAt w A3 (n + 1) c3 (l ++ [b]) w3 :=
  ⟨by rw [Lib.byteCells_append]; exact hown, by rw [List.length_append, h.len]; rfl, (h.bel.alloc h.bel.size o).grown hg (Nat.le_trans h.bel.size (by simp)) (fun g hg => (h.row.lt g hg).1)⟩
theorem byte_eq {x : UInt8} {k : Nat} (hk : k < 256) : ((x.toNat : Int) == (k : Int)) = decide (x = UInt8.ofNat k) := by
  rw [Bool.eq_iff_iff, beq_iff_eq, decide_eq_true_iff]
  constructor
  · intro h; exact UInt8.toNat_inj.1 (by rw [UInt8.toNat_ofNat']; omega)
  · intro h; rw [h, UInt8.toNat_ofNat']; omega
theorem escL_snoc (s : ByteArray) (k : Nat) (h : k < s.size) : escL (s.data.toList.take (k + 1)) = escL (s.data.toList.take k) ++ (if escB s[k] then [92, s[k]] else [s[k]]) := by
  rw [take_snoc_b s k h, escL_append, escL_one]
end Go.Proofs.YtnkbpcenkbihpaaDoor
