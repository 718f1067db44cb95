/- What XLex7 says of builders and of decimals, where the seat has no lex.Join. -/
import Derived.Test.YtcaapbbbekggiaaGreatDoorBase2
namespace Go.Proofs.YtcaapbbbekggiaaGreatDoor
open Go.ChangeShapes Go.WideShapes Go.ChangeAt Go.RowKit
set_option linter.unusedVariables false
set_option maxRecDepth 100000
theorem bld_below {w w' : World} {B b : Nat} {l : List Value} (h : Bld w B b l) (hb : Below w.heap.size w w') : Bld w' B b l := by
  have key : ∀ p, Lib.BuilderAtF 52 5 B b p l w → Lib.BuilderAtF 52 5 B b p l w' := by
    rintro p ⟨hB, v, hbk, hown, hne⟩
    have hlt : b < w.heap.size := by
      rcases Nat.lt_or_ge b w.heap.size with h' | h'
      · exact h'
      · simp [Array.getElem?_eq_none h'] at hbk
    refine ⟨hB, v, (hb.block b hlt).trans hbk, ⟨hown.1, ?_⟩, hne⟩
    rcases hown.2 with h | ⟨g, cap, cur, fz, hv, hg, hh, rest⟩
    · exact .inl h
    · refine .inr ⟨g, cap, cur, fz, hv, hg, ?_, rest⟩
      have : g < w.heap.size := (Array.getElem?_eq_some_iff.1 hh).1
      exact (hb.block g this).trans hh
  exact h.elim (fun x => .inl (key _ x)) (fun x => .inr (key _ x))
theorem bld_alloc {w : World} {B b : Nat} {l : List Value} (h : Bld w B b l) (o : Obj) : Bld (w.alloc o) B b l := bld_below h ((Below.refl w.heap.size w).alloc (Nat.le_refl _) o)
theorem BldKept.blk {B b : Nat} {w w' : World} (h : BldKept B b w w') {x : Nat} {t : TypeId} {cs : List Value} (hx : Blk w x t cs) (hb : x ≠ b) (ht : t ≠ 5) : Blk w' x t cs :=
  h.2 x _ hx (fun e => hb (by injection e)) (by intro c fz e; injection e with _ e _; exact ht e)
/-- The powers of ten lie where strconv has them. -/
def Tab (w : World) : Prop := Lib.TabIs Tryz.prog w "internal/strconv.uint64pow10" .u64 Lib.pow10Tab
theorem tab_of {w w' : World} (h : Tab w) (hb : Below w.heap.size w w') : Tab w' := by
  have hs : (Tryz.prog.globalNamed "internal/strconv.uint64pow10").isSome = true := by kernel_rfl
  obtain ⟨g, hg⟩ := Option.isSome_iff_exists.1 hs
  exact Go.Joins.tab_stays hg h hb (Nat.le_refl _)
theorem itoa_below (n : Int) (h0 : -9223372036854775808 ≤ n) (h1 : n ≤ 9223372036854775807) (w : World) (ht : Tab w) :
    Calls Tryz.prog 47 #[.int .i64 n] w fun e w' => e = .returned (.string ⟨(Lib.itoa n).toArray⟩) ∧ Below w.heap.size w w' :=
  (Tryz.strconv_Itoa n h0 h1 w ht).mono (by rintro e w' ⟨h, k, os, rfl⟩; exact ⟨h, Lib.below_grow _ w (Nat.le_refl _) k os⟩)
theorem bToldU (B b : Nat) (l : List UInt8) (w : World) (h : Bld w B b (Lib.byteCells l)) (hBw : B ≤ w.heap.size) :
    Calls Tryz.prog 29 #[.pointer (some ⟨b, 0, none⟩)] w fun e w' => e = .returned (.string ⟨l.toArray⟩) ∧ Below B w w' :=
  (Tryz.Builder_String_any_k B b l w h hBw).mono fun _ _ h => ⟨h.1, h.2.2.1⟩
end Go.Proofs.YtcaapbbbekggiaaGreatDoor
