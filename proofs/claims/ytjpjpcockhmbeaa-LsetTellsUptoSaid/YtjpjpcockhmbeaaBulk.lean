/- The bulk of one argument is no more than all arguments' together. -/
import Derived.Test.YtjpjpcockhmbeaaRows
namespace Go.Proofs.Ytjpjpcockhmbeaa
open Go
theorem bulk_part {H : Type} {d : DataW H} {l : List (DataW H)} (h : d ∈ l) : Rows.uptoBulk d ≤ Rows.uptoBulkAll l := by
  induction l with
  | nil => cases h
  | cons x r ih =>
    simp only [Rows.uptoBulkAll]
    cases List.mem_cons.1 h with
    | inl e => subst e; omega
    | inr e => have := ih e; omega
end Go.Proofs.Ytjpjpcockhmbeaa
