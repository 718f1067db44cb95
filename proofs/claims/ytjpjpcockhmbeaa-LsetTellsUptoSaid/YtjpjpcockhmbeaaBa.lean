/- Texts as lists of bytes. -/
import Derived.WalkKit
import Derived.ShutString
namespace Go.Proofs.Ytjpjpcockhmbeaa
open Go.RowKit
theorem ba_ext {a b : ByteArray} (h : a.toList = b.toList) : a = b := by
  rw [ByteArray.toList_eq, ByteArray.toList_eq] at h
  cases a; cases b
  exact congrArg ByteArray.mk (Array.toList_inj.1 h)
theorem ba_list (l : List UInt8) : ByteArray.toList ⟨l.toArray⟩ = l := by rw [ByteArray.toList_eq]
end Go.Proofs.Ytjpjpcockhmbeaa
