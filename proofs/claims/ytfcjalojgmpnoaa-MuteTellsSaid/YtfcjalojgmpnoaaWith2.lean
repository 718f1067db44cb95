/- lset.With, wherever the label comes; lset.Get. -/
import Derived.Test.YtfcjalojgmpnoaaInsert
namespace Go.Proofs.Ytfcjalojgmpnoaa
open Go.ChangeShapes Go.WideShapes Go.ChangeAt Go.RowKit
set_option linter.unusedVariables false
set_option maxRecDepth 100000
theorem own_form2 {w : World} {base : Nat} {e : TypeId} {n c s : Nat} {A : Option Addr} {xs : List Value} (h : w.ownsRow base e s (.slice A n c) n xs) (hn : 0 < n) (hs : 0 < s) : ∃ g cur, A = some ⟨g, 0, none⟩ ∧ base ≤ g ∧ Blk w g e cur ∧ n ≤ c ∧ c ≤ maxLen ∧ cur.length = c * s ∧ cur.take (n * s) = xs := by
  rcases h.2 with ⟨h1, h2⟩ | ⟨g, cap, cur, hv, hb, hg, hnc, hcm, hcs, ht⟩
  · injection h1 with _ h1; omega
  · injection hv with h1 h2 h3
    subst h3
    exact ⟨g, cur.toList, h1, hb, Blk.mk (by simpa using hg), hnc, hcm, by simpa using hcs, ht⟩
/-- What With makes. -/
def keptL (l : List (ByteArray × ByteArray)) (name : ByteArray) : List (ByteArray × ByteArray) := l.filter fun x => !hasS [name] x.1
def lessB (name : ByteArray) (y : ByteArray × ByteArray) : Bool := Op.bytesLess y.1.toList name.toList
def putL (k : List (ByteArray × ByteArray)) (x : ByteArray × ByteArray) : List (ByteArray × ByteArray) := k.takeWhile (lessB x.1) ++ x :: k.dropWhile (lessB x.1)
def withL (l : List (ByteArray × ByteArray)) (name value : ByteArray) : List (ByteArray × ByteArray) := if value.toList = [] then keptL l name else putL (keptL l name) (name, value)
theorem takeWhile_at {p : ByteArray × ByteArray → Bool} : ∀ {k : List (ByteArray × ByteArray)} {i : Nat}, (∀ j (h : j < k.length), j < i → p k[j] = true) → (∀ h : i < k.length, p k[i] = false) → i ≤ k.length → k.takeWhile p = k.take i ∧ k.dropWhile p = k.drop i
  | [], i, _, _, hi => by
    have : i = 0 := by simpa using hi
    subst this; simp
  | x :: k, 0, _, h2, _ => by
    have := h2 (by simp)
    simp only [List.getElem_cons_zero] at this
    simp [this]
  | x :: k, i + 1, h1, h2, hi => by
    have h0 := h1 0 (by simp) (by omega)
    simp only [List.getElem_cons_zero] at h0
    obtain ⟨e1, e2⟩ := takeWhile_at (p := p) (k := k) (i := i) (fun j h hj => by have := h1 (j + 1) (by simp; omega) (by omega); simpa using this) (fun h => by have := h2 (by simp; omega); simpa using this) (by simpa using hi)
    simp [h0, e1, e2]
end Go.Proofs.Ytfcjalojgmpnoaa
