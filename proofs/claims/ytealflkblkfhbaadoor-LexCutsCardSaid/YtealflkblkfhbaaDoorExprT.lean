/- Trees of expressions in memory. -/
import Derived.Test.YtealflkblkfhbaaDoorMtcMath
import Derived.Test.YtealflkblkfhbaaDoorFar
import Derived.Test.YtealflkblkfhbaaDoorSet
namespace Go.Proofs.YtealflkblkfhbaaDoor
open Go.ChangeShapes Go.WideShapes Go.ChangeAt Go.RowKit
set_option linter.unusedVariables false
set_option maxRecDepth 100000
/-- Rows of five cells. -/
def quint (l : List (Value × Value × Value × Value × Value)) : List Value := l.flatMap fun x => [x.1, x.2.1, x.2.2.1, x.2.2.2.1, x.2.2.2.2]
theorem quint_length (l : List (Value × Value × Value × Value × Value)) : (quint l).length = l.length * 5 := by
  induction l with
  | nil => rfl
  | cons x l ih => simp only [quint, List.flatMap_cons, List.length_append, List.length_cons, List.length_nil] at ih ⊢; omega
theorem quint_append (l m : List (Value × Value × Value × Value × Value)) : quint (l ++ m) = quint l ++ quint m := by simp [quint]
theorem quint_get (l : List (Value × Value × Value × Value × Value)) (p : Nat) (h : p < l.length) : (quint l)[p * 5]? = some l[p].1 ∧ (quint l)[p * 5 + 1]? = some l[p].2.1 ∧ (quint l)[p * 5 + 2]? = some l[p].2.2.1 ∧ (quint l)[p * 5 + 3]? = some l[p].2.2.2.1 ∧ (quint l)[p * 5 + 4]? = some l[p].2.2.2.2 := by
  have e : quint l = quint (l.take p) ++ (quint [l[p]] ++ quint (l.drop (p + 1))) := by
    rw [← quint_append, ← quint_append, List.singleton_append, ← List.drop_eq_getElem_cons h, List.take_append_drop]
  have hl : (quint (l.take p)).length = p * 5 := by rw [quint_length, List.length_take]; omega
  rw [e]
  refine ⟨?_, ?_, ?_, ?_, ?_⟩
  · rw [List.getElem?_append_right (by omega), hl, Nat.sub_self]; rfl
  · rw [List.getElem?_append_right (by omega), hl, show p * 5 + 1 - p * 5 = 1 by omega]; rfl
  · rw [List.getElem?_append_right (by omega), hl, show p * 5 + 2 - p * 5 = 2 by omega]; rfl
  · rw [List.getElem?_append_right (by omega), hl, show p * 5 + 3 - p * 5 = 3 by omega]; rfl
  · rw [List.getElem?_append_right (by omega), hl, show p * 5 + 4 - p * 5 = 4 by omega]; rfl
theorem Sees.quint {w : World} {B : Nat} {A : Option Addr} {n : Nat} {l : List (Value × Value × Value × Value × Value)} (h : Sees w B 5 A n (quint l)) {k : Nat} (hk : k < n) :
    ∃ ad, ∃ hl : k < l.length, A = some ad ∧ w.cell? (ad.add (k * 5)) = some l[k].1 ∧ w.cell? ⟨(ad.add (k * 5)).block, (ad.add (k * 5)).off + 1, none⟩ = some l[k].2.1 ∧ w.cell? ⟨(ad.add (k * 5)).block, (ad.add (k * 5)).off + 2, none⟩ = some l[k].2.2.1 ∧ w.cell? ⟨(ad.add (k * 5)).block, (ad.add (k * 5)).off + 3, none⟩ = some l[k].2.2.2.1 ∧ w.cell? ⟨(ad.add (k * 5)).block, (ad.add (k * 5)).off + 4, none⟩ = some l[k].2.2.2.2 := by
  have hl : k < l.length := by have := h.len; rw [quint_length] at this; omega
  obtain ⟨ad, e, _, hc⟩ := h.at_ (by omega)
  obtain ⟨h0, h1, h2, h3, h4⟩ := quint_get l k hl
  exact ⟨ad, hl, e, hc _ _ h0, by rw [add_spelt _ _ _ (by omega)]; exact hc _ _ h1, by rw [add_spelt _ _ _ (by omega)]; exact hc _ _ h2, by rw [add_spelt _ _ _ (by omega)]; exact hc _ _ h3, by rw [add_spelt _ _ _ (by omega)]; exact hc _ _ h4⟩
/-- An expression: its kind, its number, the value that its matchers lie under, they, its names', they, its kids', they. -/
inductive XE where
  | mk (kd n : Int) (mv : Value) (ms : List Mtc) (nv : Value) (ns : List ByteArray) (kv : Value) (kids : List XE)
def XE.kd : XE → Int | .mk a _ _ _ _ _ _ _ => a
def XE.n : XE → Int | .mk _ a _ _ _ _ _ _ => a
def XE.mv : XE → Value | .mk _ _ a _ _ _ _ _ => a
def XE.ms : XE → List Mtc | .mk _ _ _ a _ _ _ _ => a
def XE.nv : XE → Value | .mk _ _ _ _ a _ _ _ => a
def XE.ns : XE → List ByteArray | .mk _ _ _ _ _ a _ _ => a
def XE.kv : XE → Value | .mk _ _ _ _ _ _ a _ => a
def XE.kids : XE → List XE | .mk _ _ _ _ _ _ _ a => a
def XE.cells (x : XE) : Value × Value × Value × Value × Value := (.int .i64 x.kd, .int .i64 x.n, x.mv, x.nv, x.kv)
def XE.val (x : XE) : Value := .agg #[.int .i64 x.kd, .int .i64 x.n, x.mv, x.nv, x.kv]
/-- Expressions one behind the other. -/
def kcells (l : List XE) : List Value := quint (l.map XE.cells)
theorem kcells_append (l m : List XE) : kcells (l ++ m) = kcells l ++ kcells m := by unfold kcells; rw [List.map_append, quint_append]
theorem kcells_length (l : List XE) : (kcells l).length = l.length * 5 := by unfold kcells; rw [quint_length, List.length_map]
theorem Sees.kid {w : World} {B : Nat} {A : Option Addr} {n : Nat} {l : List XE} (h : Sees w B 5 A n (kcells l)) {k : Nat} (hk : k < n) :
    ∃ ad, ∃ hl : k < l.length, A = some ad ∧ w.cell? (ad.add (k * 5)) = some (.int .i64 l[k].kd) ∧ w.cell? ⟨(ad.add (k * 5)).block, (ad.add (k * 5)).off + 1, none⟩ = some (.int .i64 l[k].n) ∧ w.cell? ⟨(ad.add (k * 5)).block, (ad.add (k * 5)).off + 2, none⟩ = some l[k].mv ∧ w.cell? ⟨(ad.add (k * 5)).block, (ad.add (k * 5)).off + 3, none⟩ = some l[k].nv ∧ w.cell? ⟨(ad.add (k * 5)).block, (ad.add (k * 5)).off + 4, none⟩ = some l[k].kv := by
  obtain ⟨ad, hl, e, h0, h1, h2, h3, h4⟩ := Sees.quint h hk
  have hl2 : k < l.length := by simpa using hl
  rw [List.getElem_map] at h0 h1 h2 h3 h4
  exact ⟨ad, hl2, e, h0, h1, h2, h3, h4⟩
/-- An expression of so many floors lies in memory. -/
def okX : Nat → XE → World → Prop
  | 0, _, _ => False
  | d + 1, x, w => Slc w 3 x.mv x.ms.length (mtcs x.ms) ∧ Slc w 1 x.nv x.ns.length (strs x.ns) ∧ Slc w 5 x.kv x.kids.length (kcells x.kids) ∧ ∀ k ∈ x.kids, okX d k w
theorem okX_below {w w' : World} (hb : Below w.heap.size w w') : ∀ (d : Nat) (x : XE), okX d x w → okX d x w'
  | 0, _, h => h.elim
  | d + 1, x, h => ⟨h.1.below hb, h.2.1.below hb, h.2.2.1.below hb, fun k hk => okX_below hb d k (h.2.2.2 k hk)⟩
theorem okX_stays {w : World} {d : Nat} {x : XE} (h : okX d x w) : Stays (fun W => okX d x W) w := fun _ hb => okX_below hb d x h
theorem okX_more {w : World} : ∀ (d : Nat) (x : XE), okX d x w → okX (d + 1) x w
  | 0, _, h => h.elim
  | d + 1, x, h => ⟨h.1, h.2.1, h.2.2.1, fun k hk => okX_more d k (h.2.2.2 k hk)⟩
theorem okX_far {S : Nat → Prop} {w : World} {d : Nat} {kd n : Int} {mv nv kv : Value} {ms : List Mtc} {ns : List ByteArray} {ks : List XE}
    (h1 : FarS S (fun W => Slc W 3 mv ms.length (mtcs ms)) w) (h2 : FarS S (fun W => Slc W 1 nv ns.length (strs ns)) w) (h3 : FarS S (fun W => Slc W 5 kv ks.length (kcells ks)) w) (h4 : ∀ k ∈ ks, FarS S (okX d k) w) :
    FarS S (okX (d + 1) (.mk kd n mv ms nv ns kv ks)) w := fun V hs hk => ⟨h1 V hs hk, h2 V hs hk, h3 V hs hk, fun k hm => h4 k hm V hs hk⟩
theorem okX_forms {d : Nat} {x : XE} {w : World} (h : okX d x w) : ∃ A1 c1 A2 c2 A3 c3, x.mv = .slice A1 x.ms.length c1 ∧ x.nv = .slice A2 x.ns.length c2 ∧ x.kv = .slice A3 x.kids.length c3 := by
  cases d with
  | zero => exact h.elim
  | succ d =>
    obtain ⟨⟨A1, c1, e1, _⟩, ⟨A2, c2, e2, _⟩, ⟨A3, c3, e3, _⟩, _⟩ := h
    exact ⟨A1, c1, A2, c2, A3, c3, e1, e2, e3⟩
/-- What klaxonkeep makes: a number of numbers .. -/
def keepN : Nat → XE → Prop
  | 0, _ => False
  | d + 1, x => (x.kd = 1 ∧ -3 ≤ x.n ∧ x.n ≤ 5 ∧ x.ms = [] ∧ x.ns = [] ∧ x.kids = []) ∨ (3 ≤ x.kd ∧ x.kd ≤ 5 ∧ x.n = 0 ∧ x.ms = [] ∧ x.ns = [] ∧ ∃ a b, x.kids = [a, b] ∧ (a.kd = 1 ∧ -3 ≤ a.n ∧ a.n ≤ 5 ∧ a.ms = [] ∧ a.ns = [] ∧ a.kids = []) ∧ keepN d b)
/-- .. its matchers .. -/
def keepMs (ms : List Mtc) : Prop := ∃ c : UInt8, (c = 109 ∨ c = 110) ∧ (ms = [(⟨#[110, 97, 109, 101]⟩, ⟨#[c]⟩, 1)] ∨ ∃ a q : Nat, ∃ kd : Int, a < 3 ∧ q < 4 ∧ 1 ≤ kd ∧ kd ≤ 4 ∧ ms = [(⟨#[110, 97, 109, 101]⟩, ⟨#[c]⟩, 1), (keepNames.getD a ⟨#[]⟩, keepValues.getD q ⟨#[]⟩, kd)])
/-- .. its names .. -/
def keepNs (ns : List ByteArray) : Prop := List.Sublist ns keepNames
/-- .. a vector of numbers. -/
def keepV : Nat → XE → Prop
  | 0, _ => False
  | d + 1, x =>
    (x.kd = 2 ∧ 1 ≤ x.n ∧ x.n ≤ 30 ∧ keepMs x.ms ∧ x.ns = [] ∧ x.kids = []) ∨
    (8 ≤ x.kd ∧ x.kd ≤ 13 ∧ x.n = 0 ∧ x.ms = [] ∧ x.ns = [] ∧ ∃ a b, x.kids = [a, b] ∧ keepV d a ∧ (b.kd = 1 ∧ -3 ≤ b.n ∧ b.n ≤ 9 ∧ b.ms = [] ∧ b.ns = [] ∧ b.kids = [])) ∨
    (3 ≤ x.kd ∧ x.kd ≤ 16 ∧ x.n = 0 ∧ x.ms = [] ∧ x.ns = [] ∧ ∃ a b, x.kids = [a, b] ∧ keepV d a ∧ keepV d b) ∨
    (3 ≤ x.kd ∧ x.kd ≤ 7 ∧ x.n = 0 ∧ x.ms = [] ∧ x.ns = [] ∧ ∃ a b, x.kids = [a, b] ∧ keepV d a ∧ keepN d b) ∨
    (17 ≤ x.kd ∧ x.kd ≤ 20 ∧ x.n = 0 ∧ x.ms = [] ∧ keepNs x.ns ∧ ∃ a, x.kids = [a] ∧ keepV d a)
end Go.Proofs.YtealflkblkfhbaaDoor
