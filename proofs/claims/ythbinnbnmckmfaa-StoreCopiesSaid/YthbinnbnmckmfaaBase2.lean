/- Texts, merged in one. -/
import Derived.Test.YthbinnbnmckmfaaBase
import Derived.Deep.RegionHeld3
import Derived.Deep.DeepCutAuto
import Derived.WalkKit
import Derived.ProofKit
import Derived.Test.YthbinnbnmckmfaaRows
import Derived.WalkSpells
import Derived.Lib.AppendZerosOnto
import Derived.Lib.AppendZeros
import Derived.Lib.Hide
import Derived.Deep.QuietTactic
import Derived.BigQuiet
import Derived.Laws.CopyOwn
import Derived.Orders
import Derived.Below
import Derived.OwnWalk
namespace Go.Proofs.Ythbinnbnmckmfaa
open Go.ChangeShapes Go.WideShapes Go.ChangeAt Go.RowKit
set_option linter.unusedVariables false
set_option maxRecDepth 100000
def lA : ByteArray × ByteArray := (⟨#[97]⟩, ⟨#[120]⟩)
def lB : ByteArray × ByteArray := (⟨#[98]⟩, ⟨#[121, 34, 122]⟩)
def lC : ByteArray × ByteArray := (⟨#[98]⟩, ⟨#[49]⟩)
def lD : ByteArray × ByteArray := (⟨#[97]⟩, ⟨#[50]⟩)
theorem word_a : wordF ⟨#[97]⟩ = true := by decide
theorem word_b : wordF ⟨#[98]⟩ = true := by decide
theorem okA : lblOk lA = true := by decide
theorem okB : lblOk lB = true := by decide
theorem okC : lblOk lC = true := by decide
theorem okD : lblOk lD = true := by decide
theorem less_ab : Op.bytesLess (⟨#[97]⟩ : ByteArray).toList (⟨#[98]⟩ : ByteArray).toList = true := by
  rw [show (⟨#[97]⟩ : ByteArray).toList = [97] from ba_list [97], show (⟨#[98]⟩ : ByteArray).toList = [98] from ba_list [98]]; decide
theorem less_ba : Op.bytesLess (⟨#[98]⟩ : ByteArray).toList (⟨#[97]⟩ : ByteArray).toList = false := by
  rw [show (⟨#[97]⟩ : ByteArray).toList = [97] from ba_list [97], show (⟨#[98]⟩ : ByteArray).toList = [98] from ba_list [98]]; decide
theorem right_two {x y : ByteArray × ByteArray} (hx : lblOk x = true) (hy : lblOk y = true) (h : Op.bytesLess x.1.toList y.1.toList = true) : rightS [x, y] = true := by
  simp only [rightS, rightK, riseAt, lblAt, List.length_cons, List.length_nil]
  simp [hx, hy, h]
theorem wrong_two {x y : ByteArray × ByteArray} (h : Op.bytesLess x.1.toList y.1.toList = false) : rightS [x, y] = false := by
  simp only [rightS, rightK, riseAt, lblAt, List.length_cons, List.length_nil]
  simp [h]
theorem rightAB : rightS [lA, lB] = true := right_two okA okB less_ab
theorem rightAC : rightS [lA, lC] = true := right_two okA okC less_ab
theorem printAB : printL [lA, lB] = [123, 97, 61, 34, 120, 34, 44, 98, 61, 34, 121, 92, 34, 122, 34, 125] := by rw [printL, if_pos rightAB]; decide
theorem printAC : printL [lA, lC] = [123, 97, 61, 34, 120, 34, 44, 98, 61, 34, 49, 34, 125] := by rw [printL, if_pos rightAC]; decide
theorem parseAB : parseF [123, 97, 61, 34, 120, 34, 44, 98, 61, 34, 121, 92, 34, 122, 34, 125] = some [lA, lB] := by rw [← printAB]; exact parseF_print rightAB
theorem parseNil : parseF [123, 125] = some [] := parseF_print (l := []) (by decide)
theorem parseCD : parseF [123, 98, 61, 34, 49, 34, 44, 97, 61, 34, 50, 34, 125] = none := by
  have h := parseLoop_mk [lC, lD] [] 8 (fun x hx => by simp at hx; rcases hx with rfl | rfl; exact okC; exact okD) (by decide) (by decide)
  have e : moreL [] [lC, lD] ++ [125] = [98, 61, 34, 49, 34, 44, 97, 61, 34, 50, 34, 125] := by decide
  rw [e] at h
  rw [parseF, if_pos rfl, h]
  simp only [List.nil_append]
  rw [if_neg (by rw [wrong_two (x := lC) (y := lD) less_ba]; decide)]
theorem withAC : withEnd [lA] ⟨#[98]⟩ ⟨#[49]⟩ = [lA, lC] := by decide
end Go.Proofs.Ythbinnbnmckmfaa

namespace Go.Proofs.Ythbinnbnmckmfaa
open Go.ChangeShapes Go.WideShapes Go.ChangeAt Go.RowKit
set_option linter.unusedVariables false
set_option maxRecDepth 100000
theorem cmp_less : ∀ a b : List UInt8, Lib.compareBytes a b = if Op.bytesLess a b then -1 else if Op.bytesLess b a then 1 else 0
  | [], [] => rfl
  | [], _ :: _ => rfl
  | _ :: _, [] => rfl
  | a :: x, b :: y => by
    have ih := cmp_less x y
    unfold Lib.compareBytes Op.bytesLess
    rcases u8_tri a b with h | h | h
    · simp [h]
    · subst h
      have hn : ¬ a < a := fun h => u8_not h h
      simp [hn, ih]
    · have hn := u8_not h
      have hne := u8_ne h
      have hb1 : (a == b) = false := by rw [beq_eq_false_iff_ne]; exact fun e => hne e.symm
      simp [h, hn, hb1]
theorem less_irrefl : ∀ a : List UInt8, Op.bytesLess a a = false
  | [] => rfl
  | a :: x => by
    have hn : ¬ a < a := fun h => u8_not h h
    unfold Op.bytesLess
    simp [hn, less_irrefl x]
theorem cmp_refl (a : List UInt8) : Lib.compareBytes a a = 0 := by rw [cmp_less, less_irrefl]; rfl
theorem cmp_ne : ∀ {a b : List UInt8}, a ≠ b → Op.bytesLess a b = true ∨ Op.bytesLess b a = true
  | [], [], h => absurd rfl h
  | [], _ :: _, _ => .inl rfl
  | _ :: _, [], _ => .inr rfl
  | a :: x, b :: y, h => by
    unfold Op.bytesLess
    rcases u8_tri a b with h1 | h1 | h1
    · exact .inl (by simp [h1])
    · subst h1
      rcases cmp_ne (a := x) (b := y) (fun e => h (by rw [e])) with h2 | h2
      · exact .inl (by simp [h2])
      · exact .inr (by simp [h2])
    · exact .inr (by simp [h1])
theorem cmp_zero {a b : List UInt8} (h : Lib.compareBytes a b = 0) : a = b := by
  by_cases e : a = b
  · exact e
  · rw [cmp_less] at h
    rcases cmp_ne e with h1 | h1
    · rw [h1] at h; simp at h
    · rw [h1] at h
      split at h <;> simp at h
theorem cmp_swap (a b : List UInt8) : Lib.compareBytes a b = -Lib.compareBytes b a := by
  rw [cmp_less, cmp_less]
  cases h1 : Op.bytesLess a b <;> cases h2 : Op.bytesLess b a <;> simp
  have : ∀ x y : List UInt8, Op.bytesLess x y = true → Op.bytesLess y x = false := by
    intro x
    induction x with
    | nil => intro y h; cases y with | nil => cases h | cons => rfl
    | cons c x ih =>
      intro y h
      cases y with
      | nil => cases h
      | cons d y =>
        unfold Op.bytesLess at h ⊢
        rcases u8_tri c d with h3 | h3 | h3
        · have hn := u8_not h3
          have hne := u8_ne h3
          have hb1 : (d == c) = false := by rw [beq_eq_false_iff_ne]; exact fun e => hne e.symm
          simp [hn, hb1]
        · subst h3
          have hn : ¬ c < c := fun h => u8_not h h
          simp [hn] at h ⊢
          exact ih y h
        · have hn := u8_not h3
          have hne := u8_ne h3
          have hb1 : (c == d) = false := by rw [beq_eq_false_iff_ne]; exact fun e => hne e.symm
          simp [hn, hb1] at h
  have h3 := this a b h1
  rw [h2] at h3; cases h3
theorem print_inj {a b : List (ByteArray × ByteArray)} (ha : rightS a = true) (hb : rightS b = true) (h : printL a = printL b) : a = b := by
  have h1 := parseF_print ha
  rw [h, parseF_print hb] at h1
  injection h1 with h1
  exact h1.symm
end Go.Proofs.Ythbinnbnmckmfaa

namespace Go.Proofs.Ythbinnbnmckmfaa
open Go.ChangeShapes Go.WideShapes Go.ChangeAt Go.RowKit
set_option linter.unusedVariables false
set_option maxRecDepth 100000
/-- Two sets of numbers, boxed. -/
structure BoxAt (w0 : World) (ka kb : KSet) (ba bb : Nat) (w : World) : Prop where
  okA : ka.ok w0.heap.size w
  okB : kb.ok w0.heap.size w
  boxA : Blk w ba 82 [.slice ka.A ka.n ka.c, .slice ka.A2 ka.n2 ka.c2]
  boxB : Blk w bb 82 [.slice kb.A kb.n kb.c, .slice kb.A2 kb.n2 kb.c2]
  bel : Below w0.heap.size w0 w
theorem BoxAt.below {w0 w w' : World} {ka kb : KSet} {ba bb : Nat} (h : BoxAt w0 ka kb ba bb w) (hb : Below w.heap.size w w') : BoxAt w0 ka kb ba bb w' :=
  ⟨h.okA.below (hb.mono h.bel.size), h.okB.below (hb.mono h.bel.size), h.boxA.below hb h.boxA.lt, h.boxB.below hb h.boxB.lt, h.bel.trans (hb.mono h.bel.size)⟩
theorem BoxAt.drewN {w0 w : World} {ka kb : KSet} {ba bb : Nat} (h : BoxAt w0 ka kb ba bb w) (n : Nat) : BoxAt w0 ka kb ba bb (w.drewN n) :=
  ⟨⟨h.okA.has_.drewN n, h.okA.hasI, h.okA.n_, h.okA.vals_.drewN n, h.okA.valsI, h.okA.n2_⟩, ⟨h.okB.has_.drewN n, h.okB.hasI, h.okB.n_, h.okB.vals_.drewN n, h.okB.valsI, h.okB.n2_⟩, h.boxA.drewN n, h.boxB.drewN n, below_drewN3 h.bel n⟩
theorem BoxAt.cells {w0 w : World} {ka kb : KSet} {ba bb : Nat} (h : BoxAt w0 ka kb ba bb w) : w.cell? ⟨ba, 0, none⟩ = some (.slice ka.A ka.n ka.c) ∧ w.cell? ⟨ba, 1, none⟩ = some (.slice ka.A2 ka.n2 ka.c2) ∧ w.cell? ⟨bb, 0, none⟩ = some (.slice kb.A kb.n kb.c) ∧ w.cell? ⟨bb, 1, none⟩ = some (.slice kb.A2 kb.n2 kb.c2) := by
  have h0 := h.boxA.cell 0
  have h1 := h.boxA.cell 1
  have h2 := h.boxB.cell 0
  have h3 := h.boxB.cell 1
  exact ⟨by simpa using h0, by simpa using h1, by simpa using h2, by simpa using h3⟩
theorem BoxAt.drew {w0 w : World} {ka kb : KSet} {ba bb : Nat} (h : BoxAt w0 ka kb ba bb w) : BoxAt w0 ka kb ba bb w.drew := h.drewN 1
/-- A list that a call made, or one like it. -/
def HasL (w : World) (v : Value) (l : List (ByteArray × ByteArray)) : Prop := ∃ A c, v = .slice A l.length c ∧ Sees w w.heap.size 2 A l.length (lbls l) ∧ l.length ≤ c ∧ c ≤ 9223372036854775807
theorem HasL.below {w w' : World} {v : Value} {l : List (ByteArray × ByteArray)} (h : HasL w v l) (hb : Below w.heap.size w w') : HasL w' v l := by
  obtain ⟨A, c, h1, h2, h3⟩ := h
  exact ⟨A, c, h1, (h2.below hb).more hb.size, h3⟩
theorem HasL.drewN {w : World} {v : Value} {l : List (ByteArray × ByteArray)} (h : HasL w v l) (n : Nat) : HasL (w.drewN n) v l := by
  obtain ⟨A, c, h1, h2, h3⟩ := h
  exact ⟨A, c, h1, h2.drewN n, h3⟩
theorem OwnAns.hasL {w w' : World} {e : Ending} {l : List (ByteArray × ByteArray)} (h : OwnAns 25 2 l.length (lbls l) w e w') : ∃ v, e = .returned v ∧ HasL w' v l ∧ Below w.heap.size w w' := by
  obtain ⟨A, c, h1, h2, h3, h4, h5⟩ := h
  exact ⟨_, h1, ⟨A, c, rfl, Sees.of_own h2, h4, h5⟩, h3⟩
theorem printNil : printL [] = [123, 125] := by decide
/-- Two lists that stay. -/
structure TwoL (w0 : World) (la lb : List (ByteArray × ByteArray)) (va vb : Value) (w : World) : Prop where
  a : HasL w va la
  b : HasL w vb lb
  bel : Below w0.heap.size w0 w
theorem TwoL.below {w0 w w' : World} {la lb : List (ByteArray × ByteArray)} {va vb : Value} (h : TwoL w0 la lb va vb w) (hb : Below w.heap.size w w') : TwoL w0 la lb va vb w' := ⟨h.a.below hb, h.b.below hb, h.bel.trans (hb.mono h.bel.size)⟩
theorem TwoL.drewN {w0 w : World} {la lb : List (ByteArray × ByteArray)} {va vb : Value} (h : TwoL w0 la lb va vb w) (n : Nat) : TwoL w0 la lb va vb (w.drewN n) := ⟨h.a.drewN n, h.b.drewN n, below_drewN3 h.bel n⟩
theorem HasL.slice {w : World} {A : Option Addr} {n c : Nat} {l : List (ByteArray × ByteArray)} (h : HasL w (.slice A n c) l) : Sees w w.heap.size 2 A n (lbls l) ∧ l.length = n ∧ n ≤ c ∧ c ≤ 9223372036854775807 := by
  obtain ⟨A', c', h1, h2, h3, h4⟩ := h
  injection h1 with h1 h5 h6
  subst h1; subst h5; subst h6
  exact ⟨h2, rfl, h3, h4⟩
theorem HasL.form {w : World} {v : Value} {l : List (ByteArray × ByteArray)} (h : HasL w v l) : ∃ A c, v = .slice A l.length c := by
  obtain ⟨A, c, h1, _⟩ := h; exact ⟨A, c, h1⟩
theorem printL_length_le {l : List (ByteArray × ByteArray)} (h : rightS l = true) : (printL l).length ≤ 500 := by
  rw [printL, if_pos h]
  have h1 := joinL_length_le l (rightS_sizes h)
  have h2 := rightS_len h
  have h3 : 76 * l.length ≤ 456 := Nat.mul_le_mul_left 76 h2
  simp only [List.length_cons, List.length_append, List.length_nil]
  omega
end Go.Proofs.Ythbinnbnmckmfaa

namespace Go.Proofs.Ythbinnbnmckmfaa
open Go.ChangeShapes Go.WideShapes Go.ChangeAt Go.RowKit
set_option linter.unusedVariables false
abbrev Lbl := ByteArray × ByteArray
theorem less_trans : ∀ {a b c : List UInt8}, Op.bytesLess a b = true → Op.bytesLess b c = true → Op.bytesLess a c = true
  | _, [], _, h, _ => by unfold Op.bytesLess at h; cases h
  | _, _ :: _, [], _, h => by unfold Op.bytesLess at h; cases h
  | [], _ :: _, _ :: _, _, _ => rfl
  | a :: x, b :: y, c :: z, h1, h2 => by
    unfold Op.bytesLess at h1 h2 ⊢
    simp only [Bool.or_eq_true, decide_eq_true_eq, Bool.and_eq_true, beq_iff_eq] at h1 h2 ⊢
    rcases h1 with h1 | ⟨rfl, h1⟩ <;> rcases h2 with h2 | ⟨rfl, h2⟩
    · exact .inl (by rw [UInt8.lt_iff_toNat_lt] at *; omega)
    · exact .inl h1
    · exact .inl h2
    · exact .inr ⟨rfl, less_trans h1 h2⟩
theorem less_asymm {a b : List UInt8} (h : Op.bytesLess a b = true) : Op.bytesLess b a = false := by
  cases hq : Op.bytesLess b a with
  | false => rfl
  | true => have := less_trans h hq; rw [less_irrefl] at this; cases this
theorem less_ne {a b : List UInt8} (h : Op.bytesLess a b = true) : a ≠ b := fun e => by rw [e, less_irrefl] at h; cases h
def Rise (l : List Lbl) : Prop := l.Pairwise fun x y => Op.bytesLess x.1.toList y.1.toList = true
theorem rightS_rising {l : List Lbl} (h : rightS l = true) : Rise l := by
  have key : ∀ i j (hi : i < l.length) (hj : j < l.length), i < j → Op.bytesLess l[i].1.toList l[j].1.toList = true := by
    intro i j hi
    induction j with
    | zero => intro hj hij; omega
    | succ j ih =>
      intro hj hij
      have h1 := (rightS_at h hj).2
      rw [riseAt_get (q := j) rfl hj] at h1
      rcases Nat.lt_or_ge i j with h' | h'
      · exact less_trans (ih (by omega) h') h1
      · obtain rfl : i = j := by omega
        exact h1
  exact List.pairwise_iff_getElem.2 fun i j hi hj hij => key i j hi hj hij
theorem rightS_ok {l : List Lbl} (h : rightS l = true) : ∀ x ∈ l, lblOk x = true := by
  intro x hx
  obtain ⟨k, hk, rfl⟩ := List.getElem_of_mem hx
  exact (rightS_at h hk).1
theorem right_filter {l : List Lbl} (h : rightS l = true) (p : Lbl → Bool) : rightS (l.filter p) = true :=
  rightS_of (Nat.le_trans (List.length_filter_le _ _) (rightS_len h)) (fun x hx => rightS_ok h x (List.mem_filter.1 hx).1) ((rightS_rising h).filter p)
theorem hasS_one {a b : ByteArray} : hasS [a] b = decide (a = b) := by simp [hasS]
theorem keptL_mem {l : List Lbl} {name : ByteArray} {x : Lbl} (h : x ∈ keptL l name) : x ∈ l ∧ x.1 ≠ name := by
  rw [keptL, List.mem_filter, hasS_one] at h
  exact ⟨h.1, fun e => by rw [e] at h; simp at h⟩
theorem takeWhile_less {k : List Lbl} {name : ByteArray} : ∀ x ∈ k.takeWhile (lessB name), Op.bytesLess x.1.toList name.toList = true := fun x hx => by
  induction k with
  | nil => cases hx
  | cons y k ih =>
    rw [List.takeWhile_cons] at hx
    split at hx
    · rename_i hy
      rcases List.mem_cons.1 hx with rfl | hx
      · exact hy
      · exact ih hx
    · cases hx
theorem dropWhile_more {k : List Lbl} {name : ByteArray} (hk : Rise k) (hn : ∀ x ∈ k, x.1 ≠ name) : ∀ x ∈ k.dropWhile (lessB name), Op.bytesLess name.toList x.1.toList = true := fun x hx => by
  induction k with
  | nil => cases hx
  | cons y k ih =>
    rw [List.dropWhile_cons] at hx
    obtain ⟨h1, h2⟩ := List.pairwise_cons.1 hk
    split at hx
    · exact ih h2 (fun z hz => hn z (List.mem_cons_of_mem _ hz)) hx
    · rename_i hy
      have hy0 : Op.bytesLess y.1.toList name.toList = false := by simpa [lessB] using hy
      have hy1 : Op.bytesLess name.toList y.1.toList = true := by
        rcases cmp_ne (a := y.1.toList) (b := name.toList) (fun e => hn y List.mem_cons_self (ba_ext e)) with h | h
        · rw [hy0] at h; cases h
        · exact h
      rcases List.mem_cons.1 hx with rfl | hx
      · exact hy1
      · exact less_trans hy1 (h1 x hx)
theorem putL_rise {k : List Lbl} {x : Lbl} (hk : Rise k) (hn : ∀ y ∈ k, y.1 ≠ x.1) : Rise (putL k x) := by
  have h1 : Rise (k.takeWhile (lessB x.1)) := hk.sublist (List.takeWhile_sublist _)
  have h2 : Rise (k.dropWhile (lessB x.1)) := hk.sublist (List.dropWhile_sublist _)
  refine List.pairwise_append.2 ⟨h1, List.pairwise_cons.2 ⟨fun y hy => dropWhile_more hk hn y hy, h2⟩, fun y hy z hz => ?_⟩
  rcases List.mem_cons.1 hz with rfl | hz
  · exact takeWhile_less y hy
  · exact less_trans (takeWhile_less y hy) (dropWhile_more hk hn z hz)
theorem putL_mem {k : List Lbl} {x y : Lbl} : y ∈ putL k x ↔ y = x ∨ y ∈ k := by
  have e : y ∈ k ↔ y ∈ k.takeWhile (lessB x.1) ∨ y ∈ k.dropWhile (lessB x.1) := by rw [← List.mem_append, List.takeWhile_append_dropWhile]
  rw [e, putL, List.mem_append, List.mem_cons]
  constructor
  · rintro (h | h | h)
    · exact .inr (.inl h)
    · exact .inl h
    · exact .inr (.inr h)
  · rintro (h | h | h)
    · exact .inr (.inl h)
    · exact .inl h
    · exact .inr (.inr h)
theorem putL_length (k : List Lbl) (x : Lbl) : (putL k x).length = k.length + 1 := by
  have e := congrArg List.length (List.takeWhile_append_dropWhile (p := lessB x.1) (l := k))
  rw [List.length_append] at e
  rw [putL, List.length_append, List.length_cons]; omega
theorem putL_kept {k : List Lbl} {x : Lbl} (hn : ∀ y ∈ k, y.1 ≠ x.1) : keptL (putL k x) x.1 = k := by
  have hf : ∀ m : List Lbl, (∀ y ∈ m, y.1 ≠ x.1) → m.filter (fun y => !hasS [x.1] y.1) = m := fun m hm => List.filter_eq_self.2 fun y hy => by
    rw [hasS_one, decide_eq_false (fun e => hm y hy e.symm)]; rfl
  have h1 := hf (k.takeWhile (lessB x.1)) (fun y hy => hn y ((List.takeWhile_sublist _).mem hy))
  have h2 := hf (k.dropWhile (lessB x.1)) (fun y hy => hn y ((List.dropWhile_sublist _).mem hy))
  rw [keptL, putL, List.filter_append, List.filter_cons, h1, h2, hasS_one]
  simp [List.takeWhile_append_dropWhile]
theorem putL_right {k : List Lbl} {x : Lbl} (hk : rightS k = true) (hx : lblOk x = true) (hn : ∀ y ∈ k, y.1 ≠ x.1) (hl : k.length ≤ 5) : rightS (putL k x) = true :=
  rightS_of (by rw [putL_length]; omega) (fun y hy => by
    rcases putL_mem.1 hy with rfl | hy
    · exact hx
    · exact rightS_ok hk y hy) (putL_rise (rightS_rising hk) hn)
/-- The first value of a name. -/
def getF (l : List Lbl) (name : ByteArray) : ByteArray := match l.find? (fun x => decide (x.1 = name)) with | some x => x.2 | none => ⟨#[]⟩
theorem getF_kept {l : List Lbl} {name n : ByteArray} (h : n ≠ name) : getF (keptL l name) n = getF l n := by
  unfold getF keptL
  rw [List.find?_filter]
  congr 1
  congr 1
  funext x
  rw [hasS_one]
  by_cases h1 : x.1 = n
  · have h2 : ¬ name = n := fun e => h e.symm
    simp [h1, h2]
  · simp [h1]
theorem getF_none {l : List Lbl} {name : ByteArray} (h : ∀ x ∈ l, x.1 ≠ name) : getF l name = ⟨#[]⟩ := by
  unfold getF
  rw [List.find?_eq_none.2 fun x hx => by simpa using h x hx]
theorem getF_put {k : List Lbl} {x : Lbl} (hn : ∀ y ∈ k, y.1 ≠ x.1) : getF (putL k x) x.1 = x.2 := by
  unfold getF putL
  rw [List.find?_append, List.find?_eq_none.2 (fun y hy => by simpa using hn y ((List.takeWhile_sublist _).mem hy))]
  simp
theorem getF_put_other {k : List Lbl} {x : Lbl} {n : ByteArray} (h : n ≠ x.1) : getF (putL k x) n = getF k n := by
  unfold getF
  conv => rhs; rw [← List.takeWhile_append_dropWhile (p := lessB x.1) (l := k)]
  rw [putL, List.find?_append, List.find?_append, List.find?_cons, decide_eq_false (fun e => h e.symm)]
theorem filter_parts (l : List Lbl) (p : Lbl → Bool) : (l.filter p).length + (l.filter fun x => !p x).length = l.length := by
  induction l with
  | nil => rfl
  | cons x l ih =>
    rw [List.filter_cons, List.filter_cons]
    cases p x <;> simp <;> omega
theorem filter_none (l : List Lbl) (p : Lbl → Bool) : (l.filter fun x => !p x).filter p = [] := by
  rw [List.filter_filter]
  exact List.filter_eq_nil_iff.2 fun x _ => by cases p x <;> simp
theorem filter_twice (l : List Lbl) (p : Lbl → Bool) : (l.filter p).filter p = l.filter p := by
  rw [List.filter_filter]; congr 1; funext x; simp
end Go.Proofs.Ythbinnbnmckmfaa

namespace Go.Proofs.Ythbinnbnmckmfaa
open Go.ChangeShapes Go.WideShapes Go.ChangeAt Go.RowKit
set_option linter.unusedVariables false
set_option maxRecDepth 100000
/-- Lists that stay. -/
def Holds (w0 : World) (S : List (Value × List Lbl)) (w : World) : Prop := (∀ p ∈ S, HasL w p.1 p.2) ∧ Below w0.heap.size w0 w
section
variable {w0 w w' : World} {S : List (Value × List Lbl)}
theorem Holds.below (h : Holds w0 S w) (hb : Below w.heap.size w w') : Holds w0 S w' := ⟨fun p hp => (h.1 p hp).below hb, h.2.trans (hb.mono h.2.size)⟩
theorem Holds.drewN (h : Holds w0 S w) (n : Nat) : Holds w0 S (w.drewN n) := ⟨fun p hp => (h.1 p hp).drewN n, below_drewN3 h.2 n⟩
theorem Holds.alloc (h : Holds w0 S w) (o : Obj) : Holds w0 S (w.alloc o) := h.below ((Below.refl _ _).alloc (Nat.le_refl _) o)
theorem Holds.add (h : Holds w0 S w) {v : Value} {l : List Lbl} (hv : HasL w v l) : Holds w0 ((v, l) :: S) w := ⟨fun p hp => by
  rcases List.mem_cons.1 hp with rfl | hp
  · exact hv
  · exact h.1 p hp, h.2⟩
theorem Holds.get (h : Holds w0 S w) {v : Value} {l : List Lbl} (hm : (v, l) ∈ S) : HasL w v l := h.1 (v, l) hm
theorem Holds.bel (h : Holds w0 S w) : Below w0.heap.size w0 w := h.2
end
theorem HasL.sees {w : World} {A : Option Addr} {n c : Nat} {l : List Lbl} (h : HasL w (.slice A n c) l) : Sees w w.heap.size 2 A n (lbls l) := h.slice.1
set_option maxHeartbeats 1000000 in
theorem get_any (A0 : Option Addr) (n c B : Nat) (l : List Lbl) (name : ByteArray) (w : World) (h : Sees w B 2 A0 n (lbls l)) (hB : B ≤ w.heap.size) (hn : n ≤ 9223372036854775807) :
    Calls Try.prog 62 #[.slice A0 n c, .string name] w fun e w' => e = .returned (.string (getF l name)) ∧ Below w.heap.size w w' := by
  have H := Lib.hid h
  have HL := Lib.hid h.lbl_len
  clear h
  go_enter Try.func62, Try.ntmps62
  go_wp2_with fail
  go_loopg [9] n (fun g x9 wr => ∃ k : Nat, k + g = n ∧ x9 = .int .i64 k ∧ Below w.heap.size w wr ∧ ∀ x ∈ l.take k, x.1 ≠ name)
  case atStart => exact ⟨0, by omega, rfl, Below.refl _ _, (fun x hx => by simp at hx)⟩
  case round =>
    obtain ⟨k, hkg, rfl, hbel, hno⟩ := hrel
    have HB := Lib.hid hbel; have HNO := Lib.hid hno
    have hws := hbel.size
    clear hbel hno
    cases gk with
    | zero =>
      obtain rfl : k = n := by omega
      have HE := Lib.hid (show getF l name = ⟨#[]⟩ from getF_none (fun x hx => HNO.out x (by rw [List.take_of_length_le (by rw [HL.out]; exact Nat.le_refl _)]; exact hx)))
      go_wp2_with fail
      go_ret
      exact ⟨by rw [HE.out]; rfl, HB.out⟩
    | succ g =>
      have hlt : k < n := by omega
      obtain ⟨ad, hkl, rfl, c0, c1⟩ := (H.out.below (HB.out.mono hB)).lbl hlt
      have hal := World.block_lt_of_cell? wr _ c0
      have HT := Lib.hid (List.take_succ_eq_append_getElem hkl)
      have HD := Lib.hid (show l = l.take k ++ l[k] :: l.drop (k + 1) by rw [← List.drop_eq_getElem_cons hkl, List.take_append_drop])
      generalize l[k] = p at *
      obtain ⟨a, b⟩ := p
      simp only at c0 c1
      have HBA := Lib.hid (HB.out.alloc hws (.cells #[.string a, .string b] 25))
      by_cases he : a = name
      · have t1 : (a.toList == name.toList) = true := by rw [he]; simp
        have HE := Lib.hid (show getF l name = b by
          unfold getF
          rw [HD.out, List.find?_append, List.find?_eq_none.2 (fun x hx => by simpa using HNO.out x hx)]
          simp [he])
        clear HD he
        go_wp2_with fail
        go_ret
        exact ⟨by rw [HE.out]; rfl, HBA.out⟩
      · have t1 : (a.toList == name.toList) = false := by rw [beq_eq_false_iff_ne]; exact fun h => he (ba_ext h)
        have HN : Hid (∀ x ∈ l.take (k + 1), x.1 ≠ name) := Lib.hid (fun x hx => by
          rw [HT.out, List.mem_append] at hx
          rcases hx with hx | hx
          · exact HNO.out x hx
          · simp only [List.mem_singleton] at hx; subst hx; exact he)
        clear HD he HT
        go_wp2_with fail
        go_roundg g
        case measure => omega
        case rel => exact ⟨k + 1, by omega, by go_num, HBA.out, HN.out⟩
theorem get_h {W : World} {v : Value} {l : List Lbl} (h : HasL W v l) (hl : l.length ≤ 1000) (name : ByteArray) :
    Calls Try.prog 62 #[v, .string name] W fun e w' => e = .returned (.string (getF l name)) ∧ Below W.heap.size W w' := by
  obtain ⟨A, c, rfl, h2, h3, h4⟩ := h
  exact get_any A _ c _ l name W h2 (Nat.le_refl _) (by omega)
theorem right_h {W : World} {v : Value} {l : List Lbl} (h : HasL W v l) (hl : l.length ≤ 1000) :
    Calls Try.prog 21 #[v] W fun e w' => e = .returned (.bool (rightS l)) ∧ Below W.heap.size W w' := by
  obtain ⟨A, c, rfl, h2, h3, h4⟩ := h
  exact rightSet_any A _ c l _ W h2 (Nat.le_refl _) (by omega)
theorem same_h {W : World} {v v2 : Value} {l l2 : List Lbl} (h : HasL W v l) (h2 : HasL W v2 l2) (hl : l.length ≤ 1000) (hl2 : l2.length ≤ 1000) :
    Calls Try.prog 10 #[v, v2] W fun e w' => e = .returned (.bool (decide (l = l2))) ∧ ∃ m, w' = W.drewN m := by
  obtain ⟨A, c, rfl, j2, j3, j4⟩ := h
  obtain ⟨A2, c2, rfl, k2, k3, k4⟩ := h2
  exact same_lbl A A2 _ c _ c2 _ _ l l2 W j2 k2 (by omega) (by omega)
/-- A call answers a list. -/
def AnsL (l : List Lbl) (W : World) (e : Ending) (w' : World) : Prop := ∃ A c, e = .returned (.slice A l.length c) ∧ HasL w' (.slice A l.length c) l ∧ Below W.heap.size W w'
theorem ansL_of {l : List Lbl} {W w' : World} {e : Ending} (h : OwnAns 25 2 l.length (lbls l) W e w') : AnsL l W e w' := by
  obtain ⟨A, c, h1, h2, h3, h4, h5⟩ := h
  exact ⟨A, c, h1, ⟨A, c, rfl, Sees.of_own h2, h4, h5⟩, h3⟩
theorem one_name (w : World) (name : ByteArray) : Sees (w.alloc (.cells #[.string name] 9)) (w.alloc (.cells #[.string name] 9)).heap.size 1 (some ⟨w.heap.size, 0, none⟩) 1 (strs [name]) :=
  (Blk.mk (heap_alloc_new w _) : Blk _ w.heap.size 9 [.string name]).sees rfl (List.prefix_refl _)
end Go.Proofs.Ythbinnbnmckmfaa

namespace Go.Proofs.Ythbinnbnmckmfaa
open Go.ChangeShapes Go.WideShapes Go.ChangeAt Go.RowKit
set_option linter.unusedVariables false
set_option maxRecDepth 100000
abbrev Mtc := ByteArray × ByteArray × Int
/-- Matchers as cells: names, values and kinds. -/
def mtcs (l : List Mtc) : List Value := l.flatMap fun x => [.string x.1, .string x.2.1, .int .i64 x.2.2]
theorem mtcs_length (l : List Mtc) : (mtcs l).length = l.length * 3 := by
  induction l with
  | nil => rfl
  | cons x l ih => simp only [mtcs, List.flatMap_cons, List.length_append, List.length_cons, List.length_nil] at ih ⊢; omega
theorem mtcs_append (l m : List Mtc) : mtcs (l ++ m) = mtcs l ++ mtcs m := by simp [mtcs]
theorem mtcs_one (l : List Mtc) : ∀ u ∈ mtcs l, u.oneCell' = true := by
  intro u hu
  simp only [mtcs, List.mem_flatMap] at hu
  obtain ⟨x, _, hu⟩ := hu
  simp at hu
  rcases hu with rfl | rfl | rfl <;> rfl
theorem mtcs_get (l : List Mtc) (p : Nat) (h : p < l.length) : (mtcs l)[p * 3]? = some (.string l[p].1) ∧ (mtcs l)[p * 3 + 1]? = some (.string l[p].2.1) ∧ (mtcs l)[p * 3 + 2]? = some (.int .i64 l[p].2.2) := by
  have e : mtcs l = mtcs (l.take p) ++ (mtcs [l[p]] ++ mtcs (l.drop (p + 1))) := by
    rw [← mtcs_append, ← mtcs_append, List.singleton_append, ← List.drop_eq_getElem_cons h, List.take_append_drop]
  have hl : (mtcs (l.take p)).length = p * 3 := by rw [mtcs_length, List.length_take]; omega
  rw [e]
  refine ⟨?_, ?_, ?_⟩
  · rw [List.getElem?_append_right (by omega), hl, Nat.sub_self]; rfl
  · rw [List.getElem?_append_right (by omega), hl, show p * 3 + 1 - p * 3 = 1 by omega]; rfl
  · rw [List.getElem?_append_right (by omega), hl, show p * 3 + 2 - p * 3 = 2 by omega]; rfl
theorem mtcs_take (l : List Mtc) (k : Nat) : (mtcs l).take (k * 3) = mtcs (l.take k) := by
  by_cases h : k ≤ l.length
  · conv => lhs; rw [← List.take_append_drop k l, mtcs_append]
    rw [List.take_append_of_le_length (by rw [mtcs_length, List.length_take]; omega), List.take_of_length_le (by rw [mtcs_length, List.length_take]; omega)]
  · rw [List.take_of_length_le (by rw [mtcs_length]; omega), List.take_of_length_le (by omega)]
theorem mtcs_drop (l : List Mtc) (k : Nat) : (mtcs l).drop (k * 3) = mtcs (l.drop k) := by
  by_cases h : k ≤ l.length
  · have hl : (mtcs (l.take k)).length = k * 3 := by rw [mtcs_length, List.length_take]; omega
    conv => lhs; rw [← List.take_append_drop k l, mtcs_append]
    rw [← hl, List.drop_left]
  · rw [List.drop_of_length_le (by rw [mtcs_length]; omega), List.drop_of_length_le (by omega)]; rfl
theorem Sees.mtc {w : World} {B : Nat} {A : Option Addr} {n : Nat} {l : List Mtc} (h : Sees w B 3 A n (mtcs l)) {k : Nat} (hk : k < n) :
    ∃ ad, ∃ hl : k < l.length, A = some ad ∧ w.cell? (ad.add (k * 3)) = some (.string l[k].1) ∧ w.cell? ⟨(ad.add (k * 3)).block, (ad.add (k * 3)).off + 1, none⟩ = some (.string l[k].2.1) ∧ w.cell? ⟨(ad.add (k * 3)).block, (ad.add (k * 3)).off + 2, none⟩ = some (.int .i64 l[k].2.2) := by
  have hl : k < l.length := by have := h.len; rw [mtcs_length] at this; omega
  obtain ⟨ad, e, _, hc⟩ := h.at_ (by omega)
  obtain ⟨h0, h1, h2⟩ := mtcs_get l k hl
  exact ⟨ad, hl, e, hc _ _ h0, by rw [add_spelt _ _ _ (by omega)]; exact hc _ _ h1, by rw [add_spelt _ _ _ (by omega)]; exact hc _ _ h2⟩
theorem Sees.mtc_len {w : World} {B : Nat} {A : Option Addr} {n : Nat} {l : List Mtc} (h : Sees w B 3 A n (mtcs l)) : l.length = n := by
  have := h.len; rw [mtcs_length] at this; omega
/-- A kind's sign. -/
def signF (k : Int) : ByteArray := if k = 1 then ⟨#[61]⟩ else if k = 2 then ⟨#[33, 61]⟩ else if k = 3 then ⟨#[94, 61]⟩ else if k = 4 then ⟨#[33, 94]⟩ else ⟨#[]⟩
/-- Does a matcher hold of a set. -/
def holdsF (l : List Lbl) (x : Mtc) : Bool :=
  if x.2.2 = 1 then decide (getF l x.1 = x.2.1) else if x.2.2 = 2 then !decide (getF l x.1 = x.2.1)
  else if x.2.2 = 3 then Lib.hasPrefix (getF l x.1).data.toList x.2.1.data.toList else if x.2.2 = 4 then !Lib.hasPrefix (getF l x.1).data.toList x.2.1.data.toList else false
/-- Does each. -/
def allF (l : List Lbl) (ms : List Mtc) : Bool := ms.all (holdsF l)
theorem int_ne {a b : Int} (h : ¬ a = b) : (a == b) = false := by rw [beq_eq_false_iff_ne]; exact h
set_option maxHeartbeats 2000000 in
theorem holds_any (A0 : Option Addr) (n c B : Nat) (l : List Lbl) (nm vl : ByteArray) (k : Int) (w : World) (h : Sees w B 2 A0 n (lbls l)) (hB : B ≤ w.heap.size) (hn : n ≤ 9223372036854775807) :
    Calls Try.prog 46 #[.slice A0 n c, .agg #[.string nm, .string vl, .int .i64 k]] w fun e w' => e = .returned (.bool (holdsF l (nm, vl, k))) ∧ Below w.heap.size w w' := by
  have HK0 : Hid (Blk (w.alloc (.cells #[.string nm, .string vl, .int .i64 k] 54)) w.heap.size 54 [.string nm, .string vl, .int .i64 k]) := Lib.hid (Blk.mk (heap_alloc_new w _))
  have HB0 := Lib.hid ((Below.refl w.heap.size w).alloc (Nat.le_refl _) (.cells #[.string nm, .string vl, .int .i64 k] 54))
  have HG := Lib.hid (get_any A0 n c B l nm (w.alloc (.cells #[.string nm, .string vl, .int .i64 k] 54)) (h.alloc hB _) (by simp; omega) hn)
  clear h
  have HF : Hid (holdsF l (nm, vl, k) = if k = 1 then decide (getF l nm = vl) else if k = 2 then !decide (getF l nm = vl)
      else if k = 3 then Lib.hasPrefix (getF l nm).data.toList vl.data.toList else if k = 4 then !Lib.hasPrefix (getF l nm).data.toList vl.data.toList else false) := Lib.hid rfl
  generalize holdsF l (nm, vl, k) = r at *
  generalize getF l nm = v at *
  go_enter Try.func46, Try.ntmps46
  go_wp2_with fail
  (with_reducible refine HG.out.mono ?_); rintro e w1 ⟨rfl, hb⟩
  have HK1 := Lib.hid (HK0.out.below hb HK0.out.lt)
  have HB1 := Lib.hid (HB0.out.trans (hb.mono (by simp)))
  have e1 := HK1.out.cell 1
  have e2 := HK1.out.cell 2
  simp only [List.getElem?_cons_zero, List.getElem?_cons_succ] at e1 e2
  clear hb HK0 HB0 HG HK1
  by_cases h1 : k = 1
  · subst h1
    by_cases hv : v = vl
    · have t1 : (v.toList == vl.toList) = true := by rw [hv]; simp
      have HR := Lib.hid (show r = true by rw [HF.out, if_pos rfl, decide_eq_true hv])
      clear HF hv
      go_wp2_with fail
      go_ret
      exact ⟨by rw [HR.out]; rfl, HB1.out⟩
    · have t1 : (v.toList == vl.toList) = false := by rw [beq_eq_false_iff_ne]; exact fun h => hv (ba_ext h)
      have HR := Lib.hid (show r = false by rw [HF.out, if_pos rfl, decide_eq_false hv])
      clear HF hv
      go_wp2_with fail
      go_ret
      exact ⟨by rw [HR.out]; rfl, HB1.out⟩
  · by_cases h2 : k = 2
    · subst h2
      by_cases hv : v = vl
      · have t1 : (v.toList == vl.toList) = true := by rw [hv]; simp
        have HR := Lib.hid (show r = false by rw [HF.out, if_neg h1, if_pos rfl, decide_eq_true hv]; rfl)
        clear HF hv
        go_wp2_with fail
        go_ret
        exact ⟨by rw [HR.out]; rfl, HB1.out⟩
      · have t1 : (v.toList == vl.toList) = false := by rw [beq_eq_false_iff_ne]; exact fun h => hv (ba_ext h)
        have HR := Lib.hid (show r = true by rw [HF.out, if_neg h1, if_pos rfl, decide_eq_false hv]; rfl)
        clear HF hv
        go_wp2_with fail
        go_ret
        exact ⟨by rw [HR.out]; rfl, HB1.out⟩
    · have HP := Lib.hid (fun W => Try.strings_HasPrefix v vl W)
      by_cases h3 : k = 3
      · subst h3
        have HR := Lib.hid (show r = Lib.hasPrefix v.data.toList vl.data.toList by rw [HF.out, if_neg h1, if_neg h2, if_pos rfl])
        generalize Lib.hasPrefix v.data.toList vl.data.toList = q at *
        clear HF
        go_wp2_with fail
        (with_reducible refine (HP.out _).mono ?_); rintro e w' ⟨rfl, rfl⟩
        go_wp2_with fail
        go_ret
        exact ⟨by rw [HR.out]; rfl, HB1.out⟩
      · by_cases h4 : k = 4
        · subst h4
          have HR := Lib.hid (show r = !Lib.hasPrefix v.data.toList vl.data.toList by rw [HF.out, if_neg h1, if_neg h2, if_neg h3, if_pos rfl])
          generalize Lib.hasPrefix v.data.toList vl.data.toList = q at *
          clear HF
          go_wp2_with fail
          (with_reducible refine (HP.out _).mono ?_); rintro e w' ⟨rfl, rfl⟩
          go_wp2_with fail
          go_ret
          exact ⟨by rw [HR.out]; rfl, HB1.out⟩
        · have t1 := int_ne h1; have t2 := int_ne h2; have t3 := int_ne h3; have t4 := int_ne h4
          have HR := Lib.hid (show r = false by rw [HF.out, if_neg h1, if_neg h2, if_neg h3, if_neg h4])
          clear HF HP
          go_wp2_with fail
          go_ret
          exact ⟨by rw [HR.out]; rfl, HB1.out⟩
set_option maxHeartbeats 2000000 in
theorem all_any (A0 : Option Addr) (n c B : Nat) (l : List Lbl) (A2 : Option Addr) (n2 c2 B2 : Nat) (ms : List Mtc) (w : World) (h : Sees w B 2 A0 n (lbls l)) (hB : B ≤ w.heap.size) (hn : n ≤ 9223372036854775807) (h2 : Sees w B2 3 A2 n2 (mtcs ms)) (hB2 : B2 ≤ w.heap.size) (hn2 : n2 ≤ 9223372036854775807) :
    Calls Try.prog 27 #[.slice A0 n c, .slice A2 n2 c2] w fun e w' => e = .returned (.bool (allF l ms)) ∧ Below w.heap.size w w' := by
  have H := Lib.hid h; have H2 := Lib.hid h2
  have HL := Lib.hid h2.mtc_len
  clear h h2
  go_enter Try.func27, Try.ntmps27
  go_wp2_with fail
  go_loopg [9] n2 (fun g x9 wr => ∃ k : Nat, k + g = n2 ∧ x9 = .int .i64 k ∧ Below w.heap.size w wr ∧ ∀ x ∈ ms.take k, holdsF l x = true)
  case atStart => exact ⟨0, by omega, rfl, Below.refl _ _, (fun x hx => by simp at hx)⟩
  case round =>
    obtain ⟨k, hkg, rfl, hbel, hno⟩ := hrel
    have HB := Lib.hid hbel; have HNO := Lib.hid hno
    have hws := hbel.size
    clear hbel hno
    cases gk with
    | zero =>
      obtain rfl : k = n2 := by omega
      have HE := Lib.hid (show allF l ms = true from List.all_eq_true.2 (fun x hx => HNO.out x (by rw [List.take_of_length_le (by rw [HL.out]; exact Nat.le_refl _)]; exact hx)))
      go_wp2_with fail
      go_ret
      exact ⟨by rw [HE.out]; rfl, HB.out⟩
    | succ g =>
      have hlt : k < n2 := by omega
      obtain ⟨ad, hkl, rfl, c0, c1, c2⟩ := (H2.out.below (HB.out.mono hB2)).mtc hlt
      have hal := World.block_lt_of_cell? wr _ c0
      have HT := Lib.hid (List.take_succ_eq_append_getElem hkl)
      have HM := Lib.hid (List.getElem_mem hkl)
      generalize ms[k] = p at *
      obtain ⟨a, b, kd⟩ := p
      simp only at c0 c1 c2
      have HBA := Lib.hid (HB.out.alloc hws (.cells #[.string a, .string b, .int .i64 kd] 54))
      have HO := Lib.hid (holds_any A0 n c B l a b kd (wr.alloc (.cells #[.string a, .string b, .int .i64 kd] 54)) (H.out.below (HBA.out.mono hB)) (Nat.le_trans hB HBA.out.size) hn)
      have HR : Hid (holdsF l (a, b, kd) = false → allF l ms = false) := Lib.hid (fun h => by
        rw [allF, List.all_eq_false]; exact ⟨_, HM.out, by rw [h]; simp⟩)
      have HN : Hid (holdsF l (a, b, kd) = true → ∀ x ∈ ms.take (k + 1), holdsF l x = true) := Lib.hid (fun h x hx => by
        rw [HT.out] at hx
        rcases List.mem_append.1 hx with hx | hx
        · exact HNO.out x hx
        · rw [List.mem_singleton] at hx; rw [hx]; exact h)
      clear HT HM
      generalize holdsF l (a, b, kd) = r at *
      cases r with
      | false =>
        have HE := Lib.hid (HR.out rfl)
        clear HR HN
        go_wp2_with fail
        (with_reducible refine HO.out.mono ?_); rintro e w1 ⟨rfl, hb⟩
        have HB1 := Lib.hid (HBA.out.trans (hb.mono HBA.out.size))
        clear hb
        go_wp2_with fail
        go_ret
        exact ⟨by rw [HE.out]; rfl, HB1.out⟩
      | true =>
        have HN1 := Lib.hid (HN.out rfl)
        clear HR HN
        go_wp2_with fail
        (with_reducible refine HO.out.mono ?_); rintro e w1 ⟨rfl, hb⟩
        have HB1 := Lib.hid (HBA.out.trans (hb.mono HBA.out.size))
        clear hb
        go_wp2_with fail
        go_roundg g
        case measure => omega
        case rel => exact ⟨k + 1, by omega, by go_num, HB1.out, HN1.out⟩
end Go.Proofs.Ythbinnbnmckmfaa

namespace Go.Proofs.Ythbinnbnmckmfaa
open Go.RowKit
set_option linter.unusedVariables false
/-- Samples as cells: times and values. -/
def smps (l : List (Int × Int)) : List Value := l.flatMap fun x => [.int .i64 x.1, .int .i64 x.2]
theorem smps_length (l : List (Int × Int)) : (smps l).length = l.length * 2 := by
  induction l with
  | nil => rfl
  | cons x l ih => simp only [smps, List.flatMap_cons, List.length_append, List.length_cons, List.length_nil] at ih ⊢; omega
theorem smps_append (l m : List (Int × Int)) : smps (l ++ m) = smps l ++ smps m := by simp [smps]
theorem smps_one (l : List (Int × Int)) : ∀ u ∈ smps l, u.oneCell' = true := by
  intro u hu
  simp only [smps, List.mem_flatMap] at hu
  obtain ⟨x, _, hu⟩ := hu
  simp at hu
  rcases hu with rfl | rfl <;> rfl
theorem smps_get (l : List (Int × Int)) (p : Nat) (h : p < l.length) : (smps l)[p * 2]? = some (.int .i64 l[p].1) ∧ (smps l)[p * 2 + 1]? = some (.int .i64 l[p].2) := by
  have e : smps l = smps (l.take p) ++ (smps [l[p]] ++ smps (l.drop (p + 1))) := by
    rw [← smps_append, ← smps_append, List.singleton_append, ← List.drop_eq_getElem_cons h, List.take_append_drop]
  have hl : (smps (l.take p)).length = p * 2 := by rw [smps_length, List.length_take]; omega
  rw [e]
  refine ⟨?_, ?_⟩
  · rw [List.getElem?_append_right (by omega), hl, Nat.sub_self]; rfl
  · rw [List.getElem?_append_right (by omega), hl, show p * 2 + 1 - p * 2 = 1 by omega]; rfl
theorem Sees.smp {w : World} {B : Nat} {A : Option Addr} {n : Nat} {l : List (Int × Int)} (h : Sees w B 2 A n (smps l)) {k : Nat} (hk : k < n) :
    ∃ ad, ∃ hl : k < l.length, A = some ad ∧ w.cell? (ad.add (k * 2)) = some (.int .i64 l[k].1) ∧ w.cell? ⟨(ad.add (k * 2)).block, (ad.add (k * 2)).off + 1, none⟩ = some (.int .i64 l[k].2) := by
  have hl : k < l.length := by have := h.len; rw [smps_length] at this; omega
  obtain ⟨ad, e, _, hc⟩ := h.at_ (by omega)
  obtain ⟨h0, h1⟩ := smps_get l k hl
  exact ⟨ad, hl, e, hc _ _ h0, by rw [add_spelt _ _ _ (by omega)]; exact hc _ _ h1⟩
theorem Sees.smp_len {w : World} {B : Nat} {A : Option Addr} {n : Nat} {l : List (Int × Int)} (h : Sees w B 2 A n (smps l)) : l.length = n := by
  have := h.len; rw [smps_length] at this; omega
end Go.Proofs.Ythbinnbnmckmfaa

namespace Go.Proofs.Ythbinnbnmckmfaa
open Go.ChangeShapes Go.WideShapes Go.ChangeAt Go.RowKit
set_option linter.unusedVariables false
set_option maxRecDepth 100000
theorem Try.infoSmp : (Try.prog.info? 30).map (fun i => (i.zero, i.size, i.bytes)) = some (some (.agg #[.int .i64 0, .int .i64 0]), 2, 16) := by kernel_rfl
theorem grow_Smp_none (w : World) : Calls Try.prog 60 #[.slice none 0 0, .int .i64 0] w fun e w' => e = .returned (.slice none 0 0) ∧ w = w' := by
  go_enter Try.func60, Try.ntmps60
  go_wp2
  go_ret
  exact ⟨rfl, rfl⟩
theorem grow_Smp_some (n : Nat) (w : World) (h0 : 0 < n) (hn : n ≤ 1000000) :
    Calls Try.prog 60 #[.slice none 0 0, .int .i64 n] w (OwnAns 30 2 0 [] w) := by
  obtain ⟨i0, hi, hz0, hz1, hz2⟩ := info_parts Try.infoSmp
  have hzr : ∀ ty, (Builtin.append_ #[56, 3] ty #[.slice none 0 0, .int .i64 (n : Int)]).run Try.prog w =
      .ok (.slice (some ⟨w.heap.size, 0, none⟩) (0 + n) (grownCap w (0 + n) 0 30)) (w.drew.alloc (.cells (#[] ++ Builtin.zeroCells (.agg #[.int .i64 0, .int .i64 0] : Value).cells n ++ Builtin.zeroCells (.agg #[.int .i64 0, .int .i64 0] : Value).cells (grownCap w (0 + n) 0 30 - (0 + n))) 30)) := fun ty =>
    Lib.run_append_grow_zeros w 56 3 ty 30 i0 (.agg #[.int .i64 0, .int .i64 0]) .i64 .i64 Try.underlying56 Try.underlying3 hi hz0 none 0 0 [] (run_firstCells_none w.drew i0.size 0 0 0) n h0 (by rw [hz1]; decide) (by omega) (by omega) (by rw [hz2]; omega)
      (growslice_fits (by omega) (by rw [hz2]; omega))
  have hG := grownCap_ge w (0 + n) 0 30
  have hG2 := grownCap_le_maxLen w (0 + n) 0 30 (by unfold maxLen; omega)
  have hsz : (#[] ++ Builtin.zeroCells (.agg #[.int .i64 0, .int .i64 0] : Value).cells n ++ Builtin.zeroCells (.agg #[.int .i64 0, .int .i64 0] : Value).cells (grownCap w (0 + n) 0 30 - (0 + n))).size = grownCap w (0 + n) 0 30 * 2 := by
    have hzs : (.agg #[.int .i64 0, .int .i64 0] : Value).cells.size = 2 := rfl
    rw [Array.size_append, Array.size_append, size_zeroCells, size_zeroCells, hzs]; simp only [List.size_toArray, List.length_nil]; omega
  generalize grownCap w (0 + n) 0 30 = G at *
  rw [Nat.zero_add] at hG hsz
  simp only [Nat.zero_add] at hzr
  generalize (#[] ++ Builtin.zeroCells (.agg #[.int .i64 0, .int .i64 0] : Value).cells n ++ Builtin.zeroCells (.agg #[.int .i64 0, .int .i64 0] : Value).cells (G - n)) = X at *
  have hown : (w.drew.alloc (.cells X 30)).ownsRow w.heap.size 30 2 (.slice (some ⟨w.heap.size, 0, none⟩) 0 G) 0 [] := World.ownsRow_made w.drew X G (Nat.le_refl _) hG2 hsz
  have HO := Lib.hid hown; clear hown hsz hz0 hz1 hz2
  unfold maxLen at hG2
  go_enter Try.func60, Try.ntmps60
  go_wp2_with (at_builtin; refine Lib.wpList_append_run _ rfl _ _ _ _ rfl _ _ rfl rfl _ _ (hzr _) ?_)
  go_ret
  exact ownAns HO.out (((Below.refl _ w).drew).alloc (Nat.le_refl _) _) rfl (by omega) (by omega)
/-- A row of slices: what each of them reads as. -/
def PartsSmp (w : World) (B : Nat) (P : Option Addr) (np : Nat) (ls : List (List (Int × Int))) : Prop :=
  ls.length = np ∧ ∀ j l, ls[j]? = some l → ∃ ad A n c, P = some ad ∧ ad.block < B ∧ w.cell? (ad.add j) = some (.slice A n c) ∧ Sees w B 2 A n (smps l) ∧ n = l.length ∧ n ≤ c ∧ c ≤ 9223372036854775807
theorem PartsSmp.below {w w' : World} {B : Nat} {P : Option Addr} {np : Nat} {ls : List (List (Int × Int))} (h : PartsSmp w B P np ls) (hb : Below B w w') : PartsSmp w' B P np ls :=
  ⟨h.1, fun j l hj => by
    obtain ⟨ad, A, n, c, h1, h2, h3, h4, h5, h6, h7⟩ := h.2 j l hj
    exact ⟨ad, A, n, c, h1, h2, (hb.cell (by rw [add_block]; exact h2)).trans h3, h4.below hb, h5, h6, h7⟩⟩
theorem PartsSmp.more {w : World} {B B' : Nat} {P : Option Addr} {np : Nat} {ls : List (List (Int × Int))} (h : PartsSmp w B P np ls) (hb : B ≤ B') : PartsSmp w B' P np ls :=
  ⟨h.1, fun j l hj => by
    obtain ⟨ad, A, n, c, h1, h2, h3, h4, h5, h6, h7⟩ := h.2 j l hj
    exact ⟨ad, A, n, c, h1, by omega, h3, h4.more hb, h5, h6, h7⟩⟩
theorem flat_takeSmp {ls : List (List (Int × Int))} {j : Nat} {l : List (Int × Int)} (h : ls[j]? = some l) : (ls.take (j + 1)).flatten = (ls.take j).flatten ++ l := by
  have hj := (List.getElem?_eq_some_iff.1 h).1
  rw [List.take_succ_eq_append_getElem hj, List.flatten_append]
  have := (List.getElem?_eq_some_iff.1 h).2
  simp [this]
theorem flat_leSmp (ls : List (List (Int × Int))) (j : Nat) : ((ls.take j).flatten).length ≤ ls.flatten.length := by
  have h := congrArg List.flatten (List.take_append_drop j ls)
  rw [List.flatten_append] at h
  have := congrArg List.length h
  rw [List.length_append] at this
  omega
set_option maxHeartbeats 1000000 in
theorem concat_Smp (P : Option Addr) (np cp : Nat) (ls : List (List (Int × Int))) (w : World) (h : PartsSmp w w.heap.size P np ls) (hn : np ≤ 1000000) (hN : ls.flatten.length ≤ 1000000) :
    Calls Try.prog 43 #[.slice P np cp] w (OwnAns 30 2 ls.flatten.length (smps ls.flatten) w) := by
  have H := Lib.hid h; clear h
  obtain ⟨i0, hi, hz0, hz1, hz2⟩ := info_parts Try.infoSmp
  have HL := Lib.hid H.out.1
  generalize hNn : ls.flatten.length = N at *
  have HN := Lib.hid hNn; clear hNn
  go_enter Try.func43, Try.ntmps43
  go_wp2_with fail
  go_loop [3, 11] (fun s i => ∃ j m : Nat, j ≤ np ∧ i = .int .i64 j ∧ s = .int .i64 m ∧ m ≤ N ∧ m = (ls.take j).flatten.length) (fun _ i => np - (intOf i).toNat)
  case atStart => exact ⟨0, 0, Nat.zero_le _, rfl, rfl, Nat.zero_le _, by simp⟩
  case round =>
    obtain ⟨j, m, hj, rfl, rfl, hmN, hm⟩ := hrel
    have HM := Lib.hid hm; clear hm
    by_cases hlt : j < np
    · obtain ⟨l, hl⟩ : ∃ l, ls[j]? = some l := ⟨_, List.getElem?_eq_getElem (by have := HL.out; omega)⟩
      obtain ⟨ad, A, n, c, rfl, h2, h3, h4, h5, h6, h7⟩ := H.out.2 j l hl
      have hle : m + n ≤ N := by
        have h8 := flat_leSmp ls (j + 1)
        rw [flat_takeSmp hl, List.length_append, HN.out] at h8
        have := HM.out; omega
      have HLL := Lib.hid hl; have H5 := Lib.hid h5; clear hl h4 h5
      go_wp2_with fail
      go_round
      case rel => exact ⟨j + 1, m + n, by omega, by go_num, by go_num, by omega, by rw [flat_takeSmp HLL.out, List.length_append, HM.out, H5.out]⟩
      case measure => simp [intOf]; omega
    · obtain rfl : j = np := by omega
      have hmn : m = N := by rw [HM.out, List.take_of_length_le (by rw [HL.out]; exact Nat.le_refl _), HN.out]
      subst hmn
      clear HM
      by_cases h0 : m = 0
      · have hfl : ls.flatten = [] := List.eq_nil_of_length_eq_zero (by rw [HN.out]; exact h0)
        have HF := Lib.hid hfl
        subst h0
        go_wp2_with fail
        refine (grow_Smp_none w).mono ?_; rintro e w' ⟨rfl, rfl⟩
        go_wp2_with fail
        go_loopw [6, 27] (fun v i wr => ∃ j' : Nat, j' ≤ j ∧ i = .int .i64 j' ∧ wr.ownsRow w.heap.size 30 2 v (ls.take j').flatten.length (smps (ls.take j').flatten) ∧ Below w.heap.size w wr) (fun _ i _ => j - (intOf i).toNat)
        case atStart => exact ⟨0, Nat.zero_le _, rfl, by simpa [smps] using World.ownsRow_nil w w.heap.size 30 2, Below.refl _ _⟩
        case round =>
          obtain ⟨j', hj', rfl, hown, hbel⟩ := hrel
          have HBW := Lib.hid hbel; have hsz := hbel.size; clear hbel
          by_cases hlt2 : j' < j
          · obtain ⟨l, hl⟩ : ∃ l, ls[j']? = some l := ⟨_, List.getElem?_eq_getElem (by have := HL.out; omega)⟩
            obtain ⟨ad, A, n, c, rfl, h2, h3, h4, h5, h6, h7⟩ := (H.out.below HBW.out).2 j' l hl
            have hle : (ls.take j').flatten.length + n ≤ 0 := by
              have h8 := flat_leSmp ls (j' + 1)
              rw [flat_takeSmp hl, List.length_append, HN.out] at h8
              omega
            have HFT := Lib.hid (flat_takeSmp hl)
            have HS := Lib.hid h4; have H5 := Lib.hid h5; clear hl h4 h5
            have HLO := Lib.hid hown.lt
            have HO := Lib.hid hown; clear hown
            generalize (ls.take j').flatten = F at *
            go_wp2_with (at_builtin; refine wpList_append_sees rfl (.tmp 31) (.tmp 32) 56 rfl w.heap.size 30 i0 (.agg #[.int .i64 0, .int .i64 0]) 2 16 Try.underlying56 hi hz0 hz1 hz2 rfl (by decide) _ _ _ rfl HO.out w.heap.size A n _ (smps l) rfl HS.out (smps_one _) (by unfold maxLen; omega) (by omega) (by omega) ?_)
            intro v' w2 hown hg
            have hb := HBW.out.grown hg (by omega) (fun g hg => (HLO.out g hg).1)
            have H1 := Lib.hid hown; have H2 := Lib.hid hb; clear hown hb hg
            go_wp2_with fail
            go_roundw
            case rel => exact ⟨j' + 1, by omega, by go_num, by rw [HFT.out, List.length_append, ← H5.out, smps_append]; exact H1.out, H2.out⟩
            case measure => simp [intOf]; omega
          · obtain rfl : j' = j := by omega
            obtain ⟨A2, c2, rfl, hc3, hc4⟩ := own_slice hown
            rw [List.take_of_length_le (by rw [HL.out]; exact Nat.le_refl _)] at hown hc3
            rw [HN.out] at hown hc3
            rw [List.take_of_length_le (by rw [HL.out]; exact Nat.le_refl _), HN.out]
            have HO := Lib.hid hown; clear hown
            go_wp2_with fail
            go_ret
            exact ownAns HO.out HBW.out rfl hc3 hc4
      · have hpos : 0 < m := by omega
        clear h0
        go_wp2_with fail
        refine (grow_Smp_some m w hpos (by omega)).mono ?_; rintro e w1 ⟨A1, c1, rfl, hown1, hbel1, hc1, hc2⟩
        have HO1 := Lib.hid hown1; have HB1 := Lib.hid hbel1; clear hown1 hbel1
        go_wp2_with fail
        go_loopw [6, 27] (fun v i wr => ∃ j' : Nat, j' ≤ j ∧ i = .int .i64 j' ∧ wr.ownsRow w.heap.size 30 2 v (ls.take j').flatten.length (smps (ls.take j').flatten) ∧ Below w.heap.size w wr) (fun _ i _ => j - (intOf i).toNat)
        case atStart => exact ⟨0, Nat.zero_le _, rfl, by simpa [smps] using HO1.out, HB1.out⟩
        case round =>
          obtain ⟨j', hj', rfl, hown, hbel⟩ := hrel
          have HBW := Lib.hid hbel; have hsz := hbel.size; clear hbel
          by_cases hlt2 : j' < j
          · obtain ⟨l, hl⟩ : ∃ l, ls[j']? = some l := ⟨_, List.getElem?_eq_getElem (by have := HL.out; omega)⟩
            obtain ⟨ad, A, n, c, rfl, h2, h3, h4, h5, h6, h7⟩ := (H.out.below HBW.out).2 j' l hl
            have hle : (ls.take j').flatten.length + n ≤ m := by
              have h8 := flat_leSmp ls (j' + 1)
              rw [flat_takeSmp hl, List.length_append, HN.out] at h8
              omega
            have HFT := Lib.hid (flat_takeSmp hl)
            have HS := Lib.hid h4; have H5 := Lib.hid h5; clear hl h4 h5
            have HLO := Lib.hid hown.lt
            have HO := Lib.hid hown; clear hown
            generalize (ls.take j').flatten = F at *
            go_wp2_with (at_builtin; refine wpList_append_sees rfl (.tmp 31) (.tmp 32) 56 rfl w.heap.size 30 i0 (.agg #[.int .i64 0, .int .i64 0]) 2 16 Try.underlying56 hi hz0 hz1 hz2 rfl (by decide) _ _ _ rfl HO.out w.heap.size A n _ (smps l) rfl HS.out (smps_one _) (by unfold maxLen; omega) (by omega) (by omega) ?_)
            intro v' w2 hown hg
            have hb := HBW.out.grown hg (by omega) (fun g hg => (HLO.out g hg).1)
            have H1 := Lib.hid hown; have H2 := Lib.hid hb; clear hown hb hg
            go_wp2_with fail
            go_roundw
            case rel => exact ⟨j' + 1, by omega, by go_num, by rw [HFT.out, List.length_append, ← H5.out, smps_append]; exact H1.out, H2.out⟩
            case measure => simp [intOf]; omega
          · obtain rfl : j' = j := by omega
            obtain ⟨A2, c2, rfl, hc3, hc4⟩ := own_slice hown
            rw [List.take_of_length_le (by rw [HL.out]; exact Nat.le_refl _)] at hown hc3
            rw [HN.out] at hown hc3
            rw [List.take_of_length_le (by rw [HL.out]; exact Nat.le_refl _), HN.out]
            have HO := Lib.hid hown; clear hown
            go_wp2_with fail
            go_ret
            exact ownAns HO.out HBW.out rfl hc3 hc4
theorem clone_Smp (A : Option Addr) (n c : Nat) (l : List (Int × Int)) (B : Nat) (w : World) (h : Sees w B 2 A n (smps l)) (hB : B ≤ w.heap.size) (hl : l.length = n) (hn : n ≤ 1000000) :
    Calls Try.prog 54 #[.slice A n c] w (OwnAns 30 2 n (smps l) w) := by
  have H := Lib.hid h; clear h
  have HL := Lib.hid hl; clear hl
  obtain ⟨i0, hi, hz0, hz1, hz2⟩ := info_parts Try.infoSmp
  have hnil := fun w => Lib.run_eql_slice_nil (P := Try.prog) w 56 30 A n c 0 0 Try.underlying56
  cases A with
  | none =>
    have hn0 : n = 0 := by
      rcases Nat.eq_zero_or_pos n with h | h
      · exact h
      · obtain ⟨ad, h, _⟩ := H.out.at_ h; cases h
    subst hn0
    have hl0 : l = [] := List.eq_nil_of_length_eq_zero HL.out
    subst hl0
    have hr := Lib.hid (show w.ownsRow w.heap.size 30 2 (.slice none 0 0) 0 (smps []) by simpa [smps] using World.ownsRow_nil w w.heap.size 30 2)
    go_enter Try.func54, Try.ntmps54
    go_wp2_with fail
    go_ret
    exact ownAns hr.out (Below.refl _ _) rfl (Nat.le_refl _) (by omega)
  | some ad =>
    have hown0 : (w.alloc (.cells #[] 30)).ownsRow w.heap.size 30 2 (.slice (some ⟨w.heap.size, 0, none⟩) 0 0) 0 [] := World.ownsRow_made w #[] 0 (Nat.le_refl _) (by unfold maxLen; omega) rfl
    have HO := Lib.hid hown0; clear hown0
    go_enter Try.func54, Try.ntmps54
    go_wp2_with (at_builtin; refine wpList_append_sees rfl (.tmp 5) (.tmp 6) 56 rfl w.heap.size 30 i0 (.agg #[.int .i64 0, .int .i64 0]) 2 16 Try.underlying56 hi hz0 hz1 hz2 rfl (by decide) _ 0 [] rfl HO.out B (some ad) n _ (smps l) rfl (H.out.alloc hB _) (smps_one _) (by unfold maxLen; omega) (by omega) (by simp) ?_)
    intro v' w1 hown hg
    have hb := ((Below.refl w.heap.size w).alloc (Nat.le_refl _) _).grown hg (by simp) (by simp [Value.ownBlock])
    try simp only [Nat.zero_add, List.nil_append] at hown
    obtain ⟨A2, c2, rfl, hc3, hc4⟩ := own_slice hown
    have H1 := Lib.hid hown; have H2 := Lib.hid hb; clear hown hb hg
    go_wp2_with fail
    go_ret
    exact ownAns H1.out H2.out rfl hc3 hc4
end Go.Proofs.Ythbinnbnmckmfaa

namespace Go.Proofs.Ythbinnbnmckmfaa
open Go.ChangeShapes Go.WideShapes Go.ChangeAt Go.RowKit
set_option linter.unusedVariables false
theorem take_eq_snoc {zs ys : List Int} {k : Nat} (h1 : k < zs.length) (h2 : k < ys.length) (h : zs.take k = ys.take k) (he : zs[k] = ys[k]) : zs.take (k + 1) = ys.take (k + 1) := by
  rw [List.take_succ_eq_append_getElem h1, List.take_succ_eq_append_getElem h2, h, he]
theorem same_int (A A2 : Option Addr) (n c n2 c2 B B2 : Nat) (zs ys : List Int) (w : World) (h : Sees w B 1 A n (ints zs)) (h2 : Sees w B2 1 A2 n2 (ints ys)) (hn : n ≤ 9223372036854775807) (hn2 : n2 ≤ 9223372036854775807) :
    Calls Try.prog 11 #[.slice A n c, .slice A2 n2 c2] w fun e w' => e = .returned (.bool (decide (zs = ys))) ∧ ∃ m, w' = w.drewN m := by
  have H := Lib.hid h; clear h
  have H2 := Lib.hid h2; clear h2
  have HL := Lib.hid H.out.int_len
  have HL2 := Lib.hid H2.out.int_len
  by_cases hnn : n = n2
  · subst hnn
    go_enter Try.func11, Try.ntmps11
    go_wp2
    go_loopw [5] (fun i wr => ∃ k m : Nat, k ≤ n ∧ i = .int .i64 k ∧ wr = w.drewN m ∧ zs.take k = ys.take k) (fun i _ => n - (intOf i).toNat)
    case atStart => exact ⟨0, 0, Nat.zero_le _, rfl, rfl, rfl⟩
    case round =>
      obtain ⟨k, m, hk, rfl, rfl, ht⟩ := hrel
      have HT := Lib.hid ht; clear ht
      by_cases hlt : k < n
      · obtain ⟨ad, hkl, rfl, hc⟩ := H.out.int hlt
        obtain ⟨ad2, hkl2, rfl, hc2⟩ := H2.out.int hlt
        have hq := Lib.hid (take_eq_snoc hkl hkl2 HT.out)
        have hne : Hid (zs[k] ≠ ys[k] → zs ≠ ys) := fun h e => h (by subst e; rfl)
        generalize zs[k] = x at *
        generalize ys[k] = y at *
        by_cases hxy : x = y
        · subst hxy
          have hd : (x == x) = true := by simp
          go_wp2
          go_quiet (fail)
          go_wp2
          go_roundw
          case rel => exact ⟨k + 1, _, by omega, by go_num, rfl, hq.out (by simp)⟩
          case measure => simp [intOf]; omega
        · have hd : (x == y) = false := by simpa using hxy
          have hz := Lib.hid (hne.out hxy); clear hxy
          go_wp2
          go_quiet (fail)
          go_wp2
          go_ret
          exact ⟨ret_bool (decide_eq_false hz.out).symm, _, World.drewN_drewN _ _ _⟩
      · obtain rfl : k = n := by omega
        have he : zs = ys := by
          have := HT.out; rwa [List.take_of_length_le (by rw [HL.out]; omega), List.take_of_length_le (by rw [HL2.out]; omega)] at this
        have HE := Lib.hid (decide_eq_true he); clear he
        go_wp2
        go_ret
        exact ⟨ret_bool HE.out.symm, m, rfl⟩
  · have hz : zs ≠ ys := fun e => hnn (by rw [← HL.out, ← HL2.out, e])
    have hb : ((n : Int) == n2) = false := beq_eq_false_iff_ne.2 (by omega)
    have HE := Lib.hid (decide_eq_false hz); clear hz
    go_enter Try.func11, Try.ntmps11
    go_wp2
    go_ret
    exact ⟨ret_bool HE.out.symm, 0, rfl⟩

end Go.Proofs.Ythbinnbnmckmfaa

namespace Go.Proofs.Ythbinnbnmckmfaa
open Go Go.RowKit
set_option linter.unusedVariables false
/-- P holds, and stays along R. -/
def Hold (R : World → World → Prop) (P : World → Prop) (w : World) : Prop := ∀ w', R w w' → P w'
theorem Hold.now {P : World → Prop} {w : World} (h : Hold (fun a b => Below a.heap.size a b) P w) : P w := h w (Below.refl _ _)
def slotOf (ops : Array Oper) (j : Nat) : Option Tmp := (ops[j]?).bind (·.dst)
/-- What operation j left. -/
def slotV (ops : Array Oper) (a : Act) (j : Nat) : Value := match slotOf ops j with | some d => a.tmps.getD d undef | none => undef
/-- What the region does not write is as it was. -/
structure FrameOk (ops : Array Oper) (a0 a : Act) : Prop where
  defers : a.defers = a0.defers
  size : a.tmps.size = a0.tmps.size
  same : ∀ k, (∀ j, slotOf ops j ≠ some k) → a.tmps.getD k undef = a0.tmps.getD k undef
/-- .. and what is written by operations that wait for operation i alone is as it was, ahead of i. -/
structure FrameAt (ops : Array Oper) (a0 a : Act) (i : Nat) : Prop where
  fr : FrameOk ops a0 a
  early : ∀ k, (∀ (j : Nat) (o : Oper), ops[j]? = some o → o.dst = some k → ∃ e ∈ o.after.toList, e.on = i ∧ Region.binds .any e = true) → a.tmps.getD k undef = a0.tmps.getD k undef
/-- The facts of the operations that are waited for. -/
def Deps (R : World → World → Prop) (V : Nat → Value → World → Prop) (ops : Array Oper) (a : Act) (w : World) : List Edge → Prop
  | [] => True
  | e :: l => (Region.binds .any e = true → Hold R (V e.on (slotV ops a e.on)) w) ∧ Deps R V ops a w l
/-- What an operation leaves. -/
def OpPost (R : World → World → Prop) (V : Nat → Value → World → Prop) (i : Nat) (o : Oper) (a : Act) (w : World) (a' : Act) (w' : World) : Prop := R w w' ∧ ∃ v, a' = a.put o.dst v ∧ Hold R (V i (match o.dst with | some _ => v | none => undef)) w'
def OpOk (P : Program) (ops : Array Oper) (Q : Exit → Act → World → Prop) (R : World → World → Prop) (G : World → Prop) (V : Nat → Value → World → Prop) (a0 : Act) (i : Nat) (o : Oper) : Prop :=
  ∀ a w, FrameAt ops a0 a i → Hold R G w → Deps R V ops a w o.after.toList →
    (Region.wanted o (yielded ops a.tmps) = true → o.wp P a w (OpPost R V i o a w) Q) ∧
    (Region.wanted o (yielded ops a.tmps) = false → Hold R (V i undef) w)
def AllOps (P : Program) (ops : Array Oper) (Q : Exit → Act → World → Prop) (R : World → World → Prop) (G : World → Prop) (V : Nat → Value → World → Prop) (a0 : Act) : Nat → List Oper → Prop
  | _, [] => True
  | i, o :: l => OpOk P ops Q R G V a0 i o ∧ AllOps P ops Q R G V a0 (i + 1) l
/-- The frame with all of the region's slots written. -/
def putAll (vs : Nat → Value) : Nat → List Oper → Act → Act
  | _, [], a => a
  | i, o :: l, a => putAll vs (i + 1) l (a.put o.dst (vs i))
/-- No two operations write one slot, and each slot is there. -/
def apartB (n : Nat) : List Oper → Bool
  | [] => true
  | o :: l => (match o.dst with | some d => decide (d < n) && l.all (fun p => p.dst != some d) | none => true) && apartB n l

section
variable {P : Program} {ops : Array Oper} {Q : Exit → Act → World → Prop} {R : World → World → Prop} {G : World → Prop} {V : Nat → Value → World → Prop} {a0 : Act}
theorem allOps_at : ∀ {l : List Oper} {k : Nat}, AllOps P ops Q R G V a0 k l → ∀ (i : Nat) (o : Oper), l[i]? = some o → OpOk P ops Q R G V a0 (k + i) o
  | [], _, _, i, o, h => by simp at h
  | p :: l, k, ⟨h1, h2⟩, 0, o, h => by simp at h; subst h; exact h1
  | p :: l, k, ⟨h1, h2⟩, i + 1, o, h => by
    have := allOps_at h2 i o (by simpa using h)
    rwa [show k + (i + 1) = k + 1 + i by omega]
theorem apartB_lt {n : Nat} : ∀ {l : List Oper}, apartB n l = true → ∀ (i : Nat) (o : Oper) (d : Tmp), l[i]? = some o → o.dst = some d → d < n
  | [], _, i, o, d, h, _ => by simp at h
  | p :: l, hb, 0, o, d, h, hd => by
    simp at h; subst h
    simp only [apartB, hd, Bool.and_eq_true, decide_eq_true_eq] at hb
    exact hb.1.1
  | p :: l, hb, i + 1, o, d, h, hd => by
    simp only [apartB, Bool.and_eq_true] at hb
    exact apartB_lt hb.2 i o d (by simpa using h) hd
theorem apartB_ne {n : Nat} : ∀ {l : List Oper}, apartB n l = true → ∀ (i j : Nat) (o p : Oper) (d : Tmp), l[i]? = some o → l[j]? = some p → o.dst = some d → p.dst = some d → i = j
  | [], _, i, _, o, _, _, h, _, _, _ => by simp at h
  | q :: l, hb, 0, 0, o, p, d, h, h2, hd, hd2 => rfl
  | q :: l, hb, 0, j + 1, o, p, d, h, h2, hd, hd2 => by
    simp at h; subst h
    simp only [apartB, hd, Bool.and_eq_true, decide_eq_true_eq, List.all_eq_true] at hb
    have := hb.1.2 p (List.mem_of_getElem? (by simpa using h2 : l[j]? = some p))
    simp [hd2] at this
  | q :: l, hb, i + 1, 0, o, p, d, h, h2, hd, hd2 => by
    simp at h2; subst h2
    simp only [apartB, hd2, Bool.and_eq_true, decide_eq_true_eq, List.all_eq_true] at hb
    have := hb.1.2 o (List.mem_of_getElem? (by simpa using h : l[i]? = some o))
    simp [hd] at this
  | q :: l, hb, i + 1, j + 1, o, p, d, h, h2, hd, hd2 => by
    simp only [apartB, Bool.and_eq_true] at hb
    have := apartB_ne hb.2 i j o p d (by simpa using h) (by simpa using h2) hd hd2
    omega
theorem slotOf_ne (hb : apartB a0.tmps.size ops.toList = true) {i j : Nat} {d : Tmp} (hi : slotOf ops i = some d) (hj : slotOf ops j = some d) : i = j := by
  unfold slotOf at hi hj
  cases ho : ops[i]? with
  | none => rw [ho] at hi; cases hi
  | some o =>
    cases hp : ops[j]? with
    | none => rw [hp] at hj; cases hj
    | some p =>
      rw [ho] at hi; rw [hp] at hj
      exact apartB_ne hb i j o p d (by simpa using ho) (by simpa using hp) hi hj
theorem slotOf_lt (hb : apartB a0.tmps.size ops.toList = true) {i : Nat} {d : Tmp} (hi : slotOf ops i = some d) : d < a0.tmps.size := by
  unfold slotOf at hi
  cases ho : ops[i]? with
  | none => rw [ho] at hi; cases hi
  | some o => rw [ho] at hi; exact apartB_lt hb i o d (by simpa using ho) hi
theorem slotV_put_other (hb : apartB a0.tmps.size ops.toList = true) {a : Act} {i j : Nat} (hij : i ≠ j) (v : Value) : slotV ops (a.put (slotOf ops i) v) j = slotV ops a j := by
  unfold slotV
  cases hj : slotOf ops j with
  | none => rfl
  | some d =>
    cases hi : slotOf ops i with
    | none => rfl
    | some e =>
      have hne : e ≠ d := fun h => hij (slotOf_ne hb hi (h ▸ hj))
      simp [Act.put, Array.getElem?_setIfInBounds_ne hne]
theorem FrameOk.put (hb : apartB a0.tmps.size ops.toList = true) {a : Act} (h : FrameOk ops a0 a) (i : Nat) (v : Value) : FrameOk ops a0 (a.put (slotOf ops i) v) := by
  cases hi : slotOf ops i with
  | none => exact h
  | some e =>
    refine ⟨h.defers, by simpa [Act.put] using h.size, fun k hk => ?_⟩
    have hne : e ≠ k := fun he => hk i (he ▸ hi)
    rw [← h.same k hk]
    simp [Act.put, Array.getElem?_setIfInBounds_ne hne]
/-- The state ahead of each operation. -/
structure RInv (P : Program) (ops : Array Oper) (R : World → World → Prop) (G : World → Prop) (V : Nat → Value → World → Prop) (a0 : Act) (listed : Array Bool) (a : Act) (w : World) : Prop where
  fr : FrameOk ops a0 a
  early : ∀ k, (∀ j, slotOf ops j = some k → listed.getD j false = false) → a.tmps.getD k undef = a0.tmps.getD k undef
  closed : ∀ (j : Nat) (o : Oper), ops[j]? = some o → listed.getD j false = true → ∀ e ∈ o.after.toList, Region.binds .any e = true → listed.getD e.on false = true
  g : Hold R G w
  facts : ∀ i, listed.getD i false = true → Hold R (V i (slotV ops a i)) w
theorem Hold.trans {A : World → Prop} (ht : ∀ a b c, R a b → R b c → R a c) {w w' : World} (h : Hold R A w) (hr : R w w') : Hold R A w' := fun w2 h2 => h w2 (ht _ _ _ hr h2)
theorem deps_of {a : Act} {w : World} {listed : Array Bool} (hf : ∀ i, listed.getD i false = true → Hold R (V i (slotV ops a i)) w) :
    ∀ l : List Edge, (∀ e ∈ l, Region.binds .any e = true → listed.getD e.on false = true) → Deps R V ops a w l
  | [], _ => trivial
  | e :: l, h => ⟨fun hb => hf _ (h e List.mem_cons_self hb), deps_of hf l fun e' he' => h e' (List.mem_cons_of_mem _ he')⟩
/-- Each operation waits for earlier ones alone. -/
def backB : Nat → List Oper → Bool
  | _, [] => true
  | i, o :: l => o.after.all (fun e => decide (e.on < i)) && backB (i + 1) l
theorem backB_at : ∀ {l : List Oper} {k : Nat}, backB k l = true → ∀ (i : Nat) (o : Oper), l[i]? = some o → ∀ e ∈ o.after, e.on < k + i
  | [], _, _, i, o, h, _, _ => by simp at h
  | p :: l, k, hb, 0, o, h, e, he => by
    simp at h; subst h
    simp only [backB, Bool.and_eq_true] at hb
    have h1 := hb.1
    rw [Array.all_eq_true_iff_forall_mem] at h1
    simpa using h1 e he
  | p :: l, k, hb, i + 1, o, h, e, he => by
    simp only [backB, Bool.and_eq_true] at hb
    have := backB_at hb.2 i o (by simpa using h) e he
    omega
def left (n : Nat) (listed : Array Bool) : Nat := ((List.range n).filter fun i => !listed.getD i true).length
theorem filter_less {l : List Nat} {p q : Nat → Bool} (h : ∀ x ∈ l, q x = true → p x = true) {i : Nat} (hi : i ∈ l) (h1 : p i = true) (h2 : q i = false) : (l.filter q).length < (l.filter p).length := by
  induction l with
  | nil => cases hi
  | cons x l ih =>
    have hx := h x List.mem_cons_self
    have hl : ∀ y ∈ l, q y = true → p y = true := fun y hy => h y (List.mem_cons_of_mem _ hy)
    have hle : (l.filter q).length ≤ (l.filter p).length := by
      clear ih hi h hx
      induction l with
      | nil => simp
      | cons y l ih =>
        have := ih (fun z hz => hl z (List.mem_cons_of_mem _ hz))
        have hy := hl y List.mem_cons_self
        cases hq : q y <;> cases hp : p y <;> simp [hq, hp] <;> first | omega | (rw [hy hq] at hp; cases hp)
    rcases List.mem_cons.1 hi with rfl | hi
    · simp only [List.filter_cons, h1, h2, if_true, List.length_cons]; simp; omega
    · have := ih hl hi
      cases hq : q x <;> cases hp : p x <;> simp [hq, hp] <;> first | omega | (rw [hx hq] at hp; cases hp)
theorem left_set {n : Nat} {listed : Array Bool} {i : Nat} (hn : listed.size = n) (hi : listed.getD i true = false) : left n (listed.setIfInBounds i true) < left n listed := by
  have hlt : i < listed.size := by
    rcases Nat.lt_or_ge i listed.size with h | h
    · exact h
    · simp [Array.getElem?_eq_none h] at hi
  refine filter_less (fun x hx hq => ?_) (List.mem_range.2 (by omega : i < n)) (by simp [hi]) (by simp [hlt])
  by_cases h : i = x
  · subst h; simp [hlt] at hq
  · rw [getD_set_ne true h] at hq; exact hq
theorem left_none {n : Nat} {listed : Array Bool} (hn : listed.size = n) (h : left n listed = 0) : ∀ i, i < n → listed.getD i true = true := fun i hi => by
  unfold left at h
  have := List.eq_nil_of_length_eq_zero h
  rw [List.filter_eq_nil_iff] at this
  simpa using this i (List.mem_range.2 hi)
theorem all_listed (hback : backB 0 ops.toList = true) {listed : Array Bool} (hs : listed.size = ops.size) (hr : Region.ready .any ops listed = []) : ∀ i, i < ops.size → listed.getD i true = true := by
  intro i
  induction i using Nat.strongRecOn with
  | _ i ih =>
    intro hi
    cases hc : listed.getD i true with
    | true => rfl
    | false =>
      have : i ∈ Region.ready .any ops listed := by
        rw [mem_ready]
        refine ⟨hc, ops[i], Array.getElem?_eq_getElem hi, fun e he hb => ?_⟩
        have h1 := backB_at hback i ops[i] (by simp [hi]) e he
        have h2 := ih e.on (by omega) (by omega)
        have hlt : e.on < listed.size := by omega
        simp [hlt] at h2 ⊢
        exact h2
      rw [hr] at this
      cases this
theorem wpAny_facts (hr0 : ∀ w, R w w) (ht : ∀ a b c, R a b → R b c → R a c) (hb : apartB a0.tmps.size ops.toList = true) (hback : backB 0 ops.toList = true) (hall : AllOps P ops Q R G V a0 0 ops.toList)
    (hend : ∀ a w, FrameOk ops a0 a → Hold R G w → (∀ i, i < ops.size → Hold R (V i (slotV ops a i)) w) → Q .normal a w) :
    ∀ (fuel : Nat) (listed : Array Bool) (a : Act) (w : World), listed.size = ops.size → left ops.size listed ≤ fuel → RInv P ops R G V a0 listed a w → wpAny P .any ops Q fuel listed a w := by
  have fin : ∀ (listed : Array Bool) (a : Act) (w : World), listed.size = ops.size → RInv P ops R G V a0 listed a w → Region.ready .any ops listed = [] → Q .normal a w := fun listed a w hs hI hr =>
    hend a w hI.fr hI.g fun i hi => hI.facts i (by
      have h1 := all_listed hback hs hr i hi
      have hlt : i < listed.size := by omega
      simp [hlt] at h1 ⊢
      exact h1)
  intro fuel
  induction fuel with
  | zero =>
    intro listed a w hs hl hI
    have hr : Region.ready .any ops listed = [] := by
      rw [List.eq_nil_iff_forall_not_mem]
      intro i hi
      obtain ⟨h1, o, ho, _⟩ := mem_ready.1 hi
      have hlt : i < ops.size := (Array.getElem?_eq_some_iff.1 ho).1
      rw [left_none hs (by omega) i hlt] at h1
      cases h1
    exact ⟨hr, fin listed a w hs hI hr⟩
  | succ fuel ih =>
    intro listed a w hs hl hI
    refine ⟨fin listed a w hs hI, fun i hi => ?_⟩
    obtain ⟨h1, o, ho, hdone⟩ := mem_ready.1 hi
    have hlt : i < ops.size := (Array.getElem?_eq_some_iff.1 ho).1
    have hok : OpOk P ops Q R G V a0 i o := by have := allOps_at hall i o (by simpa using ho); rwa [Nat.zero_add] at this
    have hdst : o.dst = slotOf ops i := by unfold slotOf; rw [ho]; rfl
    have hfa : FrameAt ops a0 a i := ⟨hI.fr, fun k hk => hI.early k fun j hj => by
      have hj2 := hj
      unfold slotOf at hj2
      cases hoj : ops[j]? with
      | none => rw [hoj] at hj2; cases hj2
      | some oj =>
        rw [hoj] at hj2
        obtain ⟨e, he, heq, hbb⟩ := hk j oj hoj hj2
        cases hlj : listed.getD j false with
        | false => rfl
        | true =>
          have h5 := hI.closed j oj hoj hlj e he hbb
          rw [heq] at h5
          have hlt2 : i < listed.size := by omega
          simp [hlt2] at h1 h5
          rw [h5] at h1; cases h1⟩
    obtain ⟨hw, hn⟩ := hok a w hfa hI.g (deps_of hI.facts _ fun e he hbb => hdone e (by simpa using he) hbb)
    have go : ∀ v w', R w w' → Hold R (V i (match slotOf ops i with | some _ => v | none => undef)) w' → wpAny P .any ops Q fuel (listed.setIfInBounds i true) (a.put (slotOf ops i) v) w' := fun v w' hrw hv => by
      refine ih _ _ _ (by simpa using hs) (by have := left_set hs h1; omega) ⟨hI.fr.put hb i v, fun k hk => ?_, fun j oj hoj hlj e he hbb => ?_, hI.g.trans ht hrw, fun j hj => ?_⟩
      · have hlt2 : i < listed.size := by omega
        have hne : slotOf ops i ≠ some k := fun h => by have := hk i h; simp [hlt2] at this
        have h6 := hI.early k fun j hj => by
          have h7 := hk j hj
          by_cases hij : i = j
          · subst hij; simp [hlt2] at h7
          · rwa [getD_set_ne false hij] at h7
        rw [← h6]
        cases hsl : slotOf ops i with
        | none => rfl
        | some d =>
          have hdk : d ≠ k := fun h => hne (by rw [hsl, h])
          simp [Act.put, Array.getElem?_setIfInBounds_ne hdk]
      · have hlt2 : i < listed.size := by omega
        by_cases hij : i = j
        · subst hij
          rw [ho] at hoj; injection hoj with hoj; subst hoj
          have h8 := hdone e (by simpa using he) hbb
          by_cases hie : i = e.on
          · rw [← hie]; simp [hlt2]
          · rw [getD_set_ne false hie]; exact h8
        · rw [getD_set_ne false hij] at hlj
          have h8 := hI.closed j oj hoj hlj e he hbb
          by_cases hie : i = e.on
          · rw [← hie]; simp [hlt2]
          · rw [getD_set_ne false hie]; exact h8
      by_cases hij : i = j
      · subst hij
        have e : slotV ops (a.put (slotOf ops i) v) i = match slotOf ops i with | some _ => v | none => undef := by
          unfold slotV
          cases hsl : slotOf ops i with
          | none => rfl
          | some d =>
            have hd := slotOf_lt hb hsl
            rw [← hI.fr.size] at hd
            simp [Act.put, hd]
        rw [e]
        exact hv
      · rw [slotV_put_other hb hij]
        refine (hI.facts j ?_).trans ht hrw
        rw [getD_set_ne false hij] at hj
        exact hj
    unfold wpOp
    rw [ho]
    simp only
    split
    · rename_i hwant
      refine .inl (Oper.wp_mono (fun a' w' h => ?_) (hw hwant))
      obtain ⟨hrw, v, rfl, hv⟩ := h
      rw [hdst] at hv ⊢
      exact go v w' hrw hv
    · rename_i hwant
      rw [hdst]
      exact go undef w (hr0 w) (by have := hn (by simpa using hwant); cases slotOf ops i <;> exact this)
/-- The facts of all operations. -/
def AllV (R : World → World → Prop) (V : Nat → Value → World → Prop) (vs : Nat → Value) (w : World) : Nat → List Oper → Prop
  | _, [] => True
  | i, _ :: l => Hold R (V i (vs i)) w ∧ AllV R V vs w (i + 1) l
theorem allV_of {vs : Nat → Value} {w : World} : ∀ (l : List Oper) (k : Nat), (∀ i, i < l.length → Hold R (V (k + i) (vs (k + i))) w) → AllV R V vs w k l
  | [], _, _ => trivial
  | o :: l, k, h => ⟨h 0 (by simp), allV_of l (k + 1) fun i hi => by have := h (i + 1) (by simpa using hi); rwa [show k + (i + 1) = k + 1 + i by omega] at this⟩
theorem putAll_same {vs : Nat → Value} {a : Act} : ∀ (l : List Oper) (k : Nat), (∀ i o, l[i]? = some o → a.put o.dst (vs (k + i)) = a) → putAll vs k l a = a
  | [], _, _ => rfl
  | o :: l, k, h => by
    have h0 := h 0 o (by simp)
    unfold putAll
    rw [show a.put o.dst (vs k) = a from h0]
    exact putAll_same l (k + 1) fun i p hp => by have := h (i + 1) p (by simpa using hp); rwa [show k + (i + 1) = k + 1 + i by omega] at this
theorem act_ext {a b : Act} (h1 : a.defers = b.defers) (h2 : a.tmps.size = b.tmps.size) (h3 : ∀ k, a.tmps.getD k undef = b.tmps.getD k undef) : a = b := by
  obtain ⟨x, y⟩ := a; obtain ⟨x', y'⟩ := b
  simp only at h1 h2 h3
  subst h1
  have : x = x' := Array.ext h2 fun i hi hi' => by have := h3 i; simpa [hi, hi'] using this
  rw [this]
theorem putAll_congr {vs : Nat → Value} : ∀ (l : List Oper) (k : Nat) (a b : Act), a.defers = b.defers → a.tmps.size = b.tmps.size → (∀ t, (∀ o ∈ l, o.dst ≠ some t) → a.tmps.getD t undef = b.tmps.getD t undef) → putAll vs k l a = putAll vs k l b
  | [], _, a, b, h1, h2, h3 => act_ext h1 h2 fun k => h3 k (fun o ho => absurd ho List.not_mem_nil)
  | o :: l, k, a, b, h1, h2, h3 => by
    unfold putAll
    cases hd : o.dst with
    | none =>
      refine putAll_congr l (k + 1) _ _ h1 h2 fun t ht => h3 t fun p hp => ?_
      rcases List.mem_cons.1 hp with rfl | hp
      · rw [hd]; simp
      · exact ht p hp
    | some d =>
      refine putAll_congr l (k + 1) _ _ h1 (by simpa [Act.put] using h2) fun t ht => ?_
      by_cases he : d = t
      · subst he
        by_cases hlt : d < a.tmps.size
        · have hlt' : d < b.tmps.size := h2 ▸ hlt
          simp [Act.put, hlt, hlt']
        · have hlt' : ¬ d < b.tmps.size := h2 ▸ hlt
          simp [Act.put, hlt, hlt']
      · have := h3 t fun p hp => by
          rcases List.mem_cons.1 hp with rfl | hp
          · rw [hd]; simpa using he
          · exact ht p hp
        simpa [Act.put, Array.getElem?_setIfInBounds_ne he] using this
/-- THE LAW: each operation has a fact that stays along R; a region that draws its order ends with all of them. -/
theorem wp_region_facts {id : Nat} {w : World} (hm : P.follows .mixedOrders = true) (hr0 : ∀ w, R w w) (ht : ∀ a b c, R a b → R b c → R a c) (hb : apartB a0.tmps.size ops.toList = true) (hback : backB 0 ops.toList = true)
    (hG : Hold R G { w with drawn := w.drawn + 1 }) (hall : AllOps P ops Q R G V a0 0 ops.toList)
    (hend : ∀ vs w', Hold R G w' → AllV R V vs w' 0 ops.toList → Q .normal (putAll vs 0 ops.toList a0) w') : (Code.region id ops true).wp P Q a0 w := by
  refine wp_region_any hm (wpAny_facts hr0 ht hb hback hall (fun a w' hfr hg hf => ?_) ops.size _ a0 _ (by simp) (by unfold left; exact Nat.le_trans (List.length_filter_le _ _) (by simp)) ⟨⟨rfl, rfl, fun _ _ => rfl⟩, fun _ _ => rfl, fun j o _ hj => ?_, hG, fun i hi => ?_⟩)
  · have h1 := hend (slotV ops a) w' hg (allV_of _ 0 fun i hi => by rw [Nat.zero_add]; exact hf i (by simpa using hi))
    have h2 : putAll (slotV ops a) 0 ops.toList a0 = a := by
      rw [putAll_congr ops.toList 0 a0 a hfr.defers.symm hfr.size.symm fun t hno => (hfr.same t fun j hj => ?_).symm]
      · refine putAll_same _ 0 fun i o ho => ?_
        rw [Nat.zero_add]
        have hdst : o.dst = slotOf ops i := by unfold slotOf; rw [show ops[i]? = some o by simpa using ho]; rfl
        rw [hdst]
        unfold slotV
        cases hsl : slotOf ops i with
        | none => rfl
        | some d =>
          refine act_ext rfl (by simp [Act.put]) fun k => ?_
          by_cases he : d = k
          · subst he
            have hd := slotOf_lt hb hsl
            rw [← hfr.size] at hd
            simp [Act.put, hd]
          · simp [Act.put, Array.getElem?_setIfInBounds_ne he]
      · unfold slotOf at hj
        cases ho : ops[j]? with
        | none => rw [ho] at hj; cases hj
        | some o => rw [ho] at hj; exact hno o (by simpa using Array.mem_of_getElem? ho) hj
    rwa [h2] at h1
  · exfalso
    have : (Array.replicate ops.size false).getD j false = false := by
      by_cases h : j < ops.size <;> simp [h]
    rw [this] at hj
    cases hj
  · exfalso
    have : (Array.replicate ops.size false).getD i false = false := by
      by_cases h : i < ops.size <;> simp [h]
    rw [this] at hi
    cases hi
end
/-! Words for the operations' obligations. -/
section
variable {P : Program} {ops : Array Oper} {Q : Exit → Act → World → Prop} {R : World → World → Prop} {G : World → Prop} {V : Nat → Value → World → Prop} {a0 : Act}
theorem FrameAt.at {a : Act} {i : Nat} (h : FrameAt ops a0 a i) (k : Nat) (hk : ops.toList.all (fun o => o.dst != some k || o.after.toList.any (fun e => e.on == i && Region.binds .any e)) = true) : a.tmps.getD k undef = a0.tmps.getD k undef :=
  h.early k fun j o ho hd => by
    have h1 := List.all_eq_true.1 hk o (by simpa using Array.mem_of_getElem? ho)
    rw [hd] at h1
    have hz : ((some k : Option Tmp) != some k) = false := by simp
    rw [hz, Bool.false_or] at h1
    obtain ⟨e, he, h3⟩ := List.any_eq_true.1 h1
    rw [Bool.and_eq_true] at h3
    exact ⟨e, he, by simpa using h3.1, h3.2⟩
theorem FrameOk.at {a : Act} (h : FrameOk ops a0 a) (k : Nat) (hk : ops.toList.all (fun o => o.dst != some k) = true) : a.tmps.getD k undef = a0.tmps.getD k undef :=
  h.same k fun j hj => by
    unfold slotOf at hj
    cases ho : ops[j]? with
    | none => rw [ho] at hj; cases hj
    | some o =>
      rw [ho] at hj
      have := List.all_eq_true.1 hk o (by simpa using Array.mem_of_getElem? ho)
      simp [show o.dst = some k from hj] at this
theorem op_yields {i : Nat} {o : Oper} {a : Act} {w : World} (v : Value) (h : (execOp a.eval o).run P w = .ok (.value v) w) (hr : R w w) (hv : Hold R (V i (match o.dst with | some _ => v | none => undef)) w) :
    o.wp P a w (OpPost R V i o a w) Q := by
  unfold Oper.wp
  rw [h]
  exact ⟨hr, v, rfl, hv⟩
/-- An operation that makes memory. -/
theorem op_makes {i : Nat} {o : Oper} {a : Act} {w w' : World} (v : Value) (h : (execOp a.eval o).run P w = .ok (.value v) w') (hr : R w w') (hv : Hold R (V i (match o.dst with | some _ => v | none => undef)) w') :
    o.wp P a w (OpPost R V i o a w) Q := by
  unfold Oper.wp
  rw [h]
  exact ⟨hr, v, rfl, hv⟩
/-- A call. -/
theorem op_calls {i : Nat} {o : Oper} {a : Act} {w : World} {f : FuncId} {args : Array Value} (h : (execOp a.eval o).run P w = .ok (.enter f args) w)
    (hc : Calls P f args w fun e w' => ∃ v, e = .returned v ∧ R w w' ∧ Hold R (V i (match o.dst with | some _ => v | none => undef)) w') :
    o.wp P a w (OpPost R V i o a w) Q := by
  unfold Oper.wp
  rw [h]
  refine Calls.mono hc fun e w' hh => ?_
  obtain ⟨v, rfl, h1, h2⟩ := hh
  exact ⟨h1, v, rfl, h2⟩
theorem op_calls2 {i : Nat} {o : Oper} {a : Act} {w : World} {f : FuncId} {args : Array Value}
    (hc : Calls P f args w fun e w' => ∃ v, e = .returned v ∧ R w w' ∧ Hold R (V i (match o.dst with | some _ => v | none => undef)) w') (h : (execOp a.eval o).run P w = .ok (.enter f args) w) :
    o.wp P a w (OpPost R V i o a w) Q := op_calls h hc
theorem op_append {o : Oper} {a : Act} {w w' : World} {s x : Operand} {t : TypeId} {v u v' : Value} (ho : o.op = .call { callee := .builtin .append, args := #[s, x], argTypes := #[t, t] }) (hv : a.eval s = v) (hx : a.eval x = u)
    (hr : (Builtin.append_ #[t, t] o.type #[v, u]).run P w = .ok v' w') : (execOp a.eval o).run P w = .ok (.value v') w' := by
  simp only [execOp, ho, resolve, invoke, builtin, Sem.run_bind, Sem.run_pure, Result.andThen_ok, List.map_toArray, List.map_cons, List.map_nil, hv, hx, hr]
theorem yielded_of {a : Act} {j t : Nat} {b : Bool} (hj : slotOf ops j = some t) (h : a.tmps.getD t undef = .bool b) : yielded ops a.tmps j = some b := by
  unfold yielded slotOf at *
  rw [hj]
  simp only [Option.bind_some]
  cases hc : a.tmps[t]? with
  | none => simp [hc, undef] at h
  | some u => simp [hc] at h; rw [h]
theorem wanted_of {o : Oper} {a : Act} {j : Nat} {b want : Bool} (hg : o.guard = some (j, want)) (h : yielded ops a.tmps j = some b) : Region.wanted o (yielded ops a.tmps) = (b == want) := by
  unfold Region.wanted
  rw [hg]; simp only [h]
  cases b <;> cases want <;> rfl
theorem yielded_undef {a : Act} {j t : Nat} (hj : slotOf ops j = some t) (h : a.tmps.getD t undef = undef) : yielded ops a.tmps j = none := by
  unfold yielded slotOf at *
  rw [hj]
  simp only [Option.bind_some]
  cases hc : a.tmps[t]? with
  | none => rfl
  | some u => simp [hc] at h; rw [h]; rfl
theorem wanted_none {o : Oper} {a : Act} {j : Nat} {want : Bool} (hg : o.guard = some (j, want)) (h : yielded ops a.tmps j = none) : Region.wanted o (yielded ops a.tmps) = false := by
  unfold Region.wanted
  rw [hg]; simp only [h]
  rfl
end
end Go.Proofs.Ythbinnbnmckmfaa

namespace Go.Proofs.Ythbinnbnmckmfaa
open Go.ChangeShapes Go.WideShapes Go.ChangeAt Go.RowKit
set_option linter.unusedVariables false
set_option maxRecDepth 100000
@[go_sem] theorem eq_smp (a b c d : Int) (w : World) : (Op.equalIn 10000 30 (.agg #[.int .i64 a, .int .i64 b]) (.agg #[.int .i64 c, .int .i64 d])).run Try.prog w = .ok (a == c && b == d) w := by
  have u3 := Try.underlying3
  have a3 := Try.isAgg3
  have z3 := Try.sizeOf3
  have hS : Try.prog.underlying 30 = some (.struct (Try.prog.fieldsOf 30)) := by kernel_rfl
  have hp : Try.prog.stoodInHeld 30 = false := by kernel_rfl
  rw [show (10000 : Nat) = 9999 + 1 from rfl, run_equalIn_agg w 9999 30 _ _ hS hp]
  simp only [Program.fieldsOf, Try.underlying30]
  go_simp
  by_cases h1 : a = c <;> by_cases h2 : b = d <;> simp [h1, h2]
theorem take_eq_snoc2 {zs ys : List (Int × Int)} {k : Nat} (h1 : k < zs.length) (h2 : k < ys.length) (h : zs.take k = ys.take k) (he : zs[k] = ys[k]) : zs.take (k + 1) = ys.take (k + 1) := by
  rw [List.take_succ_eq_append_getElem h1, List.take_succ_eq_append_getElem h2, h, he]
theorem same_smp (A A2 : Option Addr) (n c n2 c2 B B2 : Nat) (zs ys : List (Int × Int)) (w : World) (h : Sees w B 2 A n (smps zs)) (h2 : Sees w B2 2 A2 n2 (smps ys)) (hn : n ≤ 9223372036854775807) (hn2 : n2 ≤ 9223372036854775807) :
    Calls Try.prog 19 #[.slice A n c, .slice A2 n2 c2] w fun e w' => e = .returned (.bool (decide (zs = ys))) ∧ ∃ m, w' = w.drewN m := by
  have H := Lib.hid h; clear h
  have H2 := Lib.hid h2; clear h2
  have HL := Lib.hid H.out.smp_len
  have HL2 := Lib.hid H2.out.smp_len
  by_cases hnn : n = n2
  · subst hnn
    go_enter Try.func19, Try.ntmps19
    go_wp2
    go_loopw [5] (fun i wr => ∃ k m : Nat, k ≤ n ∧ i = .int .i64 k ∧ wr = w.drewN m ∧ zs.take k = ys.take k) (fun i _ => n - (intOf i).toNat)
    case atStart => exact ⟨0, 0, Nat.zero_le _, rfl, rfl, rfl⟩
    case round =>
      obtain ⟨k, m, hk, rfl, rfl, ht⟩ := hrel
      have HT := Lib.hid ht; clear ht
      by_cases hlt : k < n
      · obtain ⟨ad, hkl, rfl, hc, hd⟩ := H.out.smp hlt
        obtain ⟨ad2, hkl2, rfl, hc2, hd2⟩ := H2.out.smp hlt
        have hq := Lib.hid (take_eq_snoc2 hkl hkl2 HT.out)
        have hne : Hid (zs[k] ≠ ys[k] → zs ≠ ys) := fun h e => h (by subst e; rfl)
        generalize zs[k] = x at *
        generalize ys[k] = y at *
        obtain ⟨x1, x2⟩ := x
        obtain ⟨y1, y2⟩ := y
        simp only at hc hd hc2 hd2
        by_cases hxy : x1 = y1 ∧ x2 = y2
        · obtain ⟨rfl, rfl⟩ := hxy
          have he1 : (x1 == x1) = true := by simp
          have he2 : (x2 == x2) = true := by simp
          have he3 : (x1 != x1) = false := by simp
          have he4 : (x2 != x2) = false := by simp
          go_wp2
          go_quiet (fail)
          go_wp2
          go_roundw
          case rel => exact ⟨k + 1, _, by omega, by go_num, rfl, hq.out (by simp)⟩
          case measure => simp [intOf]; omega
        · have hz := Lib.hid (hne.out (fun h => hxy (by injection h with h1 h2; exact ⟨h1, h2⟩)))
          by_cases h1 : x1 = y1
          · subst h1
            have he1 : (x1 == x1) = true := by simp
            have he2 : (x2 == y2) = false := by simpa using fun h => hxy ⟨rfl, h⟩
            clear hxy
            go_wp2
            go_quiet (fail)
            go_wp2
            go_ret
            exact ⟨ret_bool (decide_eq_false hz.out).symm, _, World.drewN_drewN _ _ _⟩
          · have he1 : (x1 == y1) = false := by simpa using h1
            clear hxy h1
            go_wp2
            go_quiet (fail)
            go_wp2
            go_ret
            exact ⟨ret_bool (decide_eq_false hz.out).symm, _, World.drewN_drewN _ _ _⟩
      · obtain rfl : k = n := by omega
        have he : zs = ys := by
          have := HT.out; rwa [List.take_of_length_le (by rw [HL.out]; omega), List.take_of_length_le (by rw [HL2.out]; omega)] at this
        have HE := Lib.hid (decide_eq_true he); clear he
        go_wp2
        go_ret
        exact ⟨ret_bool HE.out.symm, m, rfl⟩
  · have hz : zs ≠ ys := fun e => hnn (by rw [← HL.out, ← HL2.out, e])
    have hb : ((n : Int) == n2) = false := beq_eq_false_iff_ne.2 (by omega)
    have HE := Lib.hid (decide_eq_false hz); clear hz
    go_enter Try.func19, Try.ntmps19
    go_wp2
    go_ret
    exact ⟨ret_bool HE.out.symm, 0, rfl⟩

end Go.Proofs.Ythbinnbnmckmfaa

namespace Go.Proofs.Ythbinnbnmckmfaa
open Go.ChangeShapes Go.WideShapes Go.ChangeAt Go.RowKit
set_option linter.unusedVariables false
set_option maxRecDepth 100000
def samplesOf : Int → List Int → List (Int × Int)
  | _, [] => []
  | t, z :: zs => (t + nWithin z 1 12, nWithin (z.tdiv 12) (-4) 9) :: samplesOf (t + nWithin z 1 12) zs
def timeOf : Int → List Int → Int
  | t, [] => t
  | t, z :: zs => timeOf (t + nWithin z 1 12) zs
theorem samplesOf_snoc (t : Int) (zs : List Int) (z : Int) : samplesOf t (zs ++ [z]) = samplesOf t zs ++ [(timeOf t zs + nWithin z 1 12, nWithin (z.tdiv 12) (-4) 9)] := by
  induction zs generalizing t with
  | nil => rfl
  | cons y ys ih => simp only [List.cons_append, samplesOf, timeOf, ih]
theorem timeOf_snoc (t : Int) (zs : List Int) (z : Int) : timeOf t (zs ++ [z]) = timeOf t zs + nWithin z 1 12 := by
  induction zs generalizing t with
  | nil => rfl
  | cons y ys ih => simp only [List.cons_append, timeOf, ih]
theorem samplesOf_length (t : Int) (zs : List Int) : (samplesOf t zs).length = zs.length := by
  induction zs generalizing t with
  | nil => rfl
  | cons y ys ih => simp only [samplesOf, List.length_cons, ih]
theorem timeOf_in (t : Int) (zs : List Int) : t ≤ timeOf t zs ∧ timeOf t zs ≤ t + 12 * zs.length := by
  induction zs generalizing t with
  | nil => simp [timeOf]
  | cons y ys ih =>
    have h1 := nWithin_in y (lo := 1) (hi := 12) (by omega)
    have h2 := ih (t + nWithin y 1 12)
    simp only [timeOf, List.length_cons]
    omega
/-- Times rise, each behind a, none above b. -/
def Rises : Int → Int → List (Int × Int) → Prop
  | _, _, [] => True
  | a, b, x :: xs => a < x.1 ∧ x.1 ≤ b ∧ Rises x.1 b xs
theorem samplesOf_rises (t : Int) (zs : List Int) (b : Int) (hb : t + 12 * zs.length ≤ b) : Rises t b (samplesOf t zs) := by
  induction zs generalizing t with
  | nil => trivial
  | cons y ys ih =>
    have h1 := nWithin_in y (lo := 1) (hi := 12) (by omega)
    simp only [samplesOf, List.length_cons] at hb ⊢
    exact ⟨by simp only; omega, by simp only; omega, ih _ (by omega)⟩
theorem rises_get {a b : Int} {xs : List (Int × Int)} (h : Rises a b xs) (i : Nat) (hi : i < xs.length) : a < xs[i].1 ∧ xs[i].1 ≤ b := by
  induction xs generalizing a i with
  | nil => simp at hi
  | cons x xs ih =>
    obtain ⟨h1, h2, h3⟩ := h
    cases i with
    | zero => exact ⟨h1, h2⟩
    | succ i =>
      have := ih h3 i (by simpa using hi)
      simp only [List.getElem_cons_succ]
      omega
theorem rises_lt {a b : Int} {xs : List (Int × Int)} (h : Rises a b xs) (i j : Nat) (hi : i < j) (hj : j < xs.length) : xs[i].1 < xs[j].1 := by
  induction xs generalizing a i j with
  | nil => simp at hj
  | cons x xs ih =>
    obtain ⟨h1, h2, h3⟩ := h
    cases j with
    | zero => omega
    | succ j =>
      cases i with
      | zero =>
        simp only [List.getElem_cons_zero, List.getElem_cons_succ]
        exact (rises_get h3 j (by simpa using hj)).1
      | succ i =>
        simp only [List.getElem_cons_succ]
        exact ih h3 i j (by omega) (by simpa using hj)
/-- The place of a time among rising samples. -/
theorem samples_any (A : Option Addr) (n c : Nat) (zs : List Int) (w : World) (hl : Sees w w.heap.size 1 A n (ints zs)) (hz : ∀ z ∈ zs, I64 z) (hn : n ≤ 9223372036854775807) :
    Calls Try.prog 33 #[.slice A n c] w (OwnAns 30 2 (min n 20) (smps (samplesOf 0 (zs.take 20))) w) := by
  have H := Lib.hid hl; have HZ := Lib.hid hz
  have HL := Lib.hid hl.int_len
  clear hl hz
  obtain ⟨i0, hi, hz0, hz1, hz2⟩ := info_parts Try.infoSmp
  generalize hm : min n 20 = m
  have HM := Lib.hid hm; clear hm
  go_enter Try.func33, Try.ntmps33
  go_wp2_with fail
  go_loopw [3, 4, 5] (fun v tm j wr => ∃ k : Nat, k ≤ n ∧ k ≤ 20 ∧ j = .int .i64 k ∧ tm = .int .i64 (timeOf 0 (zs.take k)) ∧ wr.ownsRow w.heap.size 30 2 v k (smps (samplesOf 0 (zs.take k))) ∧ Below w.heap.size w wr) (fun _ _ j _ => n - (intOf j).toNat)
  case atStart => exact ⟨0, Nat.zero_le _, Nat.zero_le _, rfl, rfl, by simpa [smps, samplesOf] using World.ownsRow_nil _ _ _ _, Below.refl _ _⟩
  case round =>
    obtain ⟨k, hk, hk20, rfl, rfl, hown, hbel⟩ := hrel
    have hsz := hbel.size
    have HB := Lib.hid hbel; clear hbel
    by_cases hlt : k < n ∧ k < 20
    · obtain ⟨hlt, hlt20⟩ := hlt
      obtain ⟨ad, hkl, rfl, hc⟩ := (H.out.below HB.out).int hlt
      have hI := HZ.out zs[k] (List.getElem_mem _)
      have hT := timeOf_in 0 (zs.take k)
      have hlk : (zs.take k).length = k := by rw [List.length_take]; omega
      rw [hlk] at hT
      have HTK := Lib.hid (List.take_succ_eq_append_getElem hkl)
      have HSN := Lib.hid (samplesOf_snoc 0 (zs.take k) zs[k]); have HTN := Lib.hid (timeOf_snoc 0 (zs.take k) zs[k])
      have HEA : Hid (samplesOf 0 (zs.take (k + 1)) = samplesOf 0 (zs.take k) ++ [(timeOf 0 (zs.take k) + nWithin zs[k] 1 12, nWithin (zs[k].tdiv 12) (-4) 9)] ∧ timeOf 0 (zs.take (k + 1)) = timeOf 0 (zs.take k) + nWithin zs[k] 1 12) := ⟨by rw [HTK.out]; exact HSN.out, by rw [HTK.out]; exact HTN.out⟩
      clear HTK HSN HTN hlk
      have hq := tdiv_in (b := 12) hI (by omega)
      obtain ⟨hx1, hx2⟩ := nWithin_in zs[k] (lo := 1) (hi := 12) (by omega)
      generalize zs[k] = z at *
      generalize timeOf 0 (zs.take k) = t at *
      have HI := Lib.hid hI; have HQ := Lib.hid hq; clear hI
      obtain ⟨hq1, hq2⟩ := hq
      have HLO := Lib.hid hown.lt
      have HO := Lib.hid hown; clear hown
      go_wp2_with fail
      refine (within_any z 1 12 _ HI.out (by omega) (by omega) (by omega)).mono ?_; rintro e w' ⟨rfl, rfl⟩
      go_wp2_with fail
      refine (within_any (z.tdiv 12) (-4) 9 _ HQ.out (by omega) (by omega) (by omega)).mono ?_; rintro e w' ⟨rfl, rfl⟩
      go_wp2_with (at_builtin; refine wpList_append_own _ rfl _ _ 56 rfl w.heap.size 30 i0 (.agg #[.int .i64 0, .int .i64 0]) 2 16 Try.underlying56 hi hz0 hz1 hz2 rfl (by decide) _ _ _ rfl (HO.out.alloc _) ⟨wr.heap.size, 0, none⟩ 1 1 [.int .i64 (t + nWithin z 1 12), .int .i64 (nWithin (z.tdiv 12) (-4) 9)] rfl rfl ?c1 ?c2 ?c3 ?c4 ?c5 ?_)
      case c1 =>
        intro j u hj
        match j, hj with
        | 0, hj => simp at hj; subst hj; simp [Addr.add]
        | 1, hj => simp at hj; subst hj; simp [Addr.add]
      case c2 =>
        intro u hu
        simp at hu
        rcases hu with rfl | rfl <;> rfl
      case c3 => unfold maxLen; omega
      case c4 => omega
      case c5 => simp; omega
      intro v' w1 hown' hg _
      have hb := (HB.out.alloc hsz (.cells #[.int .i64 (t + nWithin z 1 12), .int .i64 (nWithin (z.tdiv 12) (-4) 9)] 30)).grown hg (by simp; omega) (fun g hg => (HLO.out g hg).1)
      have hown2 : w1.ownsRow w.heap.size 30 2 v' (k + 1) (smps (samplesOf 0 (zs.take (k + 1)))) := by rw [HEA.out.1, smps_append]; exact hown'
      have HO2 := Lib.hid hown2; have HB2 := Lib.hid hb; clear hown' hown2 hb hg
      go_wp2_with fail
      go_roundw
      case rel => exact ⟨k + 1, by omega, by omega, by go_num, by rw [HEA.out.2], HO2.out, HB2.out⟩
      case measure => simp [intOf]; omega
    · have hge : ¬ ((k : Int) < n ∧ (k : Int) < 20) := by omega
      obtain ⟨A2, c2, rfl, hc3, hc4⟩ := own_slice hown
      have hkm : k = m := by have := HM.out; omega
      have htk : zs.take k = zs.take 20 := by
        have hl := HL.out
        rcases Nat.lt_or_ge k 20 with h | h
        · rw [List.take_of_length_le (by omega), List.take_of_length_le (by omega)]
        · rw [show k = 20 by omega]
      have HO := Lib.hid hown; have HKM := Lib.hid hkm; have HTK := Lib.hid htk; clear hown hkm htk
      by_cases hlt : k < n
      all_goals
        go_wp2_with fail
        go_ret
        exact ownAns (A := A2) (c := c2) (by rw [← HKM.out, ← HTK.out]; exact HO.out) HB.out (by rw [← HKM.out]; rfl) (by rw [← HKM.out]; exact hc3) hc4
end Go.Proofs.Ythbinnbnmckmfaa

namespace Go.Proofs.Ythbinnbnmckmfaa
open Go.RowKit
set_option linter.unusedVariables false
/-- Rows of two types lie in two blocks. -/
theorem own_ne {w : World} {b b2 : Nat} {e e2 : TypeId} {s s2 n n2 : Nat} {v v2 : Value} {xs xs2 : List Value} (h : w.ownsRow b e s v n xs) (h2 : w.ownsRow b2 e2 s2 v2 n2 xs2) (he : e ≠ e2) : ∀ g, v.ownBlock = some g → v2.ownBlock ≠ some g := by
  intro g hg hg2
  rcases h.2 with ⟨rfl, _⟩ | ⟨g1, cap, cur, rfl, _, hh, _⟩
  · simp [Value.ownBlock] at hg
  · rcases h2.2 with ⟨rfl, _⟩ | ⟨g3, cap2, cur2, rfl, _, hh2, _⟩
    · simp [Value.ownBlock] at hg2
    · simp [Value.ownBlock] at hg hg2
      subst hg; subst hg2
      rw [hh] at hh2
      injection hh2 with hh2; injection hh2 with _ hh2
      exact he hh2
theorem own_grown {w w' : World} {base : Nat} {e : TypeId} {size n : Nat} {v : Value} {xs : List Value} {row : Option Nat} (h : w.ownsRow base e size v n xs) (hg : w.grownBy w' row) (hne : ∀ g, v.ownBlock = some g → row ≠ some g) : w'.ownsRow base e size v n xs := by
  refine ⟨h.1, ?_⟩
  rcases h.2 with h2 | ⟨g, cap, cur, rfl, hb, hh, rest⟩
  · exact .inl h2
  · refine .inr ⟨g, cap, cur, rfl, hb, ?_, rest⟩
    have : g < w.heap.size := (Array.getElem?_eq_some_iff.1 hh).1
    rw [hg.block g this (fun e => hne g (by simp [Value.ownBlock]) e.symm)]; exact hh
end Go.Proofs.Ythbinnbnmckmfaa
