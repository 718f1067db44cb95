/- Texts, merged in one. -/
import Derived.Test.YtlmakdclebbbkaaGreatBase6
import Derived.Test.YtlmakdclebbbkaaGreatBase
import Derived.WalkKit
import Derived.ProofKit
namespace Go.Proofs.YtlmakdclebbbkaaGreat
set_option linter.unusedVariables false
section
variable {α : Type} {key : α → List UInt8}
def ofT (key : α → List UInt8) (t : List UInt8) (l : List α) : List α := l.filter fun x => decide (key x = t)
theorem ofT_append (t : List UInt8) (a b : List α) : ofT key t (a ++ b) = ofT key t a ++ ofT key t b := List.filter_append _ _
theorem ofT_nil {t : List UInt8} {l : List α} (h : ∀ x ∈ l, key x ≠ t) : ofT key t l = [] := List.filter_eq_nil_iff.2 fun x hx => by simpa using h x hx
theorem lessT_ne {a b : List UInt8} (h : Op.bytesLess a b = true) : a ≠ b := fun e => by rw [e, less_irrefl] at h; cases h
theorem insK_ofT (t : List UInt8) (pre : List α) (x : α) (h : pre.Pairwise (LeK key)) : ofT key t (insK key pre x) = ofT key t (pre ++ [x]) := by
  obtain ⟨h1, _⟩ := insAt_mid key pre x pre.length (Nat.le_refl _)
  unfold insK
  obtain ⟨j, hj⟩ : ∃ j, insAtK key pre x pre.length = j := ⟨_, rfl⟩
  rw [hj] at h1 ⊢
  have e : pre = pre.take j ++ pre.drop j := (List.take_append_drop _ _).symm
  have hd : ∀ y ∈ pre.drop j, Op.bytesLess (key x) (key y) = true := fun y hy => by
    obtain ⟨q, hq, e2⟩ := List.getElem_of_mem hy
    rw [List.length_drop] at hq
    refine h1 (j + q) (by omega) (by omega) y ?_
    rw [← e2, List.getElem_drop, List.getElem?_eq_getElem]
  have e3 : ofT key t (pre ++ [x]) = ofT key t (pre.take j) ++ (ofT key t (pre.drop j) ++ ofT key t [x]) := by
    rw [ofT_append, ← List.append_assoc, ← ofT_append (key := key) t (pre.take j) (pre.drop j), List.take_append_drop]
  rw [e3, ofT_append, show x :: pre.drop j = [x] ++ pre.drop j from rfl, ofT_append]
  congr 1
  by_cases hx : key x = t
  · rw [ofT_nil (l := pre.drop j) fun y hy e4 => lessT_ne (hd y hy) (hx.trans e4.symm)]; simp
  · rw [ofT_nil (l := [x]) fun y hy => by rw [List.mem_singleton] at hy; subst hy; exact hx]; simp
theorem sortK_ofT (t : List UInt8) (l : List α) : ofT key t (sortK key l) = ofT key t l := by
  refine list_snoc_ind (P := fun l => ofT key t (sortK key l) = ofT key t l) rfl (fun l x ih => ?_) l
  rw [sortK_snoc, insK_ofT t _ x (sortK_sorted key l), ofT_append, ofT_append, ih]
theorem ofT_eq : ∀ {a b : List α}, a.Pairwise (LeK key) → b.Pairwise (LeK key) → (∀ t, ofT key t a = ofT key t b) → a = b
  | [], [], _, _, _ => rfl
  | [], y :: b, _, _, h => by have := h (key y); simp [ofT] at this
  | x :: a, [], _, _, h => by have := h (key x); simp [ofT] at this
  | x :: a, y :: b, ha, hb, h => by
    rw [List.pairwise_cons] at ha hb
    have hxb : ∃ z ∈ y :: b, key z = key x := by
      have h1 : x ∈ ofT key (key x) (y :: b) := by rw [← h (key x)]; simp [ofT]
      obtain ⟨h2, h3⟩ := List.mem_filter.1 h1
      exact ⟨x, h2, rfl⟩
    have hya : ∃ z ∈ x :: a, key z = key y := by
      have h1 : y ∈ ofT key (key y) (x :: a) := by rw [h (key y)]; simp [ofT]
      obtain ⟨h2, h3⟩ := List.mem_filter.1 h1
      exact ⟨y, h2, rfl⟩
    have e1 : LeK key x y := by
      obtain ⟨z, hz, e⟩ := hya
      rcases List.mem_cons.1 hz with rfl | hz
      · unfold LeK; rw [e]; exact less_irrefl _
      · have := ha.1 z hz; unfold LeK at this ⊢; rwa [e] at this
    have e2 : LeK key y x := by
      obtain ⟨z, hz, e⟩ := hxb
      rcases List.mem_cons.1 hz with rfl | hz
      · unfold LeK; rw [e]; exact less_irrefl _
      · have := hb.1 z hz; unfold LeK at this ⊢; rwa [e] at this
    have ek := leK_eq e1 e2
    have hxy : x = y := by
      have h1 := h (key x)
      simp only [ofT, List.filter_cons, decide_true, if_true, ek] at h1
      injection h1
    subst hxy
    congr 1
    refine ofT_eq ha.2 hb.2 fun t => ?_
    have h1 := h t
    simp only [ofT, List.filter_cons] at h1 ⊢
    split at h1
    · injection h1
    · exact h1
theorem sortK_uniq {a b : List α} (ha : a.Pairwise (LeK key)) (h : ∀ t, ofT key t a = ofT key t b) : a = sortK key b := ofT_eq ha (sortK_sorted key b) fun t => by rw [h t, sortK_ofT]
theorem sortK_congr {a b : List α} (h : ∀ t, ofT key t a = ofT key t b) : sortK key a = sortK key b := sortK_uniq (sortK_sorted key a) fun t => by rw [sortK_ofT, h t]
theorem sort_blocks (a b : List α) : sortK key (sortK key a ++ sortK key b) = sortK key (a ++ b) := sortK_congr fun t => by rw [ofT_append, ofT_append, sortK_ofT, sortK_ofT]
theorem ofT_swap {t : List UInt8} {a b : List α} (h : ∀ y ∈ a, ∀ x ∈ b, Op.bytesLess (key y) (key x) = true) : ofT key t (a ++ b) = ofT key t (b ++ a) := by
  rw [ofT_append, ofT_append]
  by_cases ha : ofT key t a = []
  · rw [ha]; simp
  · have hb : ofT key t b = [] := by
      refine ofT_nil fun x hx e => ?_
      obtain ⟨y, hy⟩ := List.exists_mem_of_ne_nil _ ha
      obtain ⟨h1, h2⟩ := List.mem_filter.1 hy
      exact lessT_ne (h y h1 x hx) ((of_decide_eq_true h2).trans e.symm)
    rw [hb]; simp
theorem less_le {a b : α} (h : Op.bytesLess (key a) (key b) = true) : LeK key a b := by
  rcases leK_total key a b with h2 | h2
  · exact h2
  · unfold LeK at h2; rw [h] at h2; cases h2
theorem sort_split {x1 x2 y1 y2 : List α} (h : ∀ y ∈ y1, ∀ x ∈ x2, Op.bytesLess (key y) (key x) = true) (h2 : ∀ x ∈ x1, ∀ y ∈ y2, LeK key x y) (hx : (x1 ++ x2).Pairwise (LeK key)) (hy : (y1 ++ y2).Pairwise (LeK key)) :
    sortK key ((x1 ++ x2) ++ (y1 ++ y2)) = sortK key (x1 ++ y1) ++ sortK key (x2 ++ y2) := by
  rw [List.pairwise_append] at hx hy
  refine (sortK_uniq ?_ fun t => ?_).symm
  · rw [List.pairwise_append]
    refine ⟨sortK_sorted key _, sortK_sorted key _, fun a ha b hb => ?_⟩
    rw [sortK_mem] at ha hb
    rcases List.mem_append.1 ha with ha | ha <;> rcases List.mem_append.1 hb with hb | hb
    · exact hx.2.2 a ha b hb
    · exact h2 a ha b hb
    · exact less_le (h a ha b hb)
    · exact hy.2.2 a ha b hb
  · have e := ofT_swap (t := t) h
    rw [ofT_append, ofT_append] at e
    rw [ofT_append, sortK_ofT, sortK_ofT]
    simp only [ofT_append, List.append_assoc]
    rw [← List.append_assoc (ofT key t y1), e]
    simp only [List.append_assoc]
theorem sort_one {x : α} {y1 y2 : List α} (h : ∀ y ∈ y1, Op.bytesLess (key y) (key x) = true) (h2 : ∀ y ∈ y2, LeK key x y) (hy : (y1 ++ y2).Pairwise (LeK key)) : sortK key ([x] ++ (y1 ++ y2)) = y1 ++ x :: y2 := by
  have hy' := hy
  rw [List.pairwise_append] at hy'
  refine (sortK_uniq ?_ fun t => ?_).symm
  · rw [List.pairwise_append]
    refine ⟨hy'.1, List.pairwise_cons.2 ⟨h2, hy'.2.1⟩, fun a ha b hb => ?_⟩
    rcases List.mem_cons.1 hb with rfl | hb
    · exact less_le (h a ha)
    · exact hy'.2.2 a ha b hb
  · have e := ofT_swap (t := t) (key := key) (a := y1) (b := [x]) fun y hy z hz => by rw [List.mem_singleton] at hz; subst hz; exact h y hy
    rw [show y1 ++ x :: y2 = (y1 ++ [x]) ++ y2 by simp, ofT_append, e]
    simp only [ofT_append, List.append_assoc]
theorem sort_last {y : α} {x1 x2 : List α} (h : ∀ x ∈ x2, Op.bytesLess (key y) (key x) = true) (h2 : ∀ x ∈ x1, LeK key x y) (hx : (x1 ++ x2).Pairwise (LeK key)) : sortK key ((x1 ++ x2) ++ [y]) = x1 ++ y :: x2 := by
  have hx' := hx
  rw [List.pairwise_append] at hx'
  refine (sortK_uniq ?_ fun t => ?_).symm
  · rw [List.pairwise_append]
    refine ⟨hx'.1, List.pairwise_cons.2 ⟨fun b hb => less_le (h b hb), hx'.2.1⟩, fun a ha b hb => ?_⟩
    rcases List.mem_cons.1 hb with rfl | hb
    · exact h2 a ha
    · exact hx'.2.2 a ha b hb
  · have e := ofT_swap (t := t) (key := key) (a := [y]) (b := x2) fun z hz x hx => by rw [List.mem_singleton] at hz; subst hz; exact h x hx
    rw [show x1 ++ y :: x2 = x1 ++ ([y] ++ x2) by simp, ofT_append, e]
    simp only [ofT_append, List.append_assoc]
end
end Go.Proofs.YtlmakdclebbbkaaGreat

namespace Go.Proofs.YtlmakdclebbbkaaGreat
open Go.ChangeShapes Go.WideShapes Go.ChangeAt Go.RowKit
set_option linter.unusedVariables false
set_option maxRecDepth 100000
def Holds (w0 : World) (S : List (Value × List Lbl)) (w : World) : Prop := (∀ p ∈ S, HasL w p.1 p.2) ∧ Below w0.heap.size w0 w
section
variable {w0 w w' : World} {S : List (Value × List Lbl)}
theorem Holds.below (h : Holds w0 S w) (hb : Below w.heap.size w w') : Holds w0 S w' := ⟨fun p hp => (h.1 p hp).below hb, h.2.trans (hb.mono h.2.size)⟩
theorem Holds.drewN (h : Holds w0 S w) (n : Nat) : Holds w0 S (w.drewN n) := ⟨fun p hp => (h.1 p hp).drewN n, below_drewN3 h.2 n⟩
theorem Holds.alloc (h : Holds w0 S w) (o : Obj) : Holds w0 S (w.alloc o) := h.below ((Below.refl _ _).alloc (Nat.le_refl _) o)
theorem Holds.add (h : Holds w0 S w) {v : Value} {l : List Lbl} (hv : HasL w v l) : Holds w0 ((v, l) :: S) w := ⟨fun p hp => by
  rcases List.mem_cons.1 hp with rfl | hp
  · exact hv
  · exact h.1 p hp, h.2⟩
theorem Holds.bel (h : Holds w0 S w) : Below w0.heap.size w0 w := h.2
end
theorem HasL.sees {w : World} {A : Option Addr} {n c : Nat} {l : List Lbl} (h : HasL w (.slice A n c) l) : Sees w w.heap.size 2 A n (lbls l) := h.slice.1
set_option maxHeartbeats 1000000 in
theorem get_any (A0 : Option Addr) (n c B : Nat) (l : List Lbl) (name : ByteArray) (w : World) (h : Sees w B 2 A0 n (lbls l)) (hB : B ≤ w.heap.size) (hn : n ≤ 9223372036854775807) :
    Calls Tryz.prog 156 #[.slice A0 n c, .string name] w fun e w' => e = .returned (.string (getF l name)) ∧ Below w.heap.size w w' := by
  have H := Lib.hid h
  have HL := Lib.hid h.lbl_len
  clear h
  go_enter Tryz.func156, Tryz.ntmps156
  go_wp2_with fail
  go_loopg [9] n (fun g x9 wr => ∃ k : Nat, k + g = n ∧ x9 = .int .i64 k ∧ Below w.heap.size w wr ∧ ∀ x ∈ l.take k, x.1 ≠ name)
  case atStart => exact ⟨0, by omega, rfl, Below.refl _ _, (fun x hx => by simp at hx)⟩
  case round =>
    obtain ⟨k, hkg, rfl, hbel, hno⟩ := hrel
    have HB := Lib.hid hbel; have HNO := Lib.hid hno
    have hws := hbel.size
    clear hbel hno
    cases gk with
    | zero =>
      obtain rfl : k = n := by omega
      have HE := Lib.hid (show getF l name = ⟨#[]⟩ from getF_none (fun x hx => HNO.out x (by rw [List.take_of_length_le (by rw [HL.out]; exact Nat.le_refl _)]; exact hx)))
      go_wp2_with fail
      go_ret
      exact ⟨by rw [HE.out]; rfl, HB.out⟩
    | succ g =>
      have hlt : k < n := by omega
      obtain ⟨ad, hkl, rfl, c0, c1⟩ := (H.out.below (HB.out.mono hB)).lbl hlt
      have hal := World.block_lt_of_cell? wr _ c0
      have HT := Lib.hid (List.take_succ_eq_append_getElem hkl)
      have HD := Lib.hid (show l = l.take k ++ l[k] :: l.drop (k + 1) by rw [← List.drop_eq_getElem_cons hkl, List.take_append_drop])
      generalize l[k] = p at *
      obtain ⟨a, b⟩ := p
      simp only at c0 c1
      have HBA := Lib.hid (HB.out.alloc hws (.cells #[.string a, .string b] 25))
      by_cases he : a = name
      · have t1 : (a.toList == name.toList) = true := by rw [he]; simp
        have HE := Lib.hid (show getF l name = b by
          unfold getF
          rw [HD.out, List.find?_append, List.find?_eq_none.2 (fun x hx => by simpa using HNO.out x hx)]
          simp [he])
        clear HD he
        go_wp2_with fail
        go_ret
        exact ⟨by rw [HE.out]; rfl, HBA.out⟩
      · have t1 : (a.toList == name.toList) = false := by rw [beq_eq_false_iff_ne]; exact fun h => he (ba_ext h)
        have HN : Hid (∀ x ∈ l.take (k + 1), x.1 ≠ name) := Lib.hid (fun x hx => by
          rw [HT.out, List.mem_append] at hx
          rcases hx with hx | hx
          · exact HNO.out x hx
          · simp only [List.mem_singleton] at hx; subst hx; exact he)
        clear HD he HT
        go_wp2_with fail
        go_roundg g
        case measure => omega
        case rel => exact ⟨k + 1, by omega, by go_num, HBA.out, HN.out⟩
end Go.Proofs.YtlmakdclebbbkaaGreat

namespace Go.Proofs.YtlmakdclebbbkaaGreat
open Go.ChangeShapes Go.WideShapes Go.ChangeAt Go.RowKit
set_option linter.unusedVariables false
set_option maxRecDepth 100000
abbrev Mtc := ByteArray × ByteArray × Int
def mtcs (l : List Mtc) : List Value := l.flatMap fun x => [.string x.1, .string x.2.1, .int .i64 x.2.2]
theorem mtcs_length (l : List Mtc) : (mtcs l).length = l.length * 3 := by
  induction l with
  | nil => rfl
  | cons x l ih => simp only [mtcs, List.flatMap_cons, List.length_append, List.length_cons, List.length_nil] at ih ⊢; omega
theorem mtcs_append (l m : List Mtc) : mtcs (l ++ m) = mtcs l ++ mtcs m := by simp [mtcs]
theorem mtcs_one (l : List Mtc) : ∀ u ∈ mtcs l, u.oneCell' = true := by
  intro u hu
  simp only [mtcs, List.mem_flatMap] at hu
  obtain ⟨x, _, hu⟩ := hu
  simp at hu
  rcases hu with rfl | rfl | rfl <;> rfl
theorem mtcs_get (l : List Mtc) (p : Nat) (h : p < l.length) : (mtcs l)[p * 3]? = some (.string l[p].1) ∧ (mtcs l)[p * 3 + 1]? = some (.string l[p].2.1) ∧ (mtcs l)[p * 3 + 2]? = some (.int .i64 l[p].2.2) := by
  have e : mtcs l = mtcs (l.take p) ++ (mtcs [l[p]] ++ mtcs (l.drop (p + 1))) := by
    rw [← mtcs_append, ← mtcs_append, List.singleton_append, ← List.drop_eq_getElem_cons h, List.take_append_drop]
  have hl : (mtcs (l.take p)).length = p * 3 := by rw [mtcs_length, List.length_take]; omega
  rw [e]
  refine ⟨?_, ?_, ?_⟩
  · rw [List.getElem?_append_right (by omega), hl, Nat.sub_self]; rfl
  · rw [List.getElem?_append_right (by omega), hl, show p * 3 + 1 - p * 3 = 1 by omega]; rfl
  · rw [List.getElem?_append_right (by omega), hl, show p * 3 + 2 - p * 3 = 2 by omega]; rfl
theorem Sees.mtc {w : World} {B : Nat} {A : Option Addr} {n : Nat} {l : List Mtc} (h : Sees w B 3 A n (mtcs l)) {k : Nat} (hk : k < n) :
    ∃ ad, ∃ hl : k < l.length, A = some ad ∧ w.cell? (ad.add (k * 3)) = some (.string l[k].1) ∧ w.cell? ⟨(ad.add (k * 3)).block, (ad.add (k * 3)).off + 1, none⟩ = some (.string l[k].2.1) ∧ w.cell? ⟨(ad.add (k * 3)).block, (ad.add (k * 3)).off + 2, none⟩ = some (.int .i64 l[k].2.2) := by
  have hl : k < l.length := by have := h.len; rw [mtcs_length] at this; omega
  obtain ⟨ad, e, _, hc⟩ := h.at_ (by omega)
  obtain ⟨h0, h1, h2⟩ := mtcs_get l k hl
  exact ⟨ad, hl, e, hc _ _ h0, by rw [add_spelt _ _ _ (by omega)]; exact hc _ _ h1, by rw [add_spelt _ _ _ (by omega)]; exact hc _ _ h2⟩
theorem Sees.mtc_len {w : World} {B : Nat} {A : Option Addr} {n : Nat} {l : List Mtc} (h : Sees w B 3 A n (mtcs l)) : l.length = n := by
  have := h.len; rw [mtcs_length] at this; omega
def signF (k : Int) : ByteArray := if k = 1 then ⟨#[61]⟩ else if k = 2 then ⟨#[33, 61]⟩ else if k = 3 then ⟨#[94, 61]⟩ else if k = 4 then ⟨#[33, 94]⟩ else ⟨#[]⟩
def holdsF (l : List Lbl) (x : Mtc) : Bool :=
  if x.2.2 = 1 then decide (getF l x.1 = x.2.1) else if x.2.2 = 2 then !decide (getF l x.1 = x.2.1)
  else if x.2.2 = 3 then Lib.hasPrefix (getF l x.1).data.toList x.2.1.data.toList else if x.2.2 = 4 then !Lib.hasPrefix (getF l x.1).data.toList x.2.1.data.toList else false
def allF (l : List Lbl) (ms : List Mtc) : Bool := ms.all (holdsF l)
theorem int_ne {a b : Int} (h : ¬ a = b) : (a == b) = false := by rw [beq_eq_false_iff_ne]; exact h
set_option maxHeartbeats 1000000 in
theorem sign_any (k : Int) (w : World) : Calls Tryz.prog 135 #[.int .i64 k] w fun e w' => e = .returned (.string (signF k)) ∧ w = w' := by
  by_cases h1 : k = 1
  · subst h1; go_enter Tryz.func135, Tryz.ntmps135
    go_wp2_with fail
    go_ret
    exact ⟨rfl, rfl⟩
  · by_cases h2 : k = 2
    · subst h2; go_enter Tryz.func135, Tryz.ntmps135
      go_wp2_with fail
      go_ret
      exact ⟨rfl, rfl⟩
    · by_cases h3 : k = 3
      · subst h3; go_enter Tryz.func135, Tryz.ntmps135
        go_wp2_with fail
        go_ret
        exact ⟨rfl, rfl⟩
      · by_cases h4 : k = 4
        · subst h4; go_enter Tryz.func135, Tryz.ntmps135
          go_wp2_with fail
          go_ret
          exact ⟨rfl, rfl⟩
        · have HS := Lib.hid (show signF k = ⟨#[]⟩ by unfold signF; rw [if_neg h1, if_neg h2, if_neg h3, if_neg h4])
          have t1 := int_ne h1; have t2 := int_ne h2; have t3 := int_ne h3; have t4 := int_ne h4
          go_enter Tryz.func135, Tryz.ntmps135
          go_wp2_with fail
          go_ret
          exact ⟨by rw [HS.out]; rfl, rfl⟩
set_option maxHeartbeats 2000000 in
theorem holds_any (A0 : Option Addr) (n c B : Nat) (l : List Lbl) (nm vl : ByteArray) (k : Int) (w : World) (h : Sees w B 2 A0 n (lbls l)) (hB : B ≤ w.heap.size) (hn : n ≤ 9223372036854775807) :
    Calls Tryz.prog 119 #[.slice A0 n c, .agg #[.string nm, .string vl, .int .i64 k]] w fun e w' => e = .returned (.bool (holdsF l (nm, vl, k))) ∧ Below w.heap.size w w' := by
  have HK0 : Hid (Blk (w.alloc (.cells #[.string nm, .string vl, .int .i64 k] 32)) w.heap.size 32 [.string nm, .string vl, .int .i64 k]) := Lib.hid (Blk.mk (heap_alloc_new w _))
  have HB0 := Lib.hid ((Below.refl w.heap.size w).alloc (Nat.le_refl _) (.cells #[.string nm, .string vl, .int .i64 k] 32))
  have HG := Lib.hid (get_any A0 n c B l nm (w.alloc (.cells #[.string nm, .string vl, .int .i64 k] 32)) (h.alloc hB _) (by simp; omega) hn)
  clear h
  have HF : Hid (holdsF l (nm, vl, k) = if k = 1 then decide (getF l nm = vl) else if k = 2 then !decide (getF l nm = vl)
      else if k = 3 then Lib.hasPrefix (getF l nm).data.toList vl.data.toList else if k = 4 then !Lib.hasPrefix (getF l nm).data.toList vl.data.toList else false) := Lib.hid rfl
  generalize holdsF l (nm, vl, k) = r at *
  generalize getF l nm = v at *
  go_enter Tryz.func119, Tryz.ntmps119
  go_wp2_with fail
  (with_reducible refine HG.out.mono ?_); rintro e w1 ⟨rfl, hb⟩
  have HK1 := Lib.hid (HK0.out.below hb HK0.out.lt)
  have HB1 := Lib.hid (HB0.out.trans (hb.mono (by simp)))
  have e1 := HK1.out.cell 1
  have e2 := HK1.out.cell 2
  simp only [List.getElem?_cons_zero, List.getElem?_cons_succ] at e1 e2
  clear hb HK0 HB0 HG HK1
  by_cases h1 : k = 1
  · subst h1
    by_cases hv : v = vl
    · have t1 : (v.toList == vl.toList) = true := by rw [hv]; simp
      have HR := Lib.hid (show r = true by rw [HF.out, if_pos rfl, decide_eq_true hv])
      clear HF hv
      go_wp2_with fail
      go_ret
      exact ⟨by rw [HR.out]; rfl, HB1.out⟩
    · have t1 : (v.toList == vl.toList) = false := by rw [beq_eq_false_iff_ne]; exact fun h => hv (ba_ext h)
      have HR := Lib.hid (show r = false by rw [HF.out, if_pos rfl, decide_eq_false hv])
      clear HF hv
      go_wp2_with fail
      go_ret
      exact ⟨by rw [HR.out]; rfl, HB1.out⟩
  · by_cases h2 : k = 2
    · subst h2
      by_cases hv : v = vl
      · have t1 : (v.toList == vl.toList) = true := by rw [hv]; simp
        have HR := Lib.hid (show r = false by rw [HF.out, if_neg h1, if_pos rfl, decide_eq_true hv]; rfl)
        clear HF hv
        go_wp2_with fail
        go_ret
        exact ⟨by rw [HR.out]; rfl, HB1.out⟩
      · have t1 : (v.toList == vl.toList) = false := by rw [beq_eq_false_iff_ne]; exact fun h => hv (ba_ext h)
        have HR := Lib.hid (show r = true by rw [HF.out, if_neg h1, if_pos rfl, decide_eq_false hv]; rfl)
        clear HF hv
        go_wp2_with fail
        go_ret
        exact ⟨by rw [HR.out]; rfl, HB1.out⟩
    · have HP := Lib.hid (fun W => Tryz.strings_HasPrefix v vl W)
      by_cases h3 : k = 3
      · subst h3
        have HR := Lib.hid (show r = Lib.hasPrefix v.data.toList vl.data.toList by rw [HF.out, if_neg h1, if_neg h2, if_pos rfl])
        generalize Lib.hasPrefix v.data.toList vl.data.toList = q at *
        clear HF
        go_wp2_with fail
        (with_reducible refine (HP.out _).mono ?_); rintro e w' ⟨rfl, rfl⟩
        go_wp2_with fail
        go_ret
        exact ⟨by rw [HR.out]; rfl, HB1.out⟩
      · by_cases h4 : k = 4
        · subst h4
          have HR := Lib.hid (show r = !Lib.hasPrefix v.data.toList vl.data.toList by rw [HF.out, if_neg h1, if_neg h2, if_neg h3, if_pos rfl])
          generalize Lib.hasPrefix v.data.toList vl.data.toList = q at *
          clear HF
          go_wp2_with fail
          (with_reducible refine (HP.out _).mono ?_); rintro e w' ⟨rfl, rfl⟩
          go_wp2_with fail
          go_ret
          exact ⟨by rw [HR.out]; rfl, HB1.out⟩
        · have t1 := int_ne h1; have t2 := int_ne h2; have t3 := int_ne h3; have t4 := int_ne h4
          have HR := Lib.hid (show r = false by rw [HF.out, if_neg h1, if_neg h2, if_neg h3, if_neg h4])
          clear HF HP
          go_wp2_with fail
          go_ret
          exact ⟨by rw [HR.out]; rfl, HB1.out⟩
set_option maxHeartbeats 2000000 in
theorem all_any (A0 : Option Addr) (n c B : Nat) (l : List Lbl) (A2 : Option Addr) (n2 c2 B2 : Nat) (ms : List Mtc) (w : World) (h : Sees w B 2 A0 n (lbls l)) (hB : B ≤ w.heap.size) (hn : n ≤ 9223372036854775807) (h2 : Sees w B2 3 A2 n2 (mtcs ms)) (hB2 : B2 ≤ w.heap.size) (hn2 : n2 ≤ 9223372036854775807) :
    Calls Tryz.prog 71 #[.slice A0 n c, .slice A2 n2 c2] w fun e w' => e = .returned (.bool (allF l ms)) ∧ Below w.heap.size w w' := by
  have H := Lib.hid h; have H2 := Lib.hid h2
  have HL := Lib.hid h2.mtc_len
  clear h h2
  go_enter Tryz.func71, Tryz.ntmps71
  go_wp2_with fail
  go_loopg [9] n2 (fun g x9 wr => ∃ k : Nat, k + g = n2 ∧ x9 = .int .i64 k ∧ Below w.heap.size w wr ∧ ∀ x ∈ ms.take k, holdsF l x = true)
  case atStart => exact ⟨0, by omega, rfl, Below.refl _ _, (fun x hx => by simp at hx)⟩
  case round =>
    obtain ⟨k, hkg, rfl, hbel, hno⟩ := hrel
    have HB := Lib.hid hbel; have HNO := Lib.hid hno
    have hws := hbel.size
    clear hbel hno
    cases gk with
    | zero =>
      obtain rfl : k = n2 := by omega
      have HE := Lib.hid (show allF l ms = true from List.all_eq_true.2 (fun x hx => HNO.out x (by rw [List.take_of_length_le (by rw [HL.out]; exact Nat.le_refl _)]; exact hx)))
      go_wp2_with fail
      go_ret
      exact ⟨by rw [HE.out]; rfl, HB.out⟩
    | succ g =>
      have hlt : k < n2 := by omega
      obtain ⟨ad, hkl, rfl, c0, c1, c2⟩ := (H2.out.below (HB.out.mono hB2)).mtc hlt
      have hal := World.block_lt_of_cell? wr _ c0
      have HT := Lib.hid (List.take_succ_eq_append_getElem hkl)
      have HM := Lib.hid (List.getElem_mem hkl)
      generalize ms[k] = p at *
      obtain ⟨a, b, kd⟩ := p
      simp only at c0 c1 c2
      have HBA := Lib.hid (HB.out.alloc hws (.cells #[.string a, .string b, .int .i64 kd] 32))
      have HO := Lib.hid (holds_any A0 n c B l a b kd (wr.alloc (.cells #[.string a, .string b, .int .i64 kd] 32)) (H.out.below (HBA.out.mono hB)) (Nat.le_trans hB HBA.out.size) hn)
      have HR : Hid (holdsF l (a, b, kd) = false → allF l ms = false) := Lib.hid (fun h => by
        rw [allF, List.all_eq_false]; exact ⟨_, HM.out, by rw [h]; simp⟩)
      have HN : Hid (holdsF l (a, b, kd) = true → ∀ x ∈ ms.take (k + 1), holdsF l x = true) := Lib.hid (fun h x hx => by
        rw [HT.out] at hx
        rcases List.mem_append.1 hx with hx | hx
        · exact HNO.out x hx
        · rw [List.mem_singleton] at hx; rw [hx]; exact h)
      clear HT HM
      generalize holdsF l (a, b, kd) = r at *
      cases r with
      | false =>
        have HE := Lib.hid (HR.out rfl)
        clear HR HN
        go_wp2_with fail
        (with_reducible refine HO.out.mono ?_); rintro e w1 ⟨rfl, hb⟩
        have HB1 := Lib.hid (HBA.out.trans (hb.mono HBA.out.size))
        clear hb
        go_wp2_with fail
        go_ret
        exact ⟨by rw [HE.out]; rfl, HB1.out⟩
      | true =>
        have HN1 := Lib.hid (HN.out rfl)
        clear HR HN
        go_wp2_with fail
        (with_reducible refine HO.out.mono ?_); rintro e w1 ⟨rfl, hb⟩
        have HB1 := Lib.hid (HBA.out.trans (hb.mono HBA.out.size))
        clear hb
        go_wp2_with fail
        go_roundg g
        case measure => omega
        case rel => exact ⟨k + 1, by omega, by go_num, HB1.out, HN1.out⟩
end Go.Proofs.YtlmakdclebbbkaaGreat

namespace Go.Proofs.YtlmakdclebbbkaaGreat
open Go.RowKit
set_option linter.unusedVariables false
def smps (l : List (Int × Int)) : List Value := l.flatMap fun x => [.int .i64 x.1, .int .i64 x.2]
theorem smps_length (l : List (Int × Int)) : (smps l).length = l.length * 2 := by
  induction l with
  | nil => rfl
  | cons x l ih => simp only [smps, List.flatMap_cons, List.length_append, List.length_cons, List.length_nil] at ih ⊢; omega
theorem smps_append (l m : List (Int × Int)) : smps (l ++ m) = smps l ++ smps m := by simp [smps]
theorem smps_one (l : List (Int × Int)) : ∀ u ∈ smps l, u.oneCell' = true := by
  intro u hu
  simp only [smps, List.mem_flatMap] at hu
  obtain ⟨x, _, hu⟩ := hu
  simp at hu
  rcases hu with rfl | rfl <;> rfl
theorem smps_get (l : List (Int × Int)) (p : Nat) (h : p < l.length) : (smps l)[p * 2]? = some (.int .i64 l[p].1) ∧ (smps l)[p * 2 + 1]? = some (.int .i64 l[p].2) := by
  have e : smps l = smps (l.take p) ++ (smps [l[p]] ++ smps (l.drop (p + 1))) := by
    rw [← smps_append, ← smps_append, List.singleton_append, ← List.drop_eq_getElem_cons h, List.take_append_drop]
  have hl : (smps (l.take p)).length = p * 2 := by rw [smps_length, List.length_take]; omega
  rw [e]
  refine ⟨?_, ?_⟩
  · rw [List.getElem?_append_right (by omega), hl, Nat.sub_self]; rfl
  · rw [List.getElem?_append_right (by omega), hl, show p * 2 + 1 - p * 2 = 1 by omega]; rfl
theorem Sees.smp {w : World} {B : Nat} {A : Option Addr} {n : Nat} {l : List (Int × Int)} (h : Sees w B 2 A n (smps l)) {k : Nat} (hk : k < n) :
    ∃ ad, ∃ hl : k < l.length, A = some ad ∧ w.cell? (ad.add (k * 2)) = some (.int .i64 l[k].1) ∧ w.cell? ⟨(ad.add (k * 2)).block, (ad.add (k * 2)).off + 1, none⟩ = some (.int .i64 l[k].2) := by
  have hl : k < l.length := by have := h.len; rw [smps_length] at this; omega
  obtain ⟨ad, e, _, hc⟩ := h.at_ (by omega)
  obtain ⟨h0, h1⟩ := smps_get l k hl
  exact ⟨ad, hl, e, hc _ _ h0, by rw [add_spelt _ _ _ (by omega)]; exact hc _ _ h1⟩
theorem Sees.smp_len {w : World} {B : Nat} {A : Option Addr} {n : Nat} {l : List (Int × Int)} (h : Sees w B 2 A n (smps l)) : l.length = n := by
  have := h.len; rw [smps_length] at this; omega
end Go.Proofs.YtlmakdclebbbkaaGreat
