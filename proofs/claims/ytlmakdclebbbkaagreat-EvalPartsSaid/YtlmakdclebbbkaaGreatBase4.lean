/- Texts, merged in one. -/
import Derived.Test.YtlmakdclebbbkaaGreatBase3
import Derived.Test.YtlmakdclebbbkaaGreatBase
import Derived.Deep.QuietTactic
import Derived.BigQuiet
import Derived.Lib.PathFns
import Derived.Lib.IndexLaws
import Derived.Laws.IdiomStrings
import Derived.Laws.BytesArg
import Derived.Deep.CutBlock
namespace Go.Proofs.YtlmakdclebbbkaaGreat
open Go.ChangeShapes Go.WideShapes Go.ChangeAt Go.RowKit
set_option linter.unusedVariables false
set_option maxRecDepth 100000
def lblL (x : ByteArray × ByteArray) : List UInt8 := x.1.data.toList ++ 61 :: quoteL x.2.data.toList
def joinL : List (ByteArray × ByteArray) → List UInt8
  | [] => []
  | x :: l => lblL x ++ (if l.isEmpty then [] else 44 :: joinL l)
theorem joinL_snoc (l : List (ByteArray × ByteArray)) (x : ByteArray × ByteArray) : joinL (l ++ [x]) = joinL l ++ (if l.isEmpty then lblL x else 44 :: lblL x) := by
  induction l with
  | nil => simp [joinL]
  | cons y l ih =>
    rw [List.cons_append, joinL, joinL, ih]
    cases l <;> simp [joinL]
theorem lblL_length_le (x : ByteArray × ByteArray) (h1 : x.1.size ≤ 24) (h2 : x.2.size ≤ 24) : (lblL x).length ≤ 75 := by
  have := quoteL_length_le x.2.data.toList
  have e1 : x.1.data.toList.length = x.1.size := by simp
  have e2 : x.2.data.toList.length = x.2.size := by simp
  rw [lblL, List.length_append, List.length_cons]; omega
theorem joinL_length_le (l : List (ByteArray × ByteArray)) (h : ∀ x ∈ l, x.1.size ≤ 24 ∧ x.2.size ≤ 24) : (joinL l).length ≤ 76 * l.length := by
  induction l with
  | nil => simp [joinL]
  | cons x l ih =>
    have h1 := lblL_length_le x (h x List.mem_cons_self).1 (h x List.mem_cons_self).2
    have h2 := ih fun y hy => h y (List.mem_cons_of_mem _ hy)
    rw [joinL, List.length_append, List.length_cons]
    split
    · simp; omega
    · rw [List.length_cons]; omega
def printL (l : List (ByteArray × ByteArray)) : List UInt8 := if rightS l then 123 :: (joinL l ++ [125]) else []
theorem wordF_size {s : ByteArray} (h : wordF s = true) : 1 ≤ s.size ∧ s.size ≤ 24 := by simp [wordF] at h; omega
theorem lblOk_size {x : ByteArray × ByteArray} (h : lblOk x = true) : x.1.size ≤ 24 ∧ x.2.size ≤ 24 ∧ 1 ≤ x.1.size ∧ 1 ≤ x.2.size := by
  simp [lblOk] at h
  have := wordF_size h.1.1
  omega
theorem rightK_at {l : List (ByteArray × ByteArray)} : ∀ {n : Nat}, rightK l n = true → ∀ k, k < n → lblOk (lblAt l k) = true ∧ riseAt l k = true
  | 0, _, k, hk => absurd hk (by omega)
  | n + 1, h, k, hk => by
    simp only [rightK, Bool.and_eq_true] at h
    rcases Nat.lt_or_ge k n with h' | h'
    · exact rightK_at (n := n) (by first | exact h.1 | exact h.1.1) k h'
    · obtain rfl : k = n := by omega
      exact ⟨by first | exact h.2.1 | exact h.1.2, by first | exact h.2.2 | exact h.2⟩
theorem rightS_len {l : List (ByteArray × ByteArray)} (h : rightS l = true) : l.length ≤ 6 := by simp [rightS] at h; exact h.1
theorem rightS_at {l : List (ByteArray × ByteArray)} (h : rightS l = true) {k : Nat} (hk : k < l.length) : lblOk l[k] = true ∧ riseAt l k = true := by
  have h2 : rightK l l.length = true := by simp [rightS] at h; exact h.2
  have := rightK_at h2 k hk
  rwa [lblAt_get hk] at this
theorem rightS_sizes {l : List (ByteArray × ByteArray)} (h : rightS l = true) : ∀ x ∈ l, x.1.size ≤ 24 ∧ x.2.size ≤ 24 := by
  intro x hx
  obtain ⟨k, hk, rfl⟩ := List.getElem_of_mem hx
  have := lblOk_size (rightS_at h hk).1
  exact ⟨this.1, this.2.1⟩
theorem BldKept.blk {B b : Nat} {w w' : World} (h : BldKept B b w w') {x : Nat} {t : TypeId} {cs : List Value} (hx : Blk w x t cs) (hb : x ≠ b) (ht : t ≠ 5) : Blk w' x t cs :=
  h.2 x _ hx (fun e => hb (by injection e)) (by intro c fz e; injection e with _ e _; exact ht e)
theorem take_empty {l : List (ByteArray × ByteArray)} {k : Nat} (h : k < l.length) : (l.take k).isEmpty = decide (k = 0) := by
  cases k with
  | zero => simp
  | succ k => cases l with
    | nil => simp at h
    | cons x l => simp
structure PrintAt (w0 : World) (bb xb : Nat) (a b : ByteArray) (l : List UInt8) (w : World) : Prop where
  bld : BldAt w bb bb (Lib.byteCells l)
  box : Blk w xb 25 [.string a, .string b]
  bel : Below w0.heap.size w0 w
  big : bb + 1 ≤ w.heap.size
  ne : xb ≠ bb
theorem PrintAt.kept {w0 w w' : World} {bb xb : Nat} {a b : ByteArray} {l l' : List UInt8} (h : PrintAt w0 bb xb a b l w) (h0 : w0.heap.size ≤ bb) (hb : BldAt w' bb bb (Lib.byteCells l')) (hk : BldKept bb bb w w') : PrintAt w0 bb xb a b l' w' :=
  ⟨hb, hk.blk h.box h.ne (by decide), h.bel.trans (hk.1.mono h0), Nat.le_trans h.big hk.1.size, h.ne⟩
theorem PrintAt.below {w0 w w' : World} {bb xb : Nat} {a b : ByteArray} {l : List UInt8} (h : PrintAt w0 bb xb a b l w) (hb : Below w.heap.size w w') : PrintAt w0 bb xb a b l w' :=
  ⟨h.bld.below hb, h.box.below hb h.box.lt, h.bel.trans (hb.mono h.bel.size), Nat.le_trans h.big hb.size, h.ne⟩
theorem PrintAt.cells {w0 w : World} {bb xb : Nat} {a b : ByteArray} {l : List UInt8} (h : PrintAt w0 bb xb a b l w) : w.cell? ⟨xb, 0, none⟩ = some (.string a) ∧ w.cell? ⟨xb, 1, none⟩ = some (.string b) := by
  have e0 := h.box.cell 0
  have e1 := h.box.cell 1
  simp only [List.getElem?_cons_zero, List.getElem?_cons_succ] at e0 e1
  exact ⟨e0, e1⟩
theorem BldAt.alloc {w : World} {B b : Nat} {l : List Value} (h : BldAt w B b l) (o : Obj) : BldAt (w.alloc o) B b l := Lib.BuilderAtF.alloc h o
set_option maxHeartbeats 4000000 in
theorem print_any (A : Option Addr) (n c : Nat) (l : List (ByteArray × ByteArray)) (B : Nat) (w : World) (h : Sees w B 2 A n (lbls l)) (hB : B ≤ w.heap.size) (hn : n ≤ 9223372036854775807) :
    Calls Tryz.prog 29 #[.slice A n c] w fun e w' => e = .returned (.string ⟨(printL l).toArray⟩) ∧ Below w.heap.size w w' := by
  have H := Lib.hid h
  have HL := Lib.hid h.lbl_len
  have HR := Lib.hid (rightSet_any A n c l B w h hB hn)
  clear h
  have HP : Hid (printL l = if rightS l then 123 :: (joinL l ++ [125]) else []) := Lib.hid rfl
  have HSZ := Lib.hid (@rightS_sizes l)
  have HLE := Lib.hid (@rightS_len l)
  obtain ⟨pr, hpr⟩ : ∃ pr, printL l = pr := ⟨_, rfl⟩
  rw [hpr] at HP ⊢
  obtain ⟨r, hr⟩ : ∃ r, rightS l = r := ⟨_, rfl⟩
  rw [hr] at HP HR HSZ HLE
  clear hpr hr
  cases r with
  | false =>
    have HQ : Hid (pr = []) := Lib.hid (by rw [HP.out]; rfl)
    clear HP
    go_enter Tryz.func29, Tryz.ntmps29
    go_wp2_with fail
    refine HR.out.mono ?_; rintro e w1 ⟨rfl, hb⟩
    have HB := Lib.hid hb; clear hb
    go_wp2_with fail
    go_ret
    exact ⟨by rw [HQ.out]; rfl, HB.out⟩
  | true =>
    have HQ : Hid (pr = 123 :: joinL l ++ [125]) := Lib.hid (by rw [HP.out]; rfl)
    have hs := HSZ.out rfl
    have hl6 := HLE.out rfl
    have HS := Lib.hid hs
    have hn6 : n ≤ 6 := by have := HL.out; omega
    clear HP HSZ HLE hs
    go_enter Tryz.func29, Tryz.ntmps29
    go_wp2_with fail
    refine HR.out.mono ?_; rintro e w1 ⟨rfl, hb⟩
    have hs1 := hb.size
    have HN := Lib.hid (bld_new w1)
    have HB := Lib.hid (hb.alloc hs1 (.cells #[.pointer none, .slice none 0 0] 130))
    clear hb HR
    go_wp2_with fail
    refine (bByteU w1.heap.size w1.heap.size [] 123 123 rfl _ HN.out (by simp) (by simp)).mono ?_
    rintro e w2 ⟨rfl, hbl, hk⟩
    have hs2 : w1.heap.size + 1 ≤ w2.heap.size := by have h := hk.1.size; simp at h; omega
    have HBL := Lib.hid hbl
    have HB2 := Lib.hid (HB.out.trans (hk.1.mono hs1))
    clear hbl hk HN HB
    obtain ⟨bb, hbb⟩ : ∃ bb, w1.heap.size = bb := ⟨_, rfl⟩
    rw [hbb] at HBL hs2 hs1
    rw [show (⟨w1.heap.size, 0, none⟩ : Addr) = ⟨bb, 0, none⟩ by rw [hbb]]
    clear hbb
    go_wp2_with fail
    go_loopg [12] n (fun g x12 wr => ∃ k : Nat, k + g = n ∧ x12 = .int .i64 k ∧ BldAt wr bb bb (Lib.byteCells (123 :: joinL (l.take k))) ∧ Below w.heap.size w wr ∧ bb + 1 ≤ wr.heap.size)
    case atStart => exact ⟨0, by omega, rfl, HBL.out, HB2.out, hs2⟩
    case round =>
      obtain ⟨k, hkg, rfl, hbl, hbel, hbig⟩ := hrel
      have HBL := Lib.hid hbl; have HB := Lib.hid hbel
      have hws := hbel.size
      have hjl : (123 :: joinL (l.take k)).length ≤ 1 + 76 * k := by
        have h1 := joinL_length_le (l.take k) (fun x hx => HS.out x (List.mem_of_mem_take hx))
        have h2 : (l.take k).length ≤ k := List.length_take_le _ _
        have h3 : 76 * (l.take k).length ≤ 76 * k := Nat.mul_le_mul_left _ h2
        rw [List.length_cons]; omega
      clear hbl hbel HB2
      cases gk with
      | zero =>
        obtain rfl : k = n := by omega
        have HQ2 := Lib.hid (show 123 :: joinL (l.take k) ++ [125] = pr by rw [HQ.out, List.take_of_length_le (by rw [HL.out]; exact Nat.le_refl _)])
        go_wp2_with fail
        refine (bByteU bb bb _ 125 125 rfl _ HBL.out.is (by omega) (by omega)).mono ?_
        rintro e w3 ⟨rfl, hbl, hk⟩
        rw [HQ2.out] at hbl
        have hs3 := hk.1.size
        have HBL3 := Lib.hid hbl; have HB3 := Lib.hid (HB.out.trans (hk.1.mono hs1))
        clear hbl hk HBL HB HQ2
        go_wp2_with fail
        refine (bTold bb bb _ _ HBL3.out (by omega)).mono ?_
        rintro e w4 ⟨rfl, hb4⟩
        have HB4 := Lib.hid (HB3.out.trans (hb4.mono hs1))
        clear hb4
        go_wp2_with fail
        go_ret
        exact ⟨rfl, HB4.out⟩
      | succ g =>
        have hlt : k < n := by omega
        obtain ⟨ad, hkl, rfl, c0, c1⟩ := (H.out.below (HB.out.mono hB)).lbl hlt
        have hal := World.block_lt_of_cell? wr _ c0
        have hz := HS.out l[k] (List.getElem_mem _)
        have HNXT := Lib.hid (show joinL (l.take (k + 1)) = joinL (l.take k) ++ (if (l.take k).isEmpty then lblL l[k] else 44 :: lblL l[k]) by rw [List.take_succ_eq_append_getElem hkl, joinL_snoc])
        have HEM := Lib.hid (take_empty hkl)
        generalize l[k] = p at *
        obtain ⟨a, b⟩ := p
        simp only at c0 c1 hz
        obtain ⟨hz1, hz2⟩ := hz
        obtain ⟨xb, hxb⟩ : ∃ xb, wr.heap.size = xb := ⟨_, rfl⟩
        have HPA : Hid (PrintAt w bb xb a b (123 :: joinL (l.take k)) (wr.alloc (.cells #[.string a, .string b] 25))) := Lib.hid ⟨HBL.out.alloc _, by rw [← hxb]; exact Blk.mk (heap_alloc_new wr _), HB.out.alloc hws _, by simp; omega, by omega⟩
        have HQU := Lib.hid (fun W => lquote_any b W (by omega))
        have hql : (quoteL b.data.toList).length ≤ 50 := by
          have h1 := quoteL_length_le b.data.toList
          have h2 : b.data.toList.length = b.size := by simp
          omega
        clear HBL HB
        obtain ⟨old, hold⟩ : ∃ old, 123 :: joinL (l.take k) = old := ⟨_, rfl⟩
        rw [hold] at HPA hjl
        have HOLD := Lib.hid hold
        clear hold
        rcases Nat.eq_zero_or_pos k with hk0 | hk0
        · have z1 : ¬ (0 : Int) < k := by omega
          have HN2 : Hid (123 :: joinL (l.take (k + 1)) = old ++ a.data.toList ++ [61] ++ quoteL b.data.toList) := Lib.hid (by
            rw [HNXT.out, HEM.out, decide_eq_true hk0, if_pos rfl, ← HOLD.out]; simp [lblL])
          clear HNXT HEM HOLD hk0
          go_wp2_with fail
          have hs4 := HPA.out.big
          refine (bStringU bb bb _ a _ HPA.out.bld.is (by first | omega | (simp; omega)) (by omega)).mono ?_
          rintro e w4 ⟨rfl, hbl, hk⟩
          have HPA4 := Lib.hid (HPA.out.kept hs1 hbl hk)
          obtain ⟨e0, e1⟩ := HPA4.out.cells
          have hs4 := HPA4.out.big
          clear hbl hk HPA
          go_wp2_with fail
          refine (bByteU bb bb _ 61 61 rfl _ HPA4.out.bld.is (by first | omega | (simp; omega)) (by omega)).mono ?_
          rintro e w5 ⟨rfl, hbl, hk⟩
          have HPA5 := Lib.hid (HPA4.out.kept hs1 hbl hk)
          clear e0 e1
          obtain ⟨e0, e1⟩ := HPA5.out.cells
          have hs5 := HPA5.out.big
          clear hbl hk HPA4
          go_wp2_with fail
          refine (HQU.out _).mono ?_
          rintro e w6 ⟨rfl, hb6⟩
          have HPA6 := Lib.hid (HPA5.out.below hb6)
          have hqs : (⟨(quoteL b.data.toList).toArray⟩ : ByteArray).size ≤ 50 := by show (quoteL b.data.toList).toArray.size ≤ 50; simpa using hql
          have hs6 := HPA6.out.big
          clear hb6 HPA5 e0 e1
          go_wp2_with fail
          refine (bStringU bb bb _ ⟨(quoteL b.data.toList).toArray⟩ _ HPA6.out.bld.is (by first | omega | (simp; omega)) (by omega)).mono ?_
          rintro e w7 ⟨rfl, hbl, hk⟩
          have HPA7 := Lib.hid (HPA6.out.kept hs1 hbl hk)
          clear hbl hk HPA6
          go_wp2_with fail
          go_roundg g
          case measure => omega
          case rel => exact ⟨k + 1, by omega, by go_num, by rw [HN2.out]; exact HPA7.out.bld, HPA7.out.bel, HPA7.out.big⟩
        · have z1 : (0 : Int) < k := by omega
          have HN2 : Hid (123 :: joinL (l.take (k + 1)) = old ++ [44] ++ a.data.toList ++ [61] ++ quoteL b.data.toList) := Lib.hid (by
            rw [HNXT.out, HEM.out, decide_eq_false (by omega), if_neg (by simp), ← HOLD.out]; simp [lblL])
          clear HNXT HEM HOLD hk0
          go_wp2_with fail
          have hs3 := HPA.out.big
          refine (bByteU bb bb _ 44 44 rfl _ HPA.out.bld.is (by omega) (by omega)).mono ?_
          rintro e w3 ⟨rfl, hbl, hk⟩
          have HPA3 := Lib.hid (HPA.out.kept hs1 hbl hk)
          obtain ⟨e0, e1⟩ := HPA3.out.cells
          clear hbl hk HPA
          have HPA := HPA3
          clear HPA3
          go_wp2_with fail
          have hs4 := HPA.out.big
          refine (bStringU bb bb _ a _ HPA.out.bld.is (by first | omega | (simp; omega)) (by omega)).mono ?_
          rintro e w4 ⟨rfl, hbl, hk⟩
          have HPA4 := Lib.hid (HPA.out.kept hs1 hbl hk)
          obtain ⟨e0, e1⟩ := HPA4.out.cells
          have hs4 := HPA4.out.big
          clear hbl hk HPA
          go_wp2_with fail
          refine (bByteU bb bb _ 61 61 rfl _ HPA4.out.bld.is (by first | omega | (simp; omega)) (by omega)).mono ?_
          rintro e w5 ⟨rfl, hbl, hk⟩
          have HPA5 := Lib.hid (HPA4.out.kept hs1 hbl hk)
          clear e0 e1
          obtain ⟨e0, e1⟩ := HPA5.out.cells
          have hs5 := HPA5.out.big
          clear hbl hk HPA4
          go_wp2_with fail
          refine (HQU.out _).mono ?_
          rintro e w6 ⟨rfl, hb6⟩
          have HPA6 := Lib.hid (HPA5.out.below hb6)
          have hqs : (⟨(quoteL b.data.toList).toArray⟩ : ByteArray).size ≤ 50 := by show (quoteL b.data.toList).toArray.size ≤ 50; simpa using hql
          have hs6 := HPA6.out.big
          clear hb6 HPA5 e0 e1
          go_wp2_with fail
          refine (bStringU bb bb _ ⟨(quoteL b.data.toList).toArray⟩ _ HPA6.out.bld.is (by first | omega | (simp; omega)) (by omega)).mono ?_
          rintro e w7 ⟨rfl, hbl, hk⟩
          have HPA7 := Lib.hid (HPA6.out.kept hs1 hbl hk)
          clear hbl hk HPA6
          go_wp2_with fail
          go_roundg g
          case measure => omega
          case rel => exact ⟨k + 1, by omega, by go_num, by rw [HN2.out]; exact HPA7.out.bld, HPA7.out.bel, HPA7.out.big⟩
end Go.Proofs.YtlmakdclebbbkaaGreat

namespace Go.Proofs.YtlmakdclebbbkaaGreat
set_option linter.unusedVariables false
def cutL (c : UInt8) : List UInt8 → Option (List UInt8 × List UInt8)
  | [] => none
  | x :: r => if x = c then some ([], r) else (cutL c r).map fun p => (x :: p.1, p.2)
theorem cutL_mk {c : UInt8} : ∀ {a b : List UInt8}, (∀ x ∈ a, x ≠ c) → cutL c (a ++ c :: b) = some (a, b)
  | [], b, h => by simp [cutL]
  | x :: a, b, h => by
    rw [List.cons_append, cutL, if_neg (h x List.mem_cons_self), cutL_mk fun y hy => h y (List.mem_cons_of_mem _ hy)]; rfl
def unq : List UInt8 → List UInt8 → Option (List UInt8 × List UInt8)
  | [], _ => none
  | c :: r, acc => if 24 < acc.length then none else if c = 34 then some (acc, r) else if c = 92 then
      (match r with
        | [] => none
        | d :: r' => if escB d then unq r' (acc ++ [d]) else none)
      else unq r (acc ++ [c])
termination_by l => l.length
decreasing_by all_goals (simp_wf; try omega)
theorem unq_mk : ∀ (u acc r' : List UInt8), acc.length + u.length ≤ 24 → unq (escL u ++ 34 :: r') acc = some (acc ++ u, r')
  | [], acc, r', h => by
    unfold unq
    simp only [escL, List.flatMap_nil, List.nil_append]
    rw [if_neg (by simp at h; omega)]
    simp
  | c :: u, acc, r', h => by
    rw [List.length_cons] at h
    have e2 : escL (c :: u) = escL [c] ++ escL u := by rw [← escL_append]; rfl
    have ih := unq_mk u (acc ++ [c]) r' (by rw [List.length_append, List.length_singleton]; omega)
    rw [e2, escL_one]
    cases hc : escB c with
    | true =>
      simp only [if_true, List.cons_append, List.nil_append]
      unfold unq
      rw [if_neg (by omega), if_neg (by decide), if_pos rfl]
      simp only
      rw [if_pos hc, ih]; simp
    | false =>
      simp only [Bool.false_eq_true, if_false, List.cons_append, List.nil_append]
      have hc' := hc
      simp only [escB, escN, Bool.or_eq_false_iff, decide_eq_false_iff_not] at hc'
      unfold unq
      rw [if_neg (by omega), if_neg (fun e => hc'.1 (by rw [e]; rfl)), if_neg (fun e => hc'.2 (by rw [e]; rfl)), ih]; simp
def unqText : List UInt8 → Option (List UInt8 × List UInt8)
  | [] => none
  | c :: r => if c = 34 then unq r [] else none
theorem unqText_mk {v r : List UInt8} (h : v.length ≤ 24) : unqText (quoteL v ++ r) = some (v, r) := by
  have := unq_mk v [] r (by simpa using h)
  simp only [quoteL, List.cons_append, List.append_assoc, List.nil_append, unqText, if_true] at this ⊢
  exact this
def labelF (s : List UInt8) : Option ((ByteArray × ByteArray) × List UInt8) :=
  match cutL 61 s with
  | none => none
  | some (n, r) => if wordF ⟨n.toArray⟩ then
      (match unqText r with
        | none => none
        | some (v, r') => some ((⟨n.toArray⟩, ⟨v.toArray⟩), r'))
      else none
theorem allIn_get {s : ByteArray} : ∀ {n : Nat}, allIn s n = true → ∀ k, k < n → withinN (byteAt s k) = true
  | 0, _, k, hk => by omega
  | n + 1, h, k, hk => by
    simp only [allIn, Bool.and_eq_true] at h
    rcases Nat.lt_or_ge k n with h' | h'
    · exact allIn_get (n := n) (by first | exact h.1 | exact h.2) k h'
    · obtain rfl : k = n := by omega
      first | exact h.2 | exact h.1
theorem word_no_eq {s : ByteArray} (h : wordF s = true) : ∀ x ∈ s.data.toList, x ≠ 61 := by
  intro x hx e
  subst e
  obtain ⟨k, hk, hx⟩ := List.getElem_of_mem hx
  have hall : allIn s s.size = true := by simp [wordF] at h; exact h.2
  have hks : k < s.size := by simpa using hk
  have := allIn_get hall k hks
  rw [byteAt_get hks] at this
  have e : (s[k]'hks) = 61 := by rw [← hx]; rfl
  rw [e] at this
  exact absurd this (by decide)
theorem labelF_mk {x : ByteArray × ByteArray} {r : List UInt8} (h : lblOk x = true) : labelF (lblL x ++ r) = some (x, r) := by
  have hs := lblOk_size h
  have hw : wordF x.1 = true := by simp [lblOk] at h; exact h.1.1
  unfold labelF
  have e : lblL x ++ r = x.1.data.toList ++ 61 :: (quoteL x.2.data.toList ++ r) := by simp [lblL]
  rw [e, cutL_mk (word_no_eq hw)]
  simp only [Array.toArray_toList]
  rw [if_pos hw, unqText_mk (by simp; omega)]
def parseLoop : Nat → List UInt8 → List (ByteArray × ByteArray) → Option (List (ByteArray × ByteArray))
  | 0, _, _ => none
  | f + 1, rest, l => if rest = [125] then some l else
    match (if l.length = 0 then some rest else match rest with | [] => none | c :: r => if c = 44 then some r else none) with
    | none => none
    | some r => match labelF r with
      | none => none
      | some (x, r') => if l.length + 1 ≤ 6 then parseLoop f r' (l ++ [x]) else none
def parseF (s : List UInt8) : Option (List (ByteArray × ByteArray)) :=
  match s with
  | [] => none
  | c :: r => if c = 123 then (match parseLoop 8 r [] with | none => none | some l => if rightS l then some l else none) else none
theorem joinL_cons (x : ByteArray × ByteArray) (l : List (ByteArray × ByteArray)) : joinL (x :: l) = lblL x ++ l.flatMap (fun y => 44 :: lblL y) := by
  induction l generalizing x with
  | nil => simp [joinL]
  | cons y l ih => rw [joinL, ih y]; simp
def moreL (l m : List (ByteArray × ByteArray)) : List UInt8 := if l.length = 0 then joinL m else m.flatMap fun y => 44 :: lblL y
theorem moreL_nil (l : List (ByteArray × ByteArray)) : moreL l [] = [] := by unfold moreL; split <;> simp [joinL]
theorem moreL_snoc (l m : List (ByteArray × ByteArray)) (x y : ByteArray × ByteArray) : moreL (l ++ [x]) m = m.flatMap fun y => 44 :: lblL y := by unfold moreL; rw [if_neg (by simp)]
theorem lblL_ne (x : ByteArray × ByteArray) (r : List UInt8) (h : lblOk x = true) : lblL x ++ r ≠ [125] := by
  intro e
  have := congrArg List.length e
  have hs := lblOk_size h
  have h1 : x.1.data.toList.length = x.1.size := by simp
  simp [lblL, quoteL] at this
  omega
theorem parseLoop_mk : ∀ (m l : List (ByteArray × ByteArray)) (f : Nat), (∀ x ∈ m, lblOk x = true) → l.length + m.length ≤ 6 → m.length < f → parseLoop f (moreL l m ++ [125]) l = some (l ++ m)
  | [], l, f, h, h6, hf => by
    obtain ⟨f, rfl⟩ : ∃ g, f = g + 1 := ⟨f - 1, by simp at hf; omega⟩
    rw [moreL_nil, List.nil_append, parseLoop, if_pos rfl, List.append_nil]
  | x :: m, l, f, h, h6, hf => by
    rw [List.length_cons] at h6 hf
    obtain ⟨f, rfl⟩ : ∃ g, f = g + 1 := ⟨f - 1, by omega⟩
    have hx := h x List.mem_cons_self
    have ih := parseLoop_mk m (l ++ [x]) f (fun y hy => h y (List.mem_cons_of_mem _ hy)) (by rw [List.length_append, List.length_singleton]; omega) (by omega)
    rw [moreL_snoc l m x x] at ih
    unfold parseLoop
    by_cases h0 : l.length = 0
    · have e : moreL l (x :: m) ++ [125] = lblL x ++ ((m.flatMap fun y => 44 :: lblL y) ++ [125]) := by rw [moreL, if_pos h0, joinL_cons]; simp
      rw [e, if_neg (lblL_ne x _ hx), if_pos h0]
      show (match labelF (lblL x ++ ((m.flatMap fun y => 44 :: lblL y) ++ [125])) with | none => none | some (x, r') => if l.length + 1 ≤ 6 then parseLoop f r' (l ++ [x]) else none) = _
      rw [labelF_mk hx]
      simp only
      rw [if_pos (by omega), ih]; simp
    · have e : moreL l (x :: m) ++ [125] = 44 :: (lblL x ++ ((m.flatMap fun y => 44 :: lblL y) ++ [125])) := by rw [moreL, if_neg h0]; simp
      rw [e, if_neg (by intro e2; injection e2 with e3; exact absurd e3 (by decide)), if_neg h0]
      simp only [if_true]
      rw [labelF_mk hx]
      simp only
      rw [if_pos (by omega), ih]; simp
theorem parseF_print {l : List (ByteArray × ByteArray)} (h : rightS l = true) : parseF (printL l) = some l := by
  have h6 := rightS_len h
  have := parseLoop_mk l [] 8 (fun x hx => by
    obtain ⟨k, hk, rfl⟩ := List.getElem_of_mem hx
    exact (rightS_at h hk).1) (by simpa using h6) (by omega)
  rw [printL, if_pos h, parseF]
  simp only [if_true]
  have e : joinL l ++ [125] = moreL [] l ++ [125] := rfl
  rw [e, this]
  simp [h]
end Go.Proofs.YtlmakdclebbbkaaGreat

namespace Go.Proofs.YtlmakdclebbbkaaGreat
open Go.RowKit
set_option linter.unusedVariables false
def Where (w : World) (v v' : Value) : Prop := v'.ownBlock = v.ownBlock ∨ ∀ k, v'.ownBlock = some k → w.heap.size ≤ k
theorem Where.refl (w : World) (v : Value) : Where w v v := .inl rfl
theorem Where.apart {w : World} {v v' u : Value} (h : Where w v v') (hu : ∀ k, u.ownBlock = some k → k < w.heap.size ∧ v.ownBlock ≠ some k) : ∀ k, u.ownBlock = some k → v'.ownBlock ≠ some k := by
  intro k hk h'
  obtain ⟨h1, h2⟩ := hu k hk
  rcases h with h | h
  · exact h2 (h ▸ h')
  · have := h k h'; omega
theorem append_where {P : Program} (w : World) (base : Nat) (t ty e : TypeId) (i : TypeInfo) (z : Value) (size bytes : Nat) (ht : P.underlying t = some (.slice e)) (hi : P.info? e = some i) (hz : i.zero = some z)
    (hsize : i.size = size) (hby : i.bytes = bytes) (hzs : z.cells.size = size) (hsz : 0 < size)
    (v : Value) (n : Nat) (xs : List Value) (hown : w.ownsRow base e size v n xs)
    (B : Nat) (A : Option Addr) (m c : Nat) (news : List Value) (hs : Sees w B size A m news) (h1 : ∀ u ∈ news, u.oneCell' = true)
    (h63 : n + m ≤ maxLen) (hbytes : (n + m) * bytes ≤ 140737488355328) (v' : Value) (w' : World)
    (hr : (Builtin.append_ #[t, t] ty #[v, .slice A m c]).run P w = .ok v' w') : Where w v v' := by
  subst hsize; subst hby
  have hsmall : n + m ≤ 9223372036854775807 := by simp only [maxLen] at h63; omega
  cases A with
  | none =>
    have hm : m = 0 := by
      rcases Nat.eq_zero_or_pos m with h | h
      · exact h
      · obtain ⟨ad, h, _⟩ := hs.at_ h; cases h
    subst hm
    rw [nothing_appended w base t ty e i i.size ht hi v n xs hown c] at hr
    injection hr with hr _
    exact .inl (by rw [hr])
  | some ad =>
    have hl := hs.len
    have hnews : ∀ j u, news[j]? = some u → w.cell? (ad.add j) = some u := by
      intro j u hu
      have hm : 0 < m := by
        have h := (List.getElem?_eq_some_iff.1 hu).1
        rw [hs.len] at h
        rcases Nat.eq_zero_or_pos m with h0 | h0
        · subst h0; simp at h
        · exact h0
      obtain ⟨ad', h, _, hc⟩ := hs.at_ hm
      injection h with h; subst h
      exact hc j u hu
    rcases hown.2 with ⟨rfl, rfl⟩ | ⟨g, cap, cur, rfl, hbg, hg, hnc, hcm, hcs, htake⟩
    · by_cases hm : m = 0
      · subst hm
        have hr0 : (Builtin.append_ #[t, t] ty #[.slice none 0 0, .slice (some ad) 0 c]).run P w = .ok (.slice none 0 0) w := by
          simp [Builtin.append_, run_underlying ht, sizeOf, typeInfo, hi, Builtin.lenOf, Builtin.firstCells, loadCells, loadCellsFrom]
        rw [hr0] at hr
        injection hr with hr _
        exact .inl (by rw [hr])
      · rw [run_append_nil (P := P) w t ty e i z ht hi hz ad m c news hl hnews (by omega) (by omega) (by have hb := hbytes; simp only [Nat.zero_add] at hb; omega)] at hr
        injection hr with hr _
        exact .inr fun k hk => by rw [← hr] at hk; simp [Value.ownBlock] at hk; omega
    · by_cases hroom : n + m ≤ cap
      · have hfit : n * i.size + news.length ≤ cur.size := by rw [hl, hcs, ← Nat.add_mul]; exact Nat.mul_le_mul_right _ hroom
        rw [run_append_room (P := P) w t ty e i ht hi g n cap cur hg ad m c news hl hnews h1 hroom hfit] at hr
        injection hr with hr _
        exact .inl (by rw [← hr]; rfl)
      · have holds : ∀ j u, xs[j]? = some u → w.cell? ((⟨g, 0, none⟩ : Addr).add j) = some u := hown.cells (g := g) rfl
        rw [run_append_grow (P := P) w t ty e i z ht hi hz ⟨g, 0, none⟩ n cap xs hown.1 holds ad m c news hl hnews (by omega) (by omega) (growslice_fits (by omega) hbytes)] at hr
        injection hr with hr _
        exact .inr fun k hk => by rw [← hr] at hk; simp [Value.ownBlock] at hk; omega
theorem wpList_append_at {P : Program} {w : World} {ops : Array Oper} {rest : List Oper} {o : Oper} {a : Act} {Q : Exit → Act → World → Prop} (hgd : o.guard = none) (s x : Operand) (t : TypeId)
    (ho : o.op = .call { callee := .builtin .append, args := #[s, x], argTypes := #[t, t] })
    (base : Nat) (e : TypeId) (i : TypeInfo) (z : Value) (size bytes : Nat) (ht : P.underlying t = some (.slice e)) (hi : P.info? e = some i) (hz : i.zero = some z)
    (hsize : i.size = size) (hby : i.bytes = bytes) (hzs : z.cells.size = size) (hsz : 0 < size)
    (v : Value) (n : Nat) (xs : List Value) (hv : a.eval s = v) (hown : w.ownsRow base e size v n xs)
    (B : Nat) (A : Option Addr) (m c : Nat) (news : List Value) (hx : a.eval x = .slice A m c) (hs : Sees w B size A m news) (h1 : ∀ u ∈ news, u.oneCell' = true)
    (h63 : n + m ≤ maxLen) (hbytes : (n + m) * bytes ≤ 140737488355328) (hbase : base ≤ w.heap.size)
    (h : ∀ v' w', w'.ownsRow base e size v' (n + m) (xs ++ news) → w.grownBy w' v.ownBlock → Where w v v' → wpList P ops Q rest (a.put o.dst v') w') : wpList P ops Q (o :: rest) a w := by
  refine wpList_plain hgd fun K hK => ?_
  obtain ⟨v', w', hr, h2, h3⟩ := append_run (P := P) w base t o.type e i z size bytes ht hi hz hsize hby hzs hsz v n xs hown B A m c news hs h1 h63 hbytes hbase
  have h4 := append_where (P := P) w base t o.type e i z size bytes ht hi hz hsize hby hzs hsz v n xs hown B A m c news hs h1 h63 hbytes v' w' hr
  unfold Oper.wp execOp
  simp only [ho, resolve, invoke, builtin, Sem.run_bind, Sem.run_pure, Result.andThen_ok, List.map_toArray, List.map_cons, List.map_nil, hv, hx, hr]
  exact hK _ _ (h v' w' h2 h3 h4)
end Go.Proofs.YtlmakdclebbbkaaGreat

namespace Go.Proofs.YtlmakdclebbbkaaGreat
open Go.RowKit
set_option linter.unusedVariables false
theorem only_alloc {a w : World} {row : Option Nat} (h : a.grownBy w row) (o : Obj) : a.grownBy (w.alloc o) row :=
  ⟨h.os, h.tape, h.output, Nat.le_trans h.size (by simp), fun i hi hne => (Below.heap_alloc w o i (Nat.lt_of_lt_of_le hi h.size)).trans (h.block i hi hne)⟩
theorem only_drewN {a w : World} {row : Option Nat} (h : a.grownBy w row) (n : Nat) : a.grownBy (w.drewN n) row := ⟨h.os, h.tape, h.output, h.size, h.block⟩
theorem only_drew {a w : World} {row : Option Nat} (h : a.grownBy w row) : a.grownBy w.drew row := ⟨h.os, h.tape, h.output, h.size, h.block⟩
theorem only_of_below {a w : World} (h : Below a.heap.size a w) (row : Option Nat) : a.grownBy w row := ⟨h.os, h.tape, h.output, h.size, fun i hi _ => h.block i hi⟩
theorem only_setCell {a w : World} {row : Option Nat} (h : a.grownBy w row) {p : Addr} (hp : row = some p.block ∨ a.heap.size ≤ p.block) (u : Value) : a.grownBy (w.setCell p u) row :=
  ⟨h.os, h.tape, h.output, by simpa [World.setCell] using h.size, fun i hi hne => (Below.heap_setCell w p u i (by
    rintro rfl
    rcases hp with hp | hp
    · exact hne hp.symm
    · omega)).trans (h.block i hi hne)⟩
theorem Where.trans {a b : World} {v v1 v2 : Value} (h : Where a v v1) (k : Where b v1 v2) (hs : a.heap.size ≤ b.heap.size) : Where a v v2 := by
  rcases k with k | k
  · rcases h with h | h
    · exact .inl (k.trans h)
    · exact .inr fun i hi => h i (k ▸ hi)
  · exact .inr fun i hi => Nat.le_trans hs (k i hi)
end Go.Proofs.YtlmakdclebbbkaaGreat

namespace Go.Proofs.YtlmakdclebbbkaaGreat
open Go.ChangeShapes Go.WideShapes Go.ChangeAt Go.RowKit
set_option linter.unusedVariables false
set_option maxRecDepth 100000
theorem own_nil (w : World) (base : Nat) (t : TypeId) (s : Nat) : w.ownsRow base t s (.slice none 0 0) 0 [] := World.ownsRow_nil w base t s
end Go.Proofs.YtlmakdclebbbkaaGreat

namespace Go.Proofs.YtlmakdclebbbkaaGreat
open Go.ChangeShapes Go.WideShapes Go.ChangeAt Go.RowKit
set_option linter.unusedVariables false
set_option maxRecDepth 100000
theorem Tryz.infoLabel : (Tryz.prog.info? 25).map (fun i => (i.zero, i.size, i.bytes)) = some (some (.agg #[.string ⟨#[]⟩, .string ⟨#[]⟩]), 2, 32) := by kernel_rfl
end Go.Proofs.YtlmakdclebbbkaaGreat
