/- The text of matchers: match.Print, in a seat without match.All. -/
import Derived.Test.YtcaapbbbekggiaaGreatDoorBase4
import Derived.Test.YtcaapbbbekggiaaGreatDoorBase3
import Derived.Test.YtcaapbbbekggiaaGreatDoorBase2
import Derived.Test.YtcaapbbbekggiaaGreatDoorBld
namespace Go.Proofs.YtcaapbbbekggiaaGreatDoor
open Go.ChangeShapes Go.WideShapes Go.ChangeAt Go.RowKit
set_option linter.unusedVariables false
set_option maxRecDepth 100000
theorem mtcOk_size {x : Mtc} (h : mtcOk x = true) : x.1.size ≤ 24 ∧ x.2.1.size ≤ 24 := by
  simp only [mtcOk, Bool.and_eq_true, decide_eq_true_eq] at h
  exact ⟨(by have h1 := h.1; simp [wordF] at h1; omega), h.2.1⟩
theorem mtcL_length_le (x : Mtc) (h1 : x.1.size ≤ 24) (h2 : x.2.1.size ≤ 24) : (mtcL x).length ≤ 76 := by
  have := quoteL_length_le x.2.1.data.toList
  have e1 : x.1.data.toList.length = x.1.size := by simp
  have e2 : x.2.1.data.toList.length = x.2.1.size := by simp
  have e3 : (signF x.2.2).data.toList.length = (signF x.2.2).size := by simp
  have e4 := signF_size x.2.2
  rw [mtcL, List.length_append, List.length_append]; omega
theorem joinM_length_le (l : List Mtc) (h : ∀ x ∈ l, x.1.size ≤ 24 ∧ x.2.1.size ≤ 24) : (joinM l).length ≤ 77 * l.length := by
  induction l with
  | nil => simp [joinM]
  | cons x l ih =>
    have h1 := mtcL_length_le x (h x List.mem_cons_self).1 (h x List.mem_cons_self).2
    have h2 := ih fun y hy => h y (List.mem_cons_of_mem _ hy)
    rw [joinM, List.length_append, List.length_cons]
    split
    · simp; omega
    · rw [List.length_cons]; omega
/-- Right matchers' text; none, if they aren't right. -/
def printM (l : List Mtc) : List UInt8 := if rightM l then 123 :: (joinM l ++ [125]) else []
theorem rightM_len {l : List Mtc} (h : rightM l = true) : l.length ≤ 6 := by simp [rightM] at h; exact h.1
theorem rightM_ok {l : List Mtc} (h : rightM l = true) : ∀ x ∈ l, mtcOk x = true := by
  simp only [rightM, Bool.and_eq_true] at h
  exact List.all_eq_true.1 h.2
theorem rightM_sizes {l : List Mtc} (h : rightM l = true) : ∀ x ∈ l, x.1.size ≤ 24 ∧ x.2.1.size ≤ 24 := fun x hx => mtcOk_size (rightM_ok h x hx)
theorem take_emptyM {l : List Mtc} {k : Nat} (h : k < l.length) : (l.take k).isEmpty = decide (k = 0) := by
  cases k with
  | zero => simp
  | succ k => cases l with
    | nil => simp at h
    | cons x l => simp
theorem lquote_any (s : ByteArray) (w : World) (hs : s.size ≤ 35184372088832) :
    Calls Tryz.prog 63 #[.string s] w fun e w' => e = .returned (.string ⟨(quoteL s.data.toList).toArray⟩) ∧ Below w.heap.size w w' := by
  go_enter Tryz.func63, Tryz.ntmps63
  go_wp2_with fail
  refine (quote_any s w hs).mono ?_
  rintro e w1 ⟨rfl, hb⟩
  have HB := Lib.hid hb; clear hb
  go_wp2_with fail
  go_ret
  exact ⟨rfl, HB.out⟩
/-- Within Print's round: the builder, the box of the matcher, all that was there. -/
structure MPrintAt (w0 : World) (bb xb : Nat) (a b : ByteArray) (kd : Int) (l : List UInt8) (w : World) : Prop where
  bld : BldAt w bb bb (Lib.byteCells l)
  box : Blk w xb 57 [.string a, .string b, .int .i64 kd]
  bel : Below w0.heap.size w0 w
  big : bb + 1 ≤ w.heap.size
  ne : xb ≠ bb
theorem MPrintAt.kept {w0 w w' : World} {bb xb : Nat} {a b : ByteArray} {kd : Int} {l l' : List UInt8} (h : MPrintAt w0 bb xb a b kd l w) (h0 : w0.heap.size ≤ bb) (hb : BldAt w' bb bb (Lib.byteCells l')) (hk : BldKept bb bb w w') : MPrintAt w0 bb xb a b kd l' w' :=
  ⟨hb, hk.blk h.box h.ne (by decide), h.bel.trans (hk.1.mono h0), Nat.le_trans h.big hk.1.size, h.ne⟩
theorem MPrintAt.below {w0 w w' : World} {bb xb : Nat} {a b : ByteArray} {kd : Int} {l : List UInt8} (h : MPrintAt w0 bb xb a b kd l w) (hb : Below w.heap.size w w') : MPrintAt w0 bb xb a b kd l w' :=
  ⟨h.bld.below hb, h.box.below hb h.box.lt, h.bel.trans (hb.mono h.bel.size), Nat.le_trans h.big hb.size, h.ne⟩
theorem MPrintAt.cells {w0 w : World} {bb xb : Nat} {a b : ByteArray} {kd : Int} {l : List UInt8} (h : MPrintAt w0 bb xb a b kd l w) : w.cell? ⟨xb, 0, none⟩ = some (.string a) ∧ w.cell? ⟨xb, 1, none⟩ = some (.string b) ∧ w.cell? ⟨xb, 2, none⟩ = some (.int .i64 kd) := by
  have e0 := h.box.cell 0
  have e1 := h.box.cell 1
  have e2 := h.box.cell 2
  simp only [List.getElem?_cons_zero, List.getElem?_cons_succ] at e0 e1 e2
  exact ⟨e0, e1, e2⟩
set_option maxHeartbeats 4000000 in
theorem printM_any (A : Option Addr) (n c : Nat) (l : List Mtc) (B : Nat) (w : World) (h : Sees w B 3 A n (mtcs l)) (hB : B ≤ w.heap.size) (hn : n ≤ 9223372036854775807) :
    Calls Tryz.prog 48 #[.slice A n c] w fun e w' => e = .returned (.string ⟨(printM l).toArray⟩) ∧ Below w.heap.size w w' := by
  have H := Lib.hid h
  have HL := Lib.hid h.mtc_len
  have HR := Lib.hid (rightM_any A n c B l w h hB hn)
  clear h
  have HP : Hid (printM l = if rightM l then 123 :: (joinM l ++ [125]) else []) := Lib.hid rfl
  have HSZ := Lib.hid (@rightM_sizes l)
  have HLE := Lib.hid (@rightM_len l)
  obtain ⟨pr, hpr⟩ : ∃ pr, printM l = pr := ⟨_, rfl⟩
  rw [hpr] at HP ⊢
  obtain ⟨r, hr⟩ : ∃ r, rightM l = r := ⟨_, rfl⟩
  rw [hr] at HP HR HSZ HLE
  clear hpr hr
  cases r with
  | false =>
    have HQ : Hid (pr = []) := Lib.hid (by rw [HP.out]; rfl)
    clear HP
    go_enter Tryz.func48, Tryz.ntmps48
    go_wp2_with fail
    refine HR.out.mono ?_; rintro e w1 ⟨rfl, hb⟩
    have HB := Lib.hid hb; clear hb
    go_wp2_with fail
    go_ret
    exact ⟨by rw [HQ.out]; rfl, HB.out⟩
  | true =>
    have HQ : Hid (pr = 123 :: joinM l ++ [125]) := Lib.hid (by rw [HP.out]; rfl)
    have hs := HSZ.out rfl
    have hl6 := HLE.out rfl
    have HS := Lib.hid hs
    have hn6 : n ≤ 6 := by have := HL.out; omega
    clear HP HSZ HLE hs
    go_enter Tryz.func48, Tryz.ntmps48
    go_wp2_with fail
    refine HR.out.mono ?_; rintro e w1 ⟨rfl, hb⟩
    have hs1 := hb.size
    have HN := Lib.hid (bld_new w1)
    have HB := Lib.hid (hb.alloc hs1 (.cells #[.pointer none, .slice none 0 0] 52))
    clear hb HR
    go_wp2_with fail
    refine (bByteU w1.heap.size w1.heap.size [] 123 123 rfl _ HN.out (by simp) (by simp)).mono ?_
    rintro e w2 ⟨rfl, hbl, hk⟩
    have hs2 : w1.heap.size + 1 ≤ w2.heap.size := by have h := hk.1.size; simp at h; omega
    have HBL := Lib.hid hbl
    have HB2 := Lib.hid (HB.out.trans (hk.1.mono hs1))
    clear hbl hk HN HB
    obtain ⟨bb, hbb⟩ : ∃ bb, w1.heap.size = bb := ⟨_, rfl⟩
    rw [hbb] at HBL hs2 hs1
    rw [show (⟨w1.heap.size, 0, none⟩ : Addr) = ⟨bb, 0, none⟩ by rw [hbb]]
    clear hbb
    go_wp2_with fail
    go_loopg [12] n (fun g x12 wr => ∃ k : Nat, k + g = n ∧ x12 = .int .i64 k ∧ BldAt wr bb bb (Lib.byteCells (123 :: joinM (l.take k))) ∧ Below w.heap.size w wr ∧ bb + 1 ≤ wr.heap.size)
    case atStart => exact ⟨0, by omega, rfl, HBL.out, HB2.out, hs2⟩
    case round =>
      obtain ⟨k, hkg, rfl, hbl, hbel, hbig⟩ := hrel
      have HBL := Lib.hid hbl; have HB := Lib.hid hbel
      have hws := hbel.size
      have hjl : (123 :: joinM (l.take k)).length ≤ 1 + 77 * k := by
        have h1 := joinM_length_le (l.take k) (fun x hx => HS.out x (List.mem_of_mem_take hx))
        have h2 : (l.take k).length ≤ k := List.length_take_le _ _
        have h3 : 77 * (l.take k).length ≤ 77 * k := Nat.mul_le_mul_left _ h2
        rw [List.length_cons]; omega
      clear hbl hbel HB2
      cases gk with
      | zero =>
        obtain rfl : k = n := by omega
        have HQ2 := Lib.hid (show 123 :: joinM (l.take k) ++ [125] = pr by rw [HQ.out, List.take_of_length_le (by rw [HL.out]; exact Nat.le_refl _)])
        go_wp2_with fail
        refine (bByteU bb bb _ 125 125 rfl _ HBL.out.is (by omega) (by omega)).mono ?_
        rintro e w3 ⟨rfl, hbl, hk⟩
        rw [HQ2.out] at hbl
        have hs3 := hk.1.size
        have HBL3 := Lib.hid hbl; have HB3 := Lib.hid (HB.out.trans (hk.1.mono hs1))
        clear hbl hk HBL HB HQ2
        go_wp2_with fail
        refine (bTold bb bb _ _ HBL3.out (by omega)).mono ?_
        rintro e w4 ⟨rfl, hb4⟩
        have HB4 := Lib.hid (HB3.out.trans (hb4.mono hs1))
        clear hb4
        go_wp2_with fail
        go_ret
        exact ⟨rfl, HB4.out⟩
      | succ g =>
        have hlt : k < n := by omega
        obtain ⟨ad, hkl, rfl, c0, c1, c2⟩ := (H.out.below (HB.out.mono hB)).mtc hlt
        have hal := World.block_lt_of_cell? wr _ c0
        have hz := HS.out l[k] (List.getElem_mem _)
        have HNXT := Lib.hid (show joinM (l.take (k + 1)) = joinM (l.take k) ++ (if (l.take k).isEmpty then mtcL l[k] else 44 :: mtcL l[k]) by rw [List.take_succ_eq_append_getElem hkl, joinM_snoc])
        have HEM := Lib.hid (take_emptyM hkl)
        generalize l[k] = p at *
        obtain ⟨a, b, kd⟩ := p
        simp only at c0 c1 c2 hz
        obtain ⟨hz1, hz2⟩ := hz
        obtain ⟨xb, hxb⟩ : ∃ xb, wr.heap.size = xb := ⟨_, rfl⟩
        have HPA : Hid (MPrintAt w bb xb a b kd (123 :: joinM (l.take k)) (wr.alloc (.cells #[.string a, .string b, .int .i64 kd] 57))) := Lib.hid ⟨HBL.out.alloc _, by rw [← hxb]; exact Blk.mk (heap_alloc_new wr _), HB.out.alloc hws _, by simp; omega, by omega⟩
        have HQU := Lib.hid (fun W => lquote_any b W (by omega))
        have hql : (quoteL b.data.toList).length ≤ 50 := by
          have h1 := quoteL_length_le b.data.toList
          have h2 : b.data.toList.length = b.size := by simp
          omega
        have HSG := Lib.hid (fun W => sign_any kd W)
        have hsg := signF_size kd
        have HML : Hid (mtcL (a, b, kd) = a.data.toList ++ ((signF kd).data.toList ++ quoteL b.data.toList)) := Lib.hid rfl
        clear HBL HB
        obtain ⟨old, hold⟩ : ∃ old, 123 :: joinM (l.take k) = old := ⟨_, rfl⟩
        rw [hold] at HPA hjl
        have HOLD := Lib.hid hold
        clear hold
        generalize signF kd = sg at *
        rcases Nat.eq_zero_or_pos k with hk0 | hk0
        · have z1 : ¬ (0 : Int) < k := by omega
          have HN2 : Hid (123 :: joinM (l.take (k + 1)) = old ++ a.data.toList ++ sg.data.toList ++ quoteL b.data.toList) := Lib.hid (by
            rw [HNXT.out, HEM.out, decide_eq_true hk0, if_pos rfl, ← HOLD.out, HML.out]; simp)
          clear HNXT HEM HOLD HML hk0
          go_wp2_with fail
          have hs4 := HPA.out.big
          refine (bStringU bb bb _ a _ HPA.out.bld.is (by first | omega | (simp; omega)) (by omega)).mono ?_
          rintro e w4 ⟨rfl, hbl, hk⟩
          have HPA4 := Lib.hid (HPA.out.kept hs1 hbl hk)
          obtain ⟨e0, e1, e2⟩ := HPA4.out.cells
          have hs4 := HPA4.out.big
          clear hbl hk HPA
          go_wp2_with fail
          (with_reducible refine (HSG.out _).mono ?_); rintro e w' ⟨rfl, rfl⟩
          go_wp2_with fail
          refine (bStringU bb bb _ sg _ HPA4.out.bld.is (by first | omega | (simp; omega)) (by omega)).mono ?_
          rintro e w5 ⟨rfl, hbl, hk⟩
          have HPA5 := Lib.hid (HPA4.out.kept hs1 hbl hk)
          clear e0 e1 e2
          obtain ⟨e0, e1, e2⟩ := HPA5.out.cells
          have hs5 := HPA5.out.big
          clear hbl hk HPA4
          go_wp2_with fail
          refine (HQU.out _).mono ?_
          rintro e w6 ⟨rfl, hb6⟩
          have HPA6 := Lib.hid (HPA5.out.below hb6)
          have hqs : (⟨(quoteL b.data.toList).toArray⟩ : ByteArray).size ≤ 50 := by show (quoteL b.data.toList).toArray.size ≤ 50; simpa using hql
          have hs6 := HPA6.out.big
          clear hb6 HPA5 e0 e1 e2
          go_wp2_with fail
          refine (bStringU bb bb _ ⟨(quoteL b.data.toList).toArray⟩ _ HPA6.out.bld.is (by first | omega | (simp; omega)) (by omega)).mono ?_
          rintro e w7 ⟨rfl, hbl, hk⟩
          have HPA7 := Lib.hid (HPA6.out.kept hs1 hbl hk)
          clear hbl hk HPA6
          go_wp2_with fail
          go_roundg g
          case measure => omega
          case rel => exact ⟨k + 1, by omega, by go_num, by rw [HN2.out]; exact HPA7.out.bld, HPA7.out.bel, HPA7.out.big⟩
        · have z1 : (0 : Int) < k := by omega
          have HN2 : Hid (123 :: joinM (l.take (k + 1)) = old ++ [44] ++ a.data.toList ++ sg.data.toList ++ quoteL b.data.toList) := Lib.hid (by
            rw [HNXT.out, HEM.out, decide_eq_false (by omega), if_neg (by simp), ← HOLD.out, HML.out]; simp)
          clear HNXT HEM HOLD HML hk0
          go_wp2_with fail
          have hs3 := HPA.out.big
          refine (bByteU bb bb _ 44 44 rfl _ HPA.out.bld.is (by omega) (by omega)).mono ?_
          rintro e w3 ⟨rfl, hbl, hk⟩
          have HPA3 := Lib.hid (HPA.out.kept hs1 hbl hk)
          obtain ⟨e0, e1, e2⟩ := HPA3.out.cells
          clear hbl hk HPA
          have HPA := HPA3
          clear HPA3
          go_wp2_with fail
          have hs4 := HPA.out.big
          refine (bStringU bb bb _ a _ HPA.out.bld.is (by first | omega | (simp; omega)) (by omega)).mono ?_
          rintro e w4 ⟨rfl, hbl, hk⟩
          have HPA4 := Lib.hid (HPA.out.kept hs1 hbl hk)
          obtain ⟨e0, e1, e2⟩ := HPA4.out.cells
          have hs4 := HPA4.out.big
          clear hbl hk HPA
          go_wp2_with fail
          (with_reducible refine (HSG.out _).mono ?_); rintro e w' ⟨rfl, rfl⟩
          go_wp2_with fail
          refine (bStringU bb bb _ sg _ HPA4.out.bld.is (by first | omega | (simp; omega)) (by omega)).mono ?_
          rintro e w5 ⟨rfl, hbl, hk⟩
          have HPA5 := Lib.hid (HPA4.out.kept hs1 hbl hk)
          clear e0 e1 e2
          obtain ⟨e0, e1, e2⟩ := HPA5.out.cells
          have hs5 := HPA5.out.big
          clear hbl hk HPA4
          go_wp2_with fail
          refine (HQU.out _).mono ?_
          rintro e w6 ⟨rfl, hb6⟩
          have HPA6 := Lib.hid (HPA5.out.below hb6)
          have hqs : (⟨(quoteL b.data.toList).toArray⟩ : ByteArray).size ≤ 50 := by show (quoteL b.data.toList).toArray.size ≤ 50; simpa using hql
          have hs6 := HPA6.out.big
          clear hb6 HPA5 e0 e1 e2
          go_wp2_with fail
          refine (bStringU bb bb _ ⟨(quoteL b.data.toList).toArray⟩ _ HPA6.out.bld.is (by first | omega | (simp; omega)) (by omega)).mono ?_
          rintro e w7 ⟨rfl, hbl, hk⟩
          have HPA7 := Lib.hid (HPA6.out.kept hs1 hbl hk)
          clear hbl hk HPA6
          go_wp2_with fail
          go_roundg g
          case measure => omega
          case rel => exact ⟨k + 1, by omega, by go_num, by rw [HN2.out]; exact HPA7.out.bld, HPA7.out.bel, HPA7.out.big⟩
end Go.Proofs.YtcaapbbbekggiaaGreatDoor
