/- Texts, merged in one. -/
import Derived.Test.YtlmakdclebbbkaaGreatBase3
import Derived.Test.YtlmakdclebbbkaaGreatBase
import Derived.Deep.QuietTactic
import Derived.BigQuiet
import Derived.Lib.PathFns
import Derived.Lib.IndexLaws
import Derived.Laws.IdiomStrings
import Derived.Laws.BytesArg
import Derived.Deep.CutBlock
import Derived.Test.YtlmakdclebbbkaaGreatBase2
namespace Go.Proofs.YtlmakdclebbbkaaGreat
open Go.ChangeShapes Go.WideShapes Go.ChangeAt Go.RowKit
set_option linter.unusedVariables false
set_option maxRecDepth 100000
/-- One label's text. -/
def lblL (x : ByteArray × ByteArray) : List UInt8 := x.1.data.toList ++ 61 :: quoteL x.2.data.toList
/-- Labels' texts, commas between. -/
def joinL : List (ByteArray × ByteArray) → List UInt8
  | [] => []
  | x :: l => lblL x ++ (if l.isEmpty then [] else 44 :: joinL l)
theorem joinL_snoc (l : List (ByteArray × ByteArray)) (x : ByteArray × ByteArray) : joinL (l ++ [x]) = joinL l ++ (if l.isEmpty then lblL x else 44 :: lblL x) := by
  induction l with
  | nil => simp [joinL]
  | cons y l ih =>
    rw [List.cons_append, joinL, joinL, ih]
    cases l <;> simp [joinL]
theorem lblL_length_le (x : ByteArray × ByteArray) (h1 : x.1.size ≤ 24) (h2 : x.2.size ≤ 24) : (lblL x).length ≤ 75 := by
  have := quoteL_length_le x.2.data.toList
  have e1 : x.1.data.toList.length = x.1.size := by simp
  have e2 : x.2.data.toList.length = x.2.size := by simp
  rw [lblL, List.length_append, List.length_cons]; omega
theorem joinL_length_le (l : List (ByteArray × ByteArray)) (h : ∀ x ∈ l, x.1.size ≤ 24 ∧ x.2.size ≤ 24) : (joinL l).length ≤ 76 * l.length := by
  induction l with
  | nil => simp [joinL]
  | cons x l ih =>
    have h1 := lblL_length_le x (h x List.mem_cons_self).1 (h x List.mem_cons_self).2
    have h2 := ih fun y hy => h y (List.mem_cons_of_mem _ hy)
    rw [joinL, List.length_append, List.length_cons]
    split
    · simp; omega
    · rw [List.length_cons]; omega
/-- A right set's text; none, if it isn't right. -/
def printL (l : List (ByteArray × ByteArray)) : List UInt8 := if rightS l then 123 :: (joinL l ++ [125]) else []
theorem wordF_size {s : ByteArray} (h : wordF s = true) : 1 ≤ s.size ∧ s.size ≤ 24 := by simp [wordF] at h; omega
theorem lblOk_size {x : ByteArray × ByteArray} (h : lblOk x = true) : x.1.size ≤ 24 ∧ x.2.size ≤ 24 ∧ 1 ≤ x.1.size ∧ 1 ≤ x.2.size := by
  simp [lblOk] at h
  have := wordF_size h.1.1
  omega
theorem rightK_at {l : List (ByteArray × ByteArray)} : ∀ {n : Nat}, rightK l n = true → ∀ k, k < n → lblOk (lblAt l k) = true ∧ riseAt l k = true
  | 0, _, k, hk => absurd hk (by omega)
  | n + 1, h, k, hk => by
    simp only [rightK, Bool.and_eq_true] at h
    rcases Nat.lt_or_ge k n with h' | h'
    · exact rightK_at (n := n) (by first | exact h.1 | exact h.1.1) k h'
    · obtain rfl : k = n := by omega
      exact ⟨by first | exact h.2.1 | exact h.1.2, by first | exact h.2.2 | exact h.2⟩
theorem rightS_len {l : List (ByteArray × ByteArray)} (h : rightS l = true) : l.length ≤ 6 := by simp [rightS] at h; exact h.1
theorem rightS_at {l : List (ByteArray × ByteArray)} (h : rightS l = true) {k : Nat} (hk : k < l.length) : lblOk l[k] = true ∧ riseAt l k = true := by
  have h2 : rightK l l.length = true := by simp [rightS] at h; exact h.2
  have := rightK_at h2 k hk
  rwa [lblAt_get hk] at this
theorem rightS_sizes {l : List (ByteArray × ByteArray)} (h : rightS l = true) : ∀ x ∈ l, x.1.size ≤ 24 ∧ x.2.size ≤ 24 := by
  intro x hx
  obtain ⟨k, hk, rfl⟩ := List.getElem_of_mem hx
  have := lblOk_size (rightS_at h hk).1
  exact ⟨this.1, this.2.1⟩
theorem BldKept.blk {B b : Nat} {w w' : World} (h : BldKept B b w w') {x : Nat} {t : TypeId} {cs : List Value} (hx : Blk w x t cs) (hb : x ≠ b) (ht : t ≠ 5) : Blk w' x t cs :=
  h.2 x _ hx (fun e => hb (by injection e)) (by intro c fz e; injection e with _ e _; exact ht e)
theorem take_empty {l : List (ByteArray × ByteArray)} {k : Nat} (h : k < l.length) : (l.take k).isEmpty = decide (k = 0) := by
  cases k with
  | zero => simp
  | succ k => cases l with
    | nil => simp at h
    | cons x l => simp
/-- Within Print's round: the builder, the box of the label, all that was there. -/
structure PrintAt (w0 : World) (bb xb : Nat) (a b : ByteArray) (l : List UInt8) (w : World) : Prop where
  bld : BldAt w bb bb (Lib.byteCells l)
  box : Blk w xb 25 [.string a, .string b]
  bel : Below w0.heap.size w0 w
  big : bb + 1 ≤ w.heap.size
  ne : xb ≠ bb
theorem PrintAt.kept {w0 w w' : World} {bb xb : Nat} {a b : ByteArray} {l l' : List UInt8} (h : PrintAt w0 bb xb a b l w) (h0 : w0.heap.size ≤ bb) (hb : BldAt w' bb bb (Lib.byteCells l')) (hk : BldKept bb bb w w') : PrintAt w0 bb xb a b l' w' :=
  ⟨hb, hk.blk h.box h.ne (by decide), h.bel.trans (hk.1.mono h0), Nat.le_trans h.big hk.1.size, h.ne⟩
theorem PrintAt.below {w0 w w' : World} {bb xb : Nat} {a b : ByteArray} {l : List UInt8} (h : PrintAt w0 bb xb a b l w) (hb : Below w.heap.size w w') : PrintAt w0 bb xb a b l w' :=
  ⟨h.bld.below hb, h.box.below hb h.box.lt, h.bel.trans (hb.mono h.bel.size), Nat.le_trans h.big hb.size, h.ne⟩
theorem PrintAt.cells {w0 w : World} {bb xb : Nat} {a b : ByteArray} {l : List UInt8} (h : PrintAt w0 bb xb a b l w) : w.cell? ⟨xb, 0, none⟩ = some (.string a) ∧ w.cell? ⟨xb, 1, none⟩ = some (.string b) := by
  have e0 := h.box.cell 0
  have e1 := h.box.cell 1
  simp only [List.getElem?_cons_zero, List.getElem?_cons_succ] at e0 e1
  exact ⟨e0, e1⟩
theorem BldAt.alloc {w : World} {B b : Nat} {l : List Value} (h : BldAt w B b l) (o : Obj) : BldAt (w.alloc o) B b l := Lib.BuilderAtF.alloc h o
set_option maxHeartbeats 4000000 in
theorem print_any (A : Option Addr) (n c : Nat) (l : List (ByteArray × ByteArray)) (B : Nat) (w : World) (h : Sees w B 2 A n (lbls l)) (hB : B ≤ w.heap.size) (hn : n ≤ 9223372036854775807) :
    Calls Tryz.prog 29 #[.slice A n c] w fun e w' => e = .returned (.string ⟨(printL l).toArray⟩) ∧ Below w.heap.size w w' := by
  have H := Lib.hid h
  have HL := Lib.hid h.lbl_len
  have HR := Lib.hid (rightSet_any A n c l B w h hB hn)
  clear h
  have HP : Hid (printL l = if rightS l then 123 :: (joinL l ++ [125]) else []) := Lib.hid rfl
  have HSZ := Lib.hid (@rightS_sizes l)
  have HLE := Lib.hid (@rightS_len l)
  obtain ⟨pr, hpr⟩ : ∃ pr, printL l = pr := ⟨_, rfl⟩
  rw [hpr] at HP ⊢
  obtain ⟨r, hr⟩ : ∃ r, rightS l = r := ⟨_, rfl⟩
  rw [hr] at HP HR HSZ HLE
  clear hpr hr
  cases r with
  | false =>
    have HQ : Hid (pr = []) := Lib.hid (by rw [HP.out]; rfl)
    clear HP
    go_enter Tryz.func29, Tryz.ntmps29
    go_wp2_with fail
    refine HR.out.mono ?_; rintro e w1 ⟨rfl, hb⟩
    have HB := Lib.hid hb; clear hb
    go_wp2_with fail
    go_ret
    exact ⟨by rw [HQ.out]; rfl, HB.out⟩
  | true =>
    have HQ : Hid (pr = 123 :: joinL l ++ [125]) := Lib.hid (by rw [HP.out]; rfl)
    have hs := HSZ.out rfl
    have hl6 := HLE.out rfl
    have HS := Lib.hid hs
    have hn6 : n ≤ 6 := by have := HL.out; omega
    clear HP HSZ HLE hs
    go_enter Tryz.func29, Tryz.ntmps29
    go_wp2_with fail
    refine HR.out.mono ?_; rintro e w1 ⟨rfl, hb⟩
    have hs1 := hb.size
    have HN := Lib.hid (bld_new w1)
    have HB := Lib.hid (hb.alloc hs1 (.cells #[.pointer none, .slice none 0 0] 130))
    clear hb HR
    go_wp2_with fail
    refine (bByteU w1.heap.size w1.heap.size [] 123 123 rfl _ HN.out (by simp) (by simp)).mono ?_
    rintro e w2 ⟨rfl, hbl, hk⟩
    have hs2 : w1.heap.size + 1 ≤ w2.heap.size := by have h := hk.1.size; simp at h; omega
    have HBL := Lib.hid hbl
    have HB2 := Lib.hid (HB.out.trans (hk.1.mono hs1))
    clear hbl hk HN HB
    obtain ⟨bb, hbb⟩ : ∃ bb, w1.heap.size = bb := ⟨_, rfl⟩
    rw [hbb] at HBL hs2 hs1
    rw [show (⟨w1.heap.size, 0, none⟩ : Addr) = ⟨bb, 0, none⟩ by rw [hbb]]
    clear hbb
    go_wp2_with fail
    go_loopg [12] n (fun g x12 wr => ∃ k : Nat, k + g = n ∧ x12 = .int .i64 k ∧ BldAt wr bb bb (Lib.byteCells (123 :: joinL (l.take k))) ∧ Below w.heap.size w wr ∧ bb + 1 ≤ wr.heap.size)
    case atStart => exact ⟨0, by omega, rfl, HBL.out, HB2.out, hs2⟩
    case round =>
      obtain ⟨k, hkg, rfl, hbl, hbel, hbig⟩ := hrel
      have HBL := Lib.hid hbl; have HB := Lib.hid hbel
      have hws := hbel.size
      have hjl : (123 :: joinL (l.take k)).length ≤ 1 + 76 * k := by
        have h1 := joinL_length_le (l.take k) (fun x hx => HS.out x (List.mem_of_mem_take hx))
        have h2 : (l.take k).length ≤ k := List.length_take_le _ _
        have h3 : 76 * (l.take k).length ≤ 76 * k := Nat.mul_le_mul_left _ h2
        rw [List.length_cons]; omega
      clear hbl hbel HB2
      cases gk with
      | zero =>
        obtain rfl : k = n := by omega
        have HQ2 := Lib.hid (show 123 :: joinL (l.take k) ++ [125] = pr by rw [HQ.out, List.take_of_length_le (by rw [HL.out]; exact Nat.le_refl _)])
        go_wp2_with fail
        refine (bByteU bb bb _ 125 125 rfl _ HBL.out.is (by omega) (by omega)).mono ?_
        rintro e w3 ⟨rfl, hbl, hk⟩
        rw [HQ2.out] at hbl
        have hs3 := hk.1.size
        have HBL3 := Lib.hid hbl; have HB3 := Lib.hid (HB.out.trans (hk.1.mono hs1))
        clear hbl hk HBL HB HQ2
        go_wp2_with fail
        refine (bTold bb bb _ _ HBL3.out (by omega)).mono ?_
        rintro e w4 ⟨rfl, hb4⟩
        have HB4 := Lib.hid (HB3.out.trans (hb4.mono hs1))
        clear hb4
        go_wp2_with fail
        go_ret
        exact ⟨rfl, HB4.out⟩
      | succ g =>
        have hlt : k < n := by omega
        obtain ⟨ad, hkl, rfl, c0, c1⟩ := (H.out.below (HB.out.mono hB)).lbl hlt
        have hal := World.block_lt_of_cell? wr _ c0
        have hz := HS.out l[k] (List.getElem_mem _)
        have HNXT := Lib.hid (show joinL (l.take (k + 1)) = joinL (l.take k) ++ (if (l.take k).isEmpty then lblL l[k] else 44 :: lblL l[k]) by rw [List.take_succ_eq_append_getElem hkl, joinL_snoc])
        have HEM := Lib.hid (take_empty hkl)
        generalize l[k] = p at *
        obtain ⟨a, b⟩ := p
        simp only at c0 c1 hz
        obtain ⟨hz1, hz2⟩ := hz
        obtain ⟨xb, hxb⟩ : ∃ xb, wr.heap.size = xb := ⟨_, rfl⟩
        have HPA : Hid (PrintAt w bb xb a b (123 :: joinL (l.take k)) (wr.alloc (.cells #[.string a, .string b] 25))) := Lib.hid ⟨HBL.out.alloc _, by rw [← hxb]; exact Blk.mk (heap_alloc_new wr _), HB.out.alloc hws _, by simp; omega, by omega⟩
        have HQU := Lib.hid (fun W => lquote_any b W (by omega))
        have hql : (quoteL b.data.toList).length ≤ 50 := by
          have h1 := quoteL_length_le b.data.toList
          have h2 : b.data.toList.length = b.size := by simp
          omega
        clear HBL HB
        obtain ⟨old, hold⟩ : ∃ old, 123 :: joinL (l.take k) = old := ⟨_, rfl⟩
        rw [hold] at HPA hjl
        have HOLD := Lib.hid hold
        clear hold
        rcases Nat.eq_zero_or_pos k with hk0 | hk0
        · have z1 : ¬ (0 : Int) < k := by omega
          have HN2 : Hid (123 :: joinL (l.take (k + 1)) = old ++ a.data.toList ++ [61] ++ quoteL b.data.toList) := Lib.hid (by
            rw [HNXT.out, HEM.out, decide_eq_true hk0, if_pos rfl, ← HOLD.out]; simp [lblL])
          clear HNXT HEM HOLD hk0
          go_wp2_with fail
          have hs4 := HPA.out.big
          refine (bStringU bb bb _ a _ HPA.out.bld.is (by first | omega | (simp; omega)) (by omega)).mono ?_
          rintro e w4 ⟨rfl, hbl, hk⟩
          have HPA4 := Lib.hid (HPA.out.kept hs1 hbl hk)
          obtain ⟨e0, e1⟩ := HPA4.out.cells
          have hs4 := HPA4.out.big
          clear hbl hk HPA
          go_wp2_with fail
          refine (bByteU bb bb _ 61 61 rfl _ HPA4.out.bld.is (by first | omega | (simp; omega)) (by omega)).mono ?_
          rintro e w5 ⟨rfl, hbl, hk⟩
          have HPA5 := Lib.hid (HPA4.out.kept hs1 hbl hk)
          clear e0 e1
          obtain ⟨e0, e1⟩ := HPA5.out.cells
          have hs5 := HPA5.out.big
          clear hbl hk HPA4
          go_wp2_with fail
          refine (HQU.out _).mono ?_
          rintro e w6 ⟨rfl, hb6⟩
          have HPA6 := Lib.hid (HPA5.out.below hb6)
          have hqs : (⟨(quoteL b.data.toList).toArray⟩ : ByteArray).size ≤ 50 := by show (quoteL b.data.toList).toArray.size ≤ 50; simpa using hql
          have hs6 := HPA6.out.big
          clear hb6 HPA5 e0 e1
          go_wp2_with fail
          refine (bStringU bb bb _ ⟨(quoteL b.data.toList).toArray⟩ _ HPA6.out.bld.is (by first | omega | (simp; omega)) (by omega)).mono ?_
          rintro e w7 ⟨rfl, hbl, hk⟩
          have HPA7 := Lib.hid (HPA6.out.kept hs1 hbl hk)
          clear hbl hk HPA6
          go_wp2_with fail
          go_roundg g
          case measure => omega
          case rel => exact ⟨k + 1, by omega, by go_num, by rw [HN2.out]; exact HPA7.out.bld, HPA7.out.bel, HPA7.out.big⟩
        · have z1 : (0 : Int) < k := by omega
          have HN2 : Hid (123 :: joinL (l.take (k + 1)) = old ++ [44] ++ a.data.toList ++ [61] ++ quoteL b.data.toList) := Lib.hid (by
            rw [HNXT.out, HEM.out, decide_eq_false (by omega), if_neg (by simp), ← HOLD.out]; simp [lblL])
          clear HNXT HEM HOLD hk0
          go_wp2_with fail
          have hs3 := HPA.out.big
          refine (bByteU bb bb _ 44 44 rfl _ HPA.out.bld.is (by omega) (by omega)).mono ?_
          rintro e w3 ⟨rfl, hbl, hk⟩
          have HPA3 := Lib.hid (HPA.out.kept hs1 hbl hk)
          obtain ⟨e0, e1⟩ := HPA3.out.cells
          clear hbl hk HPA
          have HPA := HPA3
          clear HPA3
          go_wp2_with fail
          have hs4 := HPA.out.big
          refine (bStringU bb bb _ a _ HPA.out.bld.is (by first | omega | (simp; omega)) (by omega)).mono ?_
          rintro e w4 ⟨rfl, hbl, hk⟩
          have HPA4 := Lib.hid (HPA.out.kept hs1 hbl hk)
          obtain ⟨e0, e1⟩ := HPA4.out.cells
          have hs4 := HPA4.out.big
          clear hbl hk HPA
          go_wp2_with fail
          refine (bByteU bb bb _ 61 61 rfl _ HPA4.out.bld.is (by first | omega | (simp; omega)) (by omega)).mono ?_
          rintro e w5 ⟨rfl, hbl, hk⟩
          have HPA5 := Lib.hid (HPA4.out.kept hs1 hbl hk)
          clear e0 e1
          obtain ⟨e0, e1⟩ := HPA5.out.cells
          have hs5 := HPA5.out.big
          clear hbl hk HPA4
          go_wp2_with fail
          refine (HQU.out _).mono ?_
          rintro e w6 ⟨rfl, hb6⟩
          have HPA6 := Lib.hid (HPA5.out.below hb6)
          have hqs : (⟨(quoteL b.data.toList).toArray⟩ : ByteArray).size ≤ 50 := by show (quoteL b.data.toList).toArray.size ≤ 50; simpa using hql
          have hs6 := HPA6.out.big
          clear hb6 HPA5 e0 e1
          go_wp2_with fail
          refine (bStringU bb bb _ ⟨(quoteL b.data.toList).toArray⟩ _ HPA6.out.bld.is (by first | omega | (simp; omega)) (by omega)).mono ?_
          rintro e w7 ⟨rfl, hbl, hk⟩
          have HPA7 := Lib.hid (HPA6.out.kept hs1 hbl hk)
          clear hbl hk HPA6
          go_wp2_with fail
          go_roundg g
          case measure => omega
          case rel => exact ⟨k + 1, by omega, by go_num, by rw [HN2.out]; exact HPA7.out.bld, HPA7.out.bel, HPA7.out.big⟩
end Go.Proofs.YtlmakdclebbbkaaGreat

namespace Go.Proofs.YtlmakdclebbbkaaGreat
open Go.RowKit
set_option linter.unusedVariables false
/-- The row v' lies where v lay, or in memory that is new since w. -/
def Where (w : World) (v v' : Value) : Prop := v'.ownBlock = v.ownBlock ∨ ∀ k, v'.ownBlock = some k → w.heap.size ≤ k
theorem Where.refl (w : World) (v : Value) : Where w v v := .inl rfl
/-- A row of another block stays another one. -/
theorem Where.apart {w : World} {v v' u : Value} (h : Where w v v') (hu : ∀ k, u.ownBlock = some k → k < w.heap.size ∧ v.ownBlock ≠ some k) : ∀ k, u.ownBlock = some k → v'.ownBlock ≠ some k := by
  intro k hk h'
  obtain ⟨h1, h2⟩ := hu k hk
  rcases h with h | h
  · exact h2 (h ▸ h')
  · have := h k h'; omega
theorem append_where {P : Program} (w : World) (base : Nat) (t ty e : TypeId) (i : TypeInfo) (z : Value) (size bytes : Nat) (ht : P.underlying t = some (.slice e)) (hi : P.info? e = some i) (hz : i.zero = some z)
    (hsize : i.size = size) (hby : i.bytes = bytes) (hzs : z.cells.size = size) (hsz : 0 < size)
    (v : Value) (n : Nat) (xs : List Value) (hown : w.ownsRow base e size v n xs)
    (B : Nat) (A : Option Addr) (m c : Nat) (news : List Value) (hs : Sees w B size A m news) (h1 : ∀ u ∈ news, u.oneCell' = true)
    (h63 : n + m ≤ maxLen) (hbytes : (n + m) * bytes ≤ 140737488355328) (v' : Value) (w' : World)
    (hr : (Builtin.append_ #[t, t] ty #[v, .slice A m c]).run P w = .ok v' w') : Where w v v' := by
  subst hsize; subst hby
  have hsmall : n + m ≤ 9223372036854775807 := by simp only [maxLen] at h63; omega
  cases A with
  | none =>
    have hm : m = 0 := by
      rcases Nat.eq_zero_or_pos m with h | h
      · exact h
      · obtain ⟨ad, h, _⟩ := hs.at_ h; cases h
    subst hm
    rw [nothing_appended w base t ty e i i.size ht hi v n xs hown c] at hr
    injection hr with hr _
    exact .inl (by rw [hr])
  | some ad =>
    have hl := hs.len
    have hnews : ∀ j u, news[j]? = some u → w.cell? (ad.add j) = some u := by
      intro j u hu
      have hm : 0 < m := by
        have h := (List.getElem?_eq_some_iff.1 hu).1
        rw [hs.len] at h
        rcases Nat.eq_zero_or_pos m with h0 | h0
        · subst h0; simp at h
        · exact h0
      obtain ⟨ad', h, _, hc⟩ := hs.at_ hm
      injection h with h; subst h
      exact hc j u hu
    rcases hown.2 with ⟨rfl, rfl⟩ | ⟨g, cap, cur, rfl, hbg, hg, hnc, hcm, hcs, htake⟩
    · by_cases hm : m = 0
      · subst hm
        have hr0 : (Builtin.append_ #[t, t] ty #[.slice none 0 0, .slice (some ad) 0 c]).run P w = .ok (.slice none 0 0) w := by
          simp [Builtin.append_, run_underlying ht, sizeOf, typeInfo, hi, Builtin.lenOf, Builtin.firstCells, loadCells, loadCellsFrom]
        rw [hr0] at hr
        injection hr with hr _
        exact .inl (by rw [hr])
      · rw [run_append_nil (P := P) w t ty e i z ht hi hz ad m c news hl hnews (by omega) (by omega) (by have hb := hbytes; simp only [Nat.zero_add] at hb; omega)] at hr
        injection hr with hr _
        exact .inr fun k hk => by rw [← hr] at hk; simp [Value.ownBlock] at hk; omega
    · by_cases hroom : n + m ≤ cap
      · have hfit : n * i.size + news.length ≤ cur.size := by rw [hl, hcs, ← Nat.add_mul]; exact Nat.mul_le_mul_right _ hroom
        rw [run_append_room (P := P) w t ty e i ht hi g n cap cur hg ad m c news hl hnews h1 hroom hfit] at hr
        injection hr with hr _
        exact .inl (by rw [← hr]; rfl)
      · have holds : ∀ j u, xs[j]? = some u → w.cell? ((⟨g, 0, none⟩ : Addr).add j) = some u := hown.cells (g := g) rfl
        rw [run_append_grow (P := P) w t ty e i z ht hi hz ⟨g, 0, none⟩ n cap xs hown.1 holds ad m c news hl hnews (by omega) (by omega) (growslice_fits (by omega) hbytes)] at hr
        injection hr with hr _
        exact .inr fun k hk => by rw [← hr] at hk; simp [Value.ownBlock] at hk; omega
theorem wpList_append_at {P : Program} {w : World} {ops : Array Oper} {rest : List Oper} {o : Oper} {a : Act} {Q : Exit → Act → World → Prop} (hgd : o.guard = none) (s x : Operand) (t : TypeId)
    (ho : o.op = .call { callee := .builtin .append, args := #[s, x], argTypes := #[t, t] })
    (base : Nat) (e : TypeId) (i : TypeInfo) (z : Value) (size bytes : Nat) (ht : P.underlying t = some (.slice e)) (hi : P.info? e = some i) (hz : i.zero = some z)
    (hsize : i.size = size) (hby : i.bytes = bytes) (hzs : z.cells.size = size) (hsz : 0 < size)
    (v : Value) (n : Nat) (xs : List Value) (hv : a.eval s = v) (hown : w.ownsRow base e size v n xs)
    (B : Nat) (A : Option Addr) (m c : Nat) (news : List Value) (hx : a.eval x = .slice A m c) (hs : Sees w B size A m news) (h1 : ∀ u ∈ news, u.oneCell' = true)
    (h63 : n + m ≤ maxLen) (hbytes : (n + m) * bytes ≤ 140737488355328) (hbase : base ≤ w.heap.size)
    (h : ∀ v' w', w'.ownsRow base e size v' (n + m) (xs ++ news) → w.grownBy w' v.ownBlock → Where w v v' → wpList P ops Q rest (a.put o.dst v') w') : wpList P ops Q (o :: rest) a w := by
  refine wpList_plain hgd fun K hK => ?_
  obtain ⟨v', w', hr, h2, h3⟩ := append_run (P := P) w base t o.type e i z size bytes ht hi hz hsize hby hzs hsz v n xs hown B A m c news hs h1 h63 hbytes hbase
  have h4 := append_where (P := P) w base t o.type e i z size bytes ht hi hz hsize hby hzs hsz v n xs hown B A m c news hs h1 h63 hbytes v' w' hr
  unfold Oper.wp execOp
  simp only [ho, resolve, invoke, builtin, Sem.run_bind, Sem.run_pure, Result.andThen_ok, List.map_toArray, List.map_cons, List.map_nil, hv, hx, hr]
  exact hK _ _ (h v' w' h2 h3 h4)
end Go.Proofs.YtlmakdclebbbkaaGreat

namespace Go.Proofs.YtlmakdclebbbkaaGreat
open Go.RowKit
set_option linter.unusedVariables false
theorem only_alloc {a w : World} {row : Option Nat} (h : a.grownBy w row) (o : Obj) : a.grownBy (w.alloc o) row :=
  ⟨h.os, h.tape, h.output, Nat.le_trans h.size (by simp), fun i hi hne => (Below.heap_alloc w o i (Nat.lt_of_lt_of_le hi h.size)).trans (h.block i hi hne)⟩
theorem only_drewN {a w : World} {row : Option Nat} (h : a.grownBy w row) (n : Nat) : a.grownBy (w.drewN n) row := ⟨h.os, h.tape, h.output, h.size, h.block⟩
theorem only_setCell {a w : World} {row : Option Nat} (h : a.grownBy w row) {p : Addr} (hp : row = some p.block ∨ a.heap.size ≤ p.block) (u : Value) : a.grownBy (w.setCell p u) row :=
  ⟨h.os, h.tape, h.output, by simpa [World.setCell] using h.size, fun i hi hne => (Below.heap_setCell w p u i (by
    rintro rfl
    rcases hp with hp | hp
    · exact hne hp.symm
    · omega)).trans (h.block i hi hne)⟩
theorem Where.trans {a b : World} {v v1 v2 : Value} (h : Where a v v1) (k : Where b v1 v2) (hs : a.heap.size ≤ b.heap.size) : Where a v v2 := by
  rcases k with k | k
  · rcases h with h | h
    · exact .inl (k.trans h)
    · exact .inr fun i hi => h i (k ▸ hi)
  · exact .inr fun i hi => Nat.le_trans hs (k i hi)
end Go.Proofs.YtlmakdclebbbkaaGreat

namespace Go.Proofs.YtlmakdclebbbkaaGreat
open Go.ChangeShapes Go.WideShapes Go.ChangeAt Go.RowKit
set_option linter.unusedVariables false
set_option maxRecDepth 100000
theorem Tryz.infoLabel : (Tryz.prog.info? 25).map (fun i => (i.zero, i.size, i.bytes)) = some (some (.agg #[.string ⟨#[]⟩, .string ⟨#[]⟩]), 2, 32) := by kernel_rfl
end Go.Proofs.YtlmakdclebbbkaaGreat

namespace Go.Proofs.YtlmakdclebbbkaaGreat
open Go.ChangeShapes Go.WideShapes Go.ChangeAt Go.RowKit
set_option linter.unusedVariables false
set_option maxRecDepth 100000
/-- Is x one of zs. -/
def hasS (zs : List ByteArray) (x : ByteArray) : Bool := zs.any fun z => decide (z = x)
theorem hasS_iff {zs : List ByteArray} {x : ByteArray} : hasS zs x = true ↔ x ∈ zs := by
  simp [hasS]
theorem hasS_yes {zs : List ByteArray} {x : ByteArray} (h : x ∈ zs) : hasS zs x = true := hasS_iff.2 h
theorem hasS_no {zs : List ByteArray} {x : ByteArray} (h : x ∉ zs) : hasS zs x = false := by
  cases hq : hasS zs x with
  | false => rfl
  | true => exact absurd (hasS_iff.1 hq) h
theorem index_str (A : Option Addr) (n c B : Nat) (zs : List ByteArray) (x : ByteArray) (w : World) (h : Sees w B 1 A n (strs zs)) (hn : n ≤ 9223372036854775807) :
    Calls Tryz.prog 164 #[.slice A n c, .string x] w fun e w' => (∃ k : Int, e = .returned (.int .i64 k) ∧ (hasS zs x = decide (0 ≤ k))) ∧ w = w' := by
  have H := Lib.hid h
  have HL := Lib.hid h.str_len
  clear h
  go_enter Tryz.func164, Tryz.ntmps164
  go_wp2_with fail
  go_loop [8] (fun i => ∃ k : Nat, k ≤ n ∧ i = .int .i64 k ∧ x ∉ zs.take k) (fun i => n - (intOf i).toNat)
  case atStart => exact ⟨0, Nat.zero_le _, rfl, by simp⟩
  case round =>
    obtain ⟨k, hk, rfl, ht⟩ := hrel
    have HT := Lib.hid ht; clear ht
    by_cases hlt : k < n
    · obtain ⟨ad, hkl, rfl, hc⟩ := H.out.str hlt
      by_cases he : x = zs[k]
      · have HE := Lib.hid (show hasS zs x = decide (0 ≤ (k : Int)) by rw [hasS_yes (by rw [he]; exact List.getElem_mem _), decide_eq_true (by omega)])
        have t1 : (x.toList == (zs[k]).toList) = true := by rw [← he]; simp
        clear he
        go_wp2_with fail
        go_ret
        exact ⟨⟨k, rfl, HE.out⟩, rfl⟩
      · have t1 : (x.toList == (zs[k]).toList) = false := by rw [beq_eq_false_iff_ne]; exact fun h => he (ba_ext h)
        have HN := Lib.hid (show x ∉ zs.take (k + 1) by rw [List.take_succ_eq_append_getElem hkl]; simp only [List.mem_append, List.mem_singleton, not_or]; exact ⟨HT.out, he⟩)
        clear he
        go_wp2_with fail
        go_round
        case rel => exact ⟨k + 1, by omega, by go_num, HN.out⟩
        case measure => simp [intOf]; omega
    · obtain rfl : k = n := by omega
      have HE := Lib.hid (show hasS zs x = decide (0 ≤ (-1 : Int)) by
        have h := HT.out
        rw [List.take_of_length_le (by rw [HL.out]; exact Nat.le_refl _)] at h
        rw [hasS_no h]; rfl)
      go_wp2_with fail
      go_ret
      exact ⟨⟨-1, rfl, HE.out⟩, rfl⟩
theorem contains_str (A : Option Addr) (n c B : Nat) (zs : List ByteArray) (x : ByteArray) (w : World) (h : Sees w B 1 A n (strs zs)) (hn : n ≤ 9223372036854775807) :
    Calls Tryz.prog 137 #[.slice A n c, .string x] w fun e w' => e = .returned (.bool (hasS zs x)) ∧ w = w' := by
  have HI := Lib.hid (index_str A n c B zs x w h hn)
  clear h
  generalize hasS zs x = q at *
  go_enter Tryz.func137, Tryz.ntmps137
  go_wp2_with fail
  refine HI.out.mono ?_; rintro e w' ⟨⟨k, rfl, hq⟩, rfl⟩
  have HQ := Lib.hid hq
  clear hq
  go_wp2_with fail
  go_ret
  exact ⟨by rw [HQ.out]; rfl, rfl⟩
end Go.Proofs.YtlmakdclebbbkaaGreat
