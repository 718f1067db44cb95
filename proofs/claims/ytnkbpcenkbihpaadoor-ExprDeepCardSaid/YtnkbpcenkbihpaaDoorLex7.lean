/- lex.Join (written by gen_lex7.py). -/
import Derived.Test.YtnkbpcenkbihpaaDoorLex6
import Derived.Lib.ItoaLen
import Derived.Lib.SmallJoins
import Derived.Lib.AppendIntMem
import Derived.Lib.OthersKept
namespace Go.Proofs.YtnkbpcenkbihpaaDoor
open Go.ChangeShapes Go.WideShapes Go.ChangeAt Go.RowKit
set_option linter.unusedVariables false
set_option linter.unusedSimpArgs false
set_option maxRecDepth 100000
/-- A token's own text. -/
def tokL (t : Tok) : List UInt8 := if t.kd = 1 then Lib.itoa t.n else if t.kd = 2 ∨ t.kd = 4 then t.tx.data.toList else if t.kd = 3 then quoteL t.tx.data.toList else []
/-- Tokens' texts, blanks between. -/
def joinT : List Tok → List UInt8
  | [] => []
  | x :: l => tokL x ++ (if l.isEmpty then [] else 32 :: joinT l)
theorem joinT_snoc (l : List Tok) (x : Tok) : joinT (l ++ [x]) = joinT l ++ (if l.isEmpty then tokL x else 32 :: tokL x) := by
  induction l with
  | nil => simp [joinT]
  | cons y l ih =>
    rw [List.cons_append, joinT, joinT, ih]
    cases l <;> simp [joinT]
/-- A token that join's contract speaks of. -/
def TokOk (t : Tok) : Prop := t.tx.size ≤ 1000 ∧ -9223372036854775808 ≤ t.n ∧ t.n ≤ 9223372036854775807
theorem tokL_length_le {t : Tok} (h : TokOk t) : (tokL t).length ≤ 2002 := by
  have h1 := Lib.itoa_length_le t.n h.2.1 h.2.2
  have h2 := quoteL_length_le t.tx.data.toList
  have h3 : t.tx.data.toList.length = t.tx.size := by simp
  have := h.1
  unfold tokL; repeat' split
  all_goals (try simp only [List.length_nil]); all_goals omega
theorem joinT_length_le (l : List Tok) (h : ∀ x ∈ l, TokOk x) : (joinT l).length ≤ 2003 * l.length := by
  induction l with
  | nil => simp [joinT]
  | cons x l ih =>
    have h1 := tokL_length_le (h x List.mem_cons_self)
    have h2 := ih fun y hy => h y (List.mem_cons_of_mem _ hy)
    rw [joinT, List.length_append, List.length_cons]
    split
    · simp; omega
    · rw [List.length_cons]; omega
theorem take_emptyT {l : List Tok} {k : Nat} (h : k < l.length) : (l.take k).isEmpty = decide (k = 0) := by
  cases k with
  | zero => simp
  | succ k => cases l with
    | nil => simp at h
    | cons x l => simp
theorem tcells_get (l : List Tok) (p : Nat) (h : p < l.length) : (tcells l)[p * 4]? = some (.int .i64 l[p].kd) ∧ (tcells l)[p * 4 + 1]? = some (.int .i64 l[p].n) ∧ (tcells l)[p * 4 + 2]? = some (.int .i64 l[p].at_) ∧ (tcells l)[p * 4 + 3]? = some (.string l[p].tx) := by
  have e : tcells l = tcells (l.take p) ++ ([.int .i64 l[p].kd, .int .i64 l[p].n, .int .i64 l[p].at_, .string l[p].tx] ++ tcells (l.drop (p + 1))) := by
    have e1 : l = l.take p ++ (l[p] :: l.drop (p + 1)) := by rw [← List.drop_eq_getElem_cons h, List.take_append_drop]
    conv => lhs; rw [e1]
    rw [tcells_append]; rfl
  have hl : (tcells (l.take p)).length = p * 4 := by rw [tcells_length, List.length_take]; omega
  rw [e]
  refine ⟨?_, ?_, ?_, ?_⟩ <;> rw [List.getElem?_append_right (by omega), hl]
  · rw [Nat.sub_self]; rfl
  · rw [show p * 4 + 1 - p * 4 = 1 by omega]; rfl
  · rw [show p * 4 + 2 - p * 4 = 2 by omega]; rfl
  · rw [show p * 4 + 3 - p * 4 = 3 by omega]; rfl
theorem Sees.tok {w : World} {B : Nat} {A : Option Addr} {n : Nat} {l : List Tok} (h : Sees w B 4 A n (tcells l)) {k : Nat} (hk : k < n) :
    ∃ ad, ∃ hl : k < l.length, A = some ad ∧ w.cell? (ad.add (k * 4)) = some (.int .i64 l[k].kd) ∧ w.cell? ⟨(ad.add (k * 4)).block, (ad.add (k * 4)).off + 1, none⟩ = some (.int .i64 l[k].n) ∧ w.cell? ⟨(ad.add (k * 4)).block, (ad.add (k * 4)).off + 2, none⟩ = some (.int .i64 l[k].at_) ∧ w.cell? ⟨(ad.add (k * 4)).block, (ad.add (k * 4)).off + 3, none⟩ = some (.string l[k].tx) := by
  have hl : k < l.length := by have := h.len; rw [tcells_length] at this; omega
  obtain ⟨ad, e, _, hc⟩ := h.at_ (by omega)
  obtain ⟨h0, h1, h2, h3⟩ := tcells_get l k hl
  exact ⟨ad, hl, e, hc _ _ h0, by rw [add_spelt _ _ _ (by omega)]; exact hc _ _ h1, by rw [add_spelt _ _ _ (by omega)]; exact hc _ _ h2, by rw [add_spelt _ _ _ (by omega)]; exact hc _ _ h3⟩
theorem bld_below {w w' : World} {B b : Nat} {l : List Value} (h : Bld w B b l) (hb : Below w.heap.size w w') : Bld w' B b l := by
  have key : ∀ p, Lib.BuilderAtF 63 5 B b p l w → Lib.BuilderAtF 63 5 B b p l w' := by
    rintro p ⟨hB, v, hbk, hown, hne⟩
    have hlt : b < w.heap.size := by
      rcases Nat.lt_or_ge b w.heap.size with h' | h'
      · exact h'
      · simp [Array.getElem?_eq_none h'] at hbk
    refine ⟨hB, v, (hb.block b hlt).trans hbk, ⟨hown.1, ?_⟩, hne⟩
    rcases hown.2 with h | ⟨g, cap, cur, fz, hv, hg, hh, rest⟩
    · exact .inl h
    · refine .inr ⟨g, cap, cur, fz, hv, hg, ?_, rest⟩
      have : g < w.heap.size := (Array.getElem?_eq_some_iff.1 hh).1
      exact (hb.block g this).trans hh
  exact h.elim (fun x => .inl (key _ x)) (fun x => .inr (key _ x))
theorem bld_alloc {w : World} {B b : Nat} {l : List Value} (h : Bld w B b l) (o : Obj) : Bld (w.alloc o) B b l := bld_below h ((Below.refl w.heap.size w).alloc (Nat.le_refl _) o)
theorem BldKept.blk {B b : Nat} {w w' : World} (h : BldKept B b w w') {x : Nat} {t : TypeId} {cs : List Value} (hx : Blk w x t cs) (hb : x ≠ b) (ht : t ≠ 5) : Blk w' x t cs :=
  h.2 x _ hx (fun e => hb (by injection e)) (by intro c fz e; injection e with _ e _; exact ht e)
/-- The powers of ten lie where strconv has them. -/
def Tab (w : World) : Prop := Lib.TabIs Tryd.prog w "internal/strconv.uint64pow10" .u64 Lib.pow10Tab
theorem tab_of {w w' : World} (h : Tab w) (hb : Below w.heap.size w w') : Tab w' := by
  have hs : (Tryd.prog.globalNamed "internal/strconv.uint64pow10").isSome = true := by kernel_rfl
  obtain ⟨g, hg⟩ := Option.isSome_iff_exists.1 hs
  exact Go.Joins.tab_stays hg h hb (Nat.le_refl _)
theorem itoa_below (n : Int) (h0 : -9223372036854775808 ≤ n) (h1 : n ≤ 9223372036854775807) (w : World) (ht : Tab w) :
    Calls Tryd.prog 41 #[.int .i64 n] w fun e w' => e = .returned (.string ⟨(Lib.itoa n).toArray⟩) ∧ Below w.heap.size w w' :=
  (Tryd.strconv_Itoa n h0 h1 w ht).mono (by rintro e w' ⟨h, k, os, rfl⟩; exact ⟨h, Lib.below_grow _ w (Nat.le_refl _) k os⟩)
theorem bToldU (B b : Nat) (l : List UInt8) (w : World) (h : Bld w B b (Lib.byteCells l)) (hBw : B ≤ w.heap.size) :
    Calls Tryd.prog 31 #[.pointer (some ⟨b, 0, none⟩)] w fun e w' => e = .returned (.string ⟨l.toArray⟩) ∧ Below B w w' :=
  (Tryd.Builder_String_any_k B b l w h hBw).mono fun _ _ h => ⟨h.1, h.2.2.1⟩
/-- Within Join's round: the builder, the box of the token, all that was there. -/
structure JoinAt (w0 : World) (bb xb : Nat) (t : Tok) (l : List UInt8) (w : World) : Prop where
  bld : Bld w bb bb (Lib.byteCells l)
  box : Blk w xb 43 [.int .i64 t.kd, .int .i64 t.n, .int .i64 t.at_, .string t.tx]
  bel : Below w0.heap.size w0 w
  big : bb + 1 ≤ w.heap.size
  ne : xb ≠ bb
theorem JoinAt.kept {w0 w w' : World} {bb xb : Nat} {t : Tok} {l l' : List UInt8} (h : JoinAt w0 bb xb t l w) (h0 : w0.heap.size ≤ bb) (hb : BldAt w' bb bb (Lib.byteCells l')) (hk : BldKept bb bb w w') : JoinAt w0 bb xb t l' w' :=
  ⟨hb.is, hk.blk h.box h.ne (by decide), h.bel.trans (hk.1.mono h0), Nat.le_trans h.big hk.1.size, h.ne⟩
theorem JoinAt.below {w0 w w' : World} {bb xb : Nat} {t : Tok} {l : List UInt8} (h : JoinAt w0 bb xb t l w) (hb : Below w.heap.size w w') : JoinAt w0 bb xb t l w' :=
  ⟨bld_below h.bld hb, h.box.below hb h.box.lt, h.bel.trans (hb.mono h.bel.size), Nat.le_trans h.big hb.size, h.ne⟩
theorem JoinAt.cells {w0 w : World} {bb xb : Nat} {kd tn tat : Int} {tx : ByteArray} {l : List UInt8} (h : JoinAt w0 bb xb ⟨kd, tn, tat, tx⟩ l w) : w.cell? ⟨xb, 0, none⟩ = some (.int .i64 kd) ∧ w.cell? ⟨xb, 1, none⟩ = some (.int .i64 tn) ∧ w.cell? ⟨xb, 3, none⟩ = some (.string tx) :=
  ⟨h.box.cell 0, h.box.cell 1, h.box.cell 3⟩
set_option maxHeartbeats 8000000 in
theorem join_any (A : Option Addr) (n c : Nat) (l : List Tok) (B : Nat) (w : World) (h : Sees w B 4 A n (tcells l)) (hB : B ≤ w.heap.size) (hn : n ≤ 1000000) (hok : ∀ t ∈ l, TokOk t) (htab : Tab w) :
    Calls Tryd.prog 18 #[.slice A n c] w fun e w' => e = .returned (.string ⟨(joinT l).toArray⟩) ∧ Below w.heap.size w w' := by
  have H := Lib.hid h
  have HTAB := Lib.hid htab
  have HOK := Lib.hid hok
  have HL := Lib.hid (show l.length = n by have := h.len; rw [tcells_length] at this; omega)
  clear h htab hok
  obtain ⟨pr, hpr⟩ : ∃ pr, joinT l = pr := ⟨_, rfl⟩
  rw [hpr]
  have HPR := Lib.hid hpr
  clear hpr
  go_enter Tryd.func18, Tryd.ntmps18
  have HBL0 := Lib.hid (bld_new w)
  have HB0 := Lib.hid ((Below.refl w.heap.size w).alloc (Nat.le_refl _) (.cells #[.pointer none, .slice none 0 0] 63))
  have hs0 : w.heap.size + 1 ≤ (w.alloc (.cells #[.pointer none, .slice none 0 0] 63)).heap.size := by simp
  go_wp2_with fail
  obtain ⟨bb, hbb⟩ : ∃ bb, w.heap.size = bb := ⟨_, rfl⟩
  generalize (w.alloc (.cells #[.pointer none, .slice none 0 0] 63)) = w1 at *
  have hs1 : w.heap.size ≤ bb := by omega
  have hs2 : bb + 1 ≤ w1.heap.size := by omega
  rw [hbb] at HBL0
  rw [show (⟨w.heap.size, 0, none⟩ : Addr) = ⟨bb, 0, none⟩ by rw [hbb]]
  clear hbb hs0
  go_loopg [8] n (fun g x8 wr => ∃ k : Nat, k + g = n ∧ x8 = .int .i64 k ∧ Bld wr bb bb (Lib.byteCells (joinT (l.take k))) ∧ Below w.heap.size w wr ∧ bb + 1 ≤ wr.heap.size)
  case atStart => exact ⟨0, by omega, rfl, HBL0.out, HB0.out, hs2⟩
  case round =>
    obtain ⟨k, hkg, rfl, hbl, hbel, hbig⟩ := hrel
    have HBL := Lib.hid hbl; have HB := Lib.hid hbel
    have hws := hbel.size
    have hjl : (joinT (l.take k)).length ≤ 2003 * k := by
      have h1 := joinT_length_le (l.take k) (fun x hx => HOK.out x (List.mem_of_mem_take hx))
      have h2 : (l.take k).length ≤ k := List.length_take_le _ _
      have h3 : 2003 * (l.take k).length ≤ 2003 * k := Nat.mul_le_mul_left _ h2
      omega
    clear hbl hbel HBL0 HB0
    cases gk with
    | zero =>
      obtain rfl : k = n := by omega
      have HQ2 := Lib.hid (show joinT (l.take k) = pr by rw [← HPR.out, List.take_of_length_le (by rw [HL.out]; exact Nat.le_refl _)])
      go_wp2_with fail
      refine (bToldU bb bb _ _ HBL.out (by omega)).mono ?_
      rintro e w4 ⟨rfl, hb4⟩
      have HB4 := Lib.hid (HB.out.trans (hb4.mono hs1))
      clear hb4
      go_wp2_with fail
      go_ret
      exact ⟨by rw [HQ2.out]; rfl, HB4.out⟩
    | succ g =>
      have hlt : k < n := by omega
      obtain ⟨ad, hkl, rfl, c0, c1, c2, c3⟩ := (H.out.below (HB.out.mono hB)).tok hlt
      have hal := World.block_lt_of_cell? wr _ c0
      have hz0 := HOK.out l[k] (List.getElem_mem _)
      have hz := hz0.1
      have HTN := Lib.hid hz0.2
      clear hz0
      have HNXT := Lib.hid (show joinT (l.take (k + 1)) = joinT (l.take k) ++ (if (l.take k).isEmpty then tokL l[k] else 32 :: tokL l[k]) by rw [List.take_succ_eq_append_getElem hkl, joinT_snoc])
      have HEM := Lib.hid (take_emptyT hkl)
      generalize l[k] = t at *
      obtain ⟨xb, hxb⟩ : ∃ xb, wr.heap.size = xb := ⟨_, rfl⟩
      have HPA : Hid (JoinAt w bb xb t (joinT (l.take k)) (wr.alloc (.cells #[.int .i64 t.kd, .int .i64 t.n, .int .i64 t.at_, .string t.tx] 43))) := Lib.hid ⟨bld_alloc HBL.out _, by rw [← hxb]; exact Blk.mk (heap_alloc_new wr _), HB.out.alloc hws _, by simp; omega, by omega⟩
      clear HBL HB
      obtain ⟨old, hold⟩ : ∃ old, joinT (l.take k) = old := ⟨_, rfl⟩
      rw [hold] at HPA hjl HNXT
      clear hold
      rcases Nat.eq_zero_or_pos k with hk0 | hk0
      · have z1 : ¬ (0 : Int) < k := by omega
        have HN2 : Hid (joinT (l.take (k + 1)) = old ++ tokL t) := Lib.hid (by
          rw [HNXT.out, HEM.out, decide_eq_true hk0, if_pos rfl])
        clear HNXT HEM hk0
        go_upto_region 7 with fail
        obtain ⟨pre, hpre⟩ : ∃ pre, old = pre := ⟨_, rfl⟩
        have hpl : pre.length ≤ 2003 * k + 1 := by rw [← hpre]; omega
        rw [hpre] at HN2 HPA
        clear hpre hjl
        obtain ⟨kd, tn, tat, tx⟩ := t
        simp only at hz HTN
        by_cases hk1 : kd = 1
        · have q1 : (kd == 1) = true := by simp [hk1]
          have HN3 : Hid (joinT (l.take (k + 1)) = pre ++ Lib.itoa tn) := Lib.hid (by rw [HN2.out]; simp [tokL, hk1])
          have hil := Lib.itoa_length_le tn HTN.out.1 HTN.out.2
          have his : (⟨(Lib.itoa tn).toArray⟩ : ByteArray).size ≤ 21 := by show (Lib.itoa tn).toArray.size ≤ 21; simpa using hil
          have HI := Lib.hid (fun W hW => itoa_below tn HTN.out.1 HTN.out.2 W hW)
          have HTB2 := Lib.hid (tab_of HTAB.out HPA.out.bel)
          clear hk1 HN2 hil HTN
          obtain ⟨e0, e1, e3⟩ := HPA.out.cells
          go_wp2_with fail
          refine (HI.out _ HTB2.out).mono ?_
          rintro e w4 ⟨rfl, hb4⟩
          have HPA4 := Lib.hid (HPA.out.below hb4)
          have hs4 := HPA4.out.big
          clear hb4 HPA e0 e1 e3 HI HTB2
          go_wp2_with fail
          refine (bStringU bb bb _ ⟨(Lib.itoa tn).toArray⟩ _ HPA4.out.bld (by first | omega | (simp; omega)) (by omega)).mono ?_
          rintro e w5 ⟨rfl, hbl, hk⟩
          have HPA5 := Lib.hid (HPA4.out.kept hs1 hbl hk)
          clear hbl hk HPA4 q1
          go_wp2_with fail
          go_roundg g
          case measure => omega
          case rel => exact ⟨k + 1, by omega, by go_num, by rw [HN3.out]; exact HPA5.out.bld, HPA5.out.bel, HPA5.out.big⟩
        · by_cases hk2 : kd = 2 ∨ kd = 4
          · have q1 : (kd == 1) = false := by simp [hk1]
            have HN3 : Hid (joinT (l.take (k + 1)) = pre ++ tx.data.toList) := Lib.hid (by rw [HN2.out]; rcases hk2 with h | h <;> simp [tokL, h])
            have HK2 : Hid (((kd == 2) = true) ∨ ((kd == 2) = false ∧ (kd == 4) = true)) := Lib.hid (by rcases hk2 with h | h <;> simp [h])
            clear hk1 hk2 HN2 HTN HTAB
            obtain ⟨e0, e1, e3⟩ := HPA.out.cells
            have hs4 := HPA.out.big
            rcases HK2.out with q2 | ⟨q2, q4⟩
            · clear HK2
              go_wp2_with fail
              refine (bStringU bb bb _ tx _ HPA.out.bld (by first | omega | (simp; omega)) (by omega)).mono ?_
              rintro e w5 ⟨rfl, hbl, hk⟩
              have HPA5 := Lib.hid (HPA.out.kept hs1 hbl hk)
              clear hbl hk HPA q1 q2 e0 e1 e3
              go_wp2_with fail
              go_roundg g
              case measure => omega
              case rel => exact ⟨k + 1, by omega, by go_num, by rw [HN3.out]; exact HPA5.out.bld, HPA5.out.bel, HPA5.out.big⟩
            · clear HK2
              go_wp2_with fail
              refine (bStringU bb bb _ tx _ HPA.out.bld (by first | omega | (simp; omega)) (by omega)).mono ?_
              rintro e w5 ⟨rfl, hbl, hk⟩
              have HPA5 := Lib.hid (HPA.out.kept hs1 hbl hk)
              clear hbl hk HPA q1 q2 q4 e0 e1 e3
              go_wp2_with fail
              go_roundg g
              case measure => omega
              case rel => exact ⟨k + 1, by omega, by go_num, by rw [HN3.out]; exact HPA5.out.bld, HPA5.out.bel, HPA5.out.big⟩
          · have q1 : (kd == 1) = false := by simp [hk1]
            have q2 : (kd == 2) = false := by simp; omega
            have q4 : (kd == 4) = false := by simp; omega
            by_cases hk3 : kd = 3
            · have q3 : (kd == 3) = true := by simp [hk3]
              have HN3 : Hid (joinT (l.take (k + 1)) = pre ++ quoteL tx.data.toList) := Lib.hid (by rw [HN2.out]; simp [tokL, hk3])
              have hql : (quoteL tx.data.toList).length ≤ 2002 := by
                have h1 := quoteL_length_le tx.data.toList
                have h2 : tx.data.toList.length = tx.size := by simp
                omega
              have hqs : (⟨(quoteL tx.data.toList).toArray⟩ : ByteArray).size ≤ 2002 := by show (quoteL tx.data.toList).toArray.size ≤ 2002; simpa using hql
              have HI := Lib.hid (fun W => quote_any tx W (by omega))
              clear hk1 hk2 hk3 HN2 hql HTN HTAB
              obtain ⟨e0, e1, e3⟩ := HPA.out.cells
              go_wp2_with fail
              refine (HI.out _).mono ?_
              rintro e w4 ⟨rfl, hb4⟩
              have HPA4 := Lib.hid (HPA.out.below hb4)
              have hs4 := HPA4.out.big
              clear hb4 HPA e0 e1 e3 HI
              go_wp2_with fail
              refine (bStringU bb bb _ ⟨(quoteL tx.data.toList).toArray⟩ _ HPA4.out.bld (by first | omega | (simp; omega)) (by omega)).mono ?_
              rintro e w5 ⟨rfl, hbl, hk⟩
              have HPA5 := Lib.hid (HPA4.out.kept hs1 hbl hk)
              clear hbl hk HPA4 q1 q2 q3 q4
              go_wp2_with fail
              go_roundg g
              case measure => omega
              case rel => exact ⟨k + 1, by omega, by go_num, by rw [HN3.out]; exact HPA5.out.bld, HPA5.out.bel, HPA5.out.big⟩
            · have q3 : (kd == 3) = false := by simp [hk3]
              have HN3 : Hid (joinT (l.take (k + 1)) = pre) := Lib.hid (by rw [HN2.out]; simp [tokL, hk1, hk2, hk3])
              clear hk1 hk2 hk3 HN2 HTN HTAB
              obtain ⟨e0, e1, e3⟩ := HPA.out.cells
              have HPA5 := HPA
              clear HPA
              go_wp2_with fail
              go_roundg g
              case measure => omega
              case rel => exact ⟨k + 1, by omega, by go_num, by rw [HN3.out]; exact HPA5.out.bld, HPA5.out.bel, HPA5.out.big⟩
      · have z1 : (0 : Int) < k := by omega
        have HN2 : Hid (joinT (l.take (k + 1)) = (old ++ [32]) ++ tokL t) := Lib.hid (by
          rw [HNXT.out, HEM.out, decide_eq_false (by omega), if_neg (by simp)]; simp)
        clear HNXT HEM hk0
        go_wp2_with fail
        have hs3 := HPA.out.big
        refine (bByteU bb bb _ 32 32 rfl _ HPA.out.bld (by omega) (by omega)).mono ?_
        rintro e w3 ⟨rfl, hbl, hk⟩
        have HPA3 := Lib.hid (HPA.out.kept hs1 hbl hk)
        clear hbl hk HPA
        have HPA := HPA3
        clear HPA3
        obtain ⟨pre, hpre⟩ : ∃ pre, old ++ [32] = pre := ⟨_, rfl⟩
        have hpl : pre.length ≤ 2003 * k + 1 := by rw [← hpre, List.length_append, List.length_singleton]; omega
        rw [hpre] at HN2 HPA
        clear hpre hjl
        obtain ⟨kd, tn, tat, tx⟩ := t
        simp only at hz HTN
        by_cases hk1 : kd = 1
        · have q1 : (kd == 1) = true := by simp [hk1]
          have HN3 : Hid (joinT (l.take (k + 1)) = pre ++ Lib.itoa tn) := Lib.hid (by rw [HN2.out]; simp [tokL, hk1])
          have hil := Lib.itoa_length_le tn HTN.out.1 HTN.out.2
          have his : (⟨(Lib.itoa tn).toArray⟩ : ByteArray).size ≤ 21 := by show (Lib.itoa tn).toArray.size ≤ 21; simpa using hil
          have HI := Lib.hid (fun W hW => itoa_below tn HTN.out.1 HTN.out.2 W hW)
          have HTB2 := Lib.hid (tab_of HTAB.out HPA.out.bel)
          clear hk1 HN2 hil HTN
          obtain ⟨e0, e1, e3⟩ := HPA.out.cells
          go_wp2_with fail
          refine (HI.out _ HTB2.out).mono ?_
          rintro e w4 ⟨rfl, hb4⟩
          have HPA4 := Lib.hid (HPA.out.below hb4)
          have hs4 := HPA4.out.big
          clear hb4 HPA e0 e1 e3 HI HTB2
          go_wp2_with fail
          refine (bStringU bb bb _ ⟨(Lib.itoa tn).toArray⟩ _ HPA4.out.bld (by first | omega | (simp; omega)) (by omega)).mono ?_
          rintro e w5 ⟨rfl, hbl, hk⟩
          have HPA5 := Lib.hid (HPA4.out.kept hs1 hbl hk)
          clear hbl hk HPA4 q1
          go_wp2_with fail
          go_roundg g
          case measure => omega
          case rel => exact ⟨k + 1, by omega, by go_num, by rw [HN3.out]; exact HPA5.out.bld, HPA5.out.bel, HPA5.out.big⟩
        · by_cases hk2 : kd = 2 ∨ kd = 4
          · have q1 : (kd == 1) = false := by simp [hk1]
            have HN3 : Hid (joinT (l.take (k + 1)) = pre ++ tx.data.toList) := Lib.hid (by rw [HN2.out]; rcases hk2 with h | h <;> simp [tokL, h])
            have HK2 : Hid (((kd == 2) = true) ∨ ((kd == 2) = false ∧ (kd == 4) = true)) := Lib.hid (by rcases hk2 with h | h <;> simp [h])
            clear hk1 hk2 HN2 HTN HTAB
            obtain ⟨e0, e1, e3⟩ := HPA.out.cells
            have hs4 := HPA.out.big
            rcases HK2.out with q2 | ⟨q2, q4⟩
            · clear HK2
              go_wp2_with fail
              refine (bStringU bb bb _ tx _ HPA.out.bld (by first | omega | (simp; omega)) (by omega)).mono ?_
              rintro e w5 ⟨rfl, hbl, hk⟩
              have HPA5 := Lib.hid (HPA.out.kept hs1 hbl hk)
              clear hbl hk HPA q1 q2 e0 e1 e3
              go_wp2_with fail
              go_roundg g
              case measure => omega
              case rel => exact ⟨k + 1, by omega, by go_num, by rw [HN3.out]; exact HPA5.out.bld, HPA5.out.bel, HPA5.out.big⟩
            · clear HK2
              go_wp2_with fail
              refine (bStringU bb bb _ tx _ HPA.out.bld (by first | omega | (simp; omega)) (by omega)).mono ?_
              rintro e w5 ⟨rfl, hbl, hk⟩
              have HPA5 := Lib.hid (HPA.out.kept hs1 hbl hk)
              clear hbl hk HPA q1 q2 q4 e0 e1 e3
              go_wp2_with fail
              go_roundg g
              case measure => omega
              case rel => exact ⟨k + 1, by omega, by go_num, by rw [HN3.out]; exact HPA5.out.bld, HPA5.out.bel, HPA5.out.big⟩
          · have q1 : (kd == 1) = false := by simp [hk1]
            have q2 : (kd == 2) = false := by simp; omega
            have q4 : (kd == 4) = false := by simp; omega
            by_cases hk3 : kd = 3
            · have q3 : (kd == 3) = true := by simp [hk3]
              have HN3 : Hid (joinT (l.take (k + 1)) = pre ++ quoteL tx.data.toList) := Lib.hid (by rw [HN2.out]; simp [tokL, hk3])
              have hql : (quoteL tx.data.toList).length ≤ 2002 := by
                have h1 := quoteL_length_le tx.data.toList
                have h2 : tx.data.toList.length = tx.size := by simp
                omega
              have hqs : (⟨(quoteL tx.data.toList).toArray⟩ : ByteArray).size ≤ 2002 := by show (quoteL tx.data.toList).toArray.size ≤ 2002; simpa using hql
              have HI := Lib.hid (fun W => quote_any tx W (by omega))
              clear hk1 hk2 hk3 HN2 hql HTN HTAB
              obtain ⟨e0, e1, e3⟩ := HPA.out.cells
              go_wp2_with fail
              refine (HI.out _).mono ?_
              rintro e w4 ⟨rfl, hb4⟩
              have HPA4 := Lib.hid (HPA.out.below hb4)
              have hs4 := HPA4.out.big
              clear hb4 HPA e0 e1 e3 HI
              go_wp2_with fail
              refine (bStringU bb bb _ ⟨(quoteL tx.data.toList).toArray⟩ _ HPA4.out.bld (by first | omega | (simp; omega)) (by omega)).mono ?_
              rintro e w5 ⟨rfl, hbl, hk⟩
              have HPA5 := Lib.hid (HPA4.out.kept hs1 hbl hk)
              clear hbl hk HPA4 q1 q2 q3 q4
              go_wp2_with fail
              go_roundg g
              case measure => omega
              case rel => exact ⟨k + 1, by omega, by go_num, by rw [HN3.out]; exact HPA5.out.bld, HPA5.out.bel, HPA5.out.big⟩
            · have q3 : (kd == 3) = false := by simp [hk3]
              have HN3 : Hid (joinT (l.take (k + 1)) = pre) := Lib.hid (by rw [HN2.out]; simp [tokL, hk1, hk2, hk3])
              clear hk1 hk2 hk3 HN2 HTN HTAB
              obtain ⟨e0, e1, e3⟩ := HPA.out.cells
              have HPA5 := HPA
              clear HPA
              go_wp2_with fail
              go_roundg g
              case measure => omega
              case rel => exact ⟨k + 1, by omega, by go_num, by rw [HN3.out]; exact HPA5.out.bld, HPA5.out.bel, HPA5.out.big⟩
end Go.Proofs.YtnkbpcenkbihpaaDoor
