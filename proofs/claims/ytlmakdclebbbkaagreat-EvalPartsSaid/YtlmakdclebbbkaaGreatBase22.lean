/- Texts, merged in one. -/
import Derived.Test.YtlmakdclebbbkaaGreatBase21
import Derived.Test.YtlmakdclebbbkaaGreatRows
import Derived.Test.YtlmakdclebbbkaaGreatBase
import Derived.WalkKit
import Derived.ProofKit
import Derived.Lib.Hide
import Derived.RegionTactic
namespace Go.Proofs.YtlmakdclebbbkaaGreat
open Go.ChangeShapes Go.WideShapes Go.ChangeAt Go.RowKit
set_option linter.unusedVariables false
set_option linter.unusedSimpArgs false
set_option maxRecDepth 100000
def amongF (ks : List (List UInt8)) (there : Bool) (ps : List (List Lbl × Int)) : List (List Lbl × Int) := ps.filter fun x => (placeK ks ks.length (keyT x.1)).isSome == there
theorem amongF_next (ks : List (List UInt8)) (b : Bool) (rows : List PtR) (k : Nat) (h : k < rows.length) : amongF ks b (ptsOf (rows.take (k + 1))) = amongF ks b (ptsOf (rows.take k)) ++ (if ((placeK ks ks.length (keyT rows[k].set)).isSome == b) = true then [(rows[k].set, rows[k].val)] else []) := by
  unfold amongF ptsOf
  rw [List.take_succ_eq_append_getElem h, List.map_append, List.filter_append]
  congr 1
  by_cases hq : ((placeK ks ks.length (keyT rows[k].set)).isSome == b) = true
  · rw [if_pos hq]; simp [hq]
  · rw [if_neg hq]; simp [hq]
set_option maxHeartbeats 4000000 in
theorem among_any (b1 b2 : Nat) (A B : Option Addr) (c cB : Nat) (ra rb : List PtR) (there : Bool) (w : World) (h : PtsAt b1 (.slice A ra.length c) ra w) (hB : PtsAt b2 (.slice B rb.length cB) rb w) (hn : ra.length ≤ 1000) (hnB : rb.length ≤ 1000) (hsl : ∀ x ∈ ra, x.set.length ≤ 1000) (hslB : ∀ x ∈ rb, x.set.length ≤ 1000) :
    Calls Tryz.prog 58 #[.slice A ra.length c, .slice B rb.length cB, .bool there] w (PtsAns (amongF (keysOf rb) there (ptsOf ra)) w) := by
  obtain ⟨i0, hi, hz0, hz1, hz2⟩ := info_parts Tryz.infoPt
  have HI := Lib.hid hi; have HZ0 := Lib.hid hz0; have HZ1 := Lib.hid hz1; have HZ2 := Lib.hid hz2
  have HC := Lib.hid (places_any b2 B cB rb w hB hnB hslB)
  have H := Lib.hid (fun (V : World) (hV : Below w.heap.size w V) => h.below hV)
  have HSL := Lib.hid hsl
  obtain ⟨ks, hks⟩ : ∃ k, keysOf rb = k := ⟨_, rfl⟩
  have hkl : rb.length = ks.length := by rw [← hks]; simp [keysOf]
  rw [hks, hkl] at HC
  rw [hks]
  have HAN := Lib.hid (amongF_next ks there ra)
  clear h hB hsl hslB hi hz0 hz1 hz2 hks
  obtain ⟨N, hN⟩ : ∃ N, ra.length = N := ⟨_, rfl⟩
  have HN := Lib.hid hN
  rw [hN] at H hn ⊢
  clear hN
  go_enter Tryz.func58, Tryz.ntmps58
  go_wp2_with fail
  (with_reducible refine HC.out.mono ?_); rintro e w2 ⟨rfl, hm, hb⟩
  have HM := Lib.hid hm; have HB := Lib.hid hb
  obtain ⟨bm, hbm⟩ : ∃ b, w.heap.size = b := ⟨_, rfl⟩
  have HBM := Lib.hid (show bm < w2.heap.size ∧ w.heap.size ≤ w2.heap.size by rw [← hbm]; exact ⟨hm.lt, hb.size⟩)
  rw [hbm] at HM ⊢
  clear hm hb HC hbm
  go_wp2_with fail
  go_loopg [8, 17] N (fun g x8 x17 wr => ∃ (k : Nat) (X : Option Addr) (cx : Nat) (rows : List PtR), k + g = N ∧ x17 = .int .i64 k ∧ x8 = .slice X rows.length cx ∧ rows.length ≤ k ∧ ptsOf rows = amongF ks there (ptsOf (ra.take k)) ∧ PtsAt w2.heap.size (.slice X rows.length cx) rows wr ∧ IMap wr bm ks.length (placeK ks ks.length) (placeC ks ks.length) ∧ Below w2.heap.size w2 wr)
  case atStart => exact ⟨0, none, 0, [], by omega, rfl, rfl, Nat.zero_le _, rfl, PtsAt.nil _ _, HM.out, Below.refl _ _⟩
  case round =>
    obtain ⟨k, X, cx, rows, hkg, rfl, rfl, hrl, hpt, hps, hmap, hbel⟩ := hrel
    have HPT := Lib.hid hpt; have HPS := Lib.hid hps; have HMP := Lib.hid hmap; have HBE := Lib.hid hbel
    clear hpt hps hmap hbel HM
    cases gk with
    | zero =>
      obtain rfl : k = N := by omega
      have hcx : rows.length ≤ cx ∧ cx ≤ 9223372036854775807 := by
        obtain ⟨A', c', e, h1, h2⟩ := own_slice HPS.out.own
        injection e with _ _ e; subst e
        exact ⟨h1, h2⟩
      have HF : Hid (PtsAns (amongF ks there (ptsOf ra)) w (.returned (.slice X rows.length cx)) wr) := Lib.hid ⟨X, cx, rows, by rw [HPT.out, List.take_of_length_le (by rw [HN.out]; exact Nat.le_refl _)], rfl, HPS.out.mono HBM.out.2, HB.out.trans (HBE.out.mono HBM.out.2), by omega⟩
      go_wp2_with fail
      go_ret
      exact HF.out
    | succ g =>
      have hlt : k < ra.length := by have := HN.out; omega
      have HR := H.out wr (HB.out.trans (HBE.out.mono HBM.out.2))
      obtain ⟨ad, hA, e0, e1, _⟩ := pt_get HR hlt
      have hol := HR.each ra[k] (List.getElem_mem hlt)
      have hl := HSL.out ra[k] (List.getElem_mem hlt)
      have HNX := Lib.hid (HAN.out k hlt)
      subst hA
      generalize ra[k] = q at *
      obtain ⟨sv, l, val⟩ := q
      simp only at e0 e1 hol hl
      obtain ⟨A2, c2, hsv, hss, _, _⟩ := hol.hasL
      subst hsv
      obtain ⟨sl, hsl⟩ : ∃ n, l.length = n := ⟨_, rfl⟩
      rw [hsl] at e0 hss hl hol
      have ha := (Below.refl wr.heap.size wr).alloc (Nat.le_refl _) (.cells #[.slice A2 sl c2, .int .i64 val] 43)
      have HC := Lib.hid (keyText_any A2 sl c2 l val (wr.alloc (.cells #[.slice A2 sl c2, .int .i64 val] 43)) ((hss.below ha).more ha.size) (by omega))
      have HMP2 := Lib.hid (HMP.out.below ha)
      have HPS2 := Lib.hid (HPS.out.below ha)
      have HOL2 := Lib.hid (hol.below ha)
      have HBE2 := Lib.hid (HBE.out.trans (ha.mono HBE.out.size))
      have HX2 := Lib.hid (Blk.mk (heap_alloc_new wr (.cells #[.slice A2 sl c2, .int .i64 val] 43)) : Blk _ wr.heap.size 43 [.slice A2 sl c2, .int .i64 val])
      have hts := printL_size (bareL l)
      obtain ⟨tx, htx⟩ : ∃ t, (⟨(printL (bareL l)).toArray⟩ : ByteArray) = t := ⟨_, rfl⟩
      have HTX := Lib.hid (show tx.data.toList = keyT l by rw [← htx]; simp [keyT])
      rw [htx] at HC hts
      have htm : tx.size ≤ maxLen := by unfold maxLen; omega
      clear hss hl hol htx ha HMP HPS HBE hts HR
      go_wp2_with fail
      (with_reducible refine HC.out.mono ?_); rintro e w3 ⟨rfl, hb3⟩
      have HMP3 := Lib.hid (HMP2.out.below hb3)
      have HPS3 := Lib.hid (HPS2.out.below hb3)
      have HOL3 := Lib.hid (HOL2.out.below hb3)
      have HX3 := Lib.hid (HX2.out.below hb3 HX2.out.lt)
      have HBE3 := Lib.hid (HBE2.out.trans (hb3.mono HBE2.out.size))
      have hlk := HMP3.out.look htm
      rw [HTX.out] at hlk
      obtain ⟨o, ho⟩ : ∃ o, placeK ks ks.length (keyT l) = o := ⟨_, rfl⟩
      rw [ho] at hlk HNX
      obtain ⟨x0, x1⟩ : w3.cell? ⟨wr.heap.size, 0, none⟩ = some (.slice A2 sl c2) ∧ w3.cell? ⟨wr.heap.size, 1, none⟩ = some (.int .i64 val) := ⟨HX3.out.cell 0, HX3.out.cell 1⟩
      clear hb3 HC HMP2 HPS2 HOL2 HBE2 HX2 ho HTX
      obtain ⟨s, hs⟩ : ∃ s, o.isSome = s := ⟨_, rfl⟩
      rw [hs] at hlk HNX
      cases hq : (s == there) with
      | false =>
        have HNF := Lib.hid (show ptsOf rows = amongF ks there (ptsOf (ra.take (k + 1))) by rw [HNX.out, if_neg (by rw [hq]; simp), List.append_nil]; exact HPT.out)
        clear HNX
        go_wp2_with fail
        go_roundg g
        case measure => omega
        case rel => exact ⟨k + 1, X, cx, rows, by omega, by first | rfl | go_num, rfl, by omega, HNF.out, HPS3.out, HMP3.out, HBE3.out⟩
      | true =>
        have HNF := Lib.hid (show ptsOf (rows ++ [⟨.slice A2 sl c2, l, val⟩]) = amongF ks there (ptsOf (ra.take (k + 1))) by rw [HNX.out, if_pos hq, ptsOf_push, HPT.out])
        have hb4 := (Below.refl w3.heap.size w3).alloc (Nat.le_refl _) (.cells #[.slice A2 sl c2, .int .i64 val] 43)
        have HMP4 := Lib.hid (HMP3.out.below hb4)
        have HPS4 := Lib.hid (HPS3.out.below hb4)
        have HOL4 := Lib.hid (HOL3.out.below hb4)
        have HBE4 := Lib.hid (HBE3.out.trans (hb4.mono HBE3.out.size))
        have HX4 := Lib.hid ((Blk.mk (heap_alloc_new w3 (.cells #[.slice A2 sl c2, .int .i64 val] 43)) : Blk _ w3.heap.size 43 [.slice A2 sl c2, .int .i64 val]).sees (size := 2) (n := 1) rfl (List.prefix_refl _))
        clear HNX hb4 HMP3 HPS3 HOL3 HBE3
        go_wp2_with (at_builtin; refine wpList_append_at rfl (.tmp 31) (.tmp 33) 38 rfl w2.heap.size 43 i0 (.agg #[.slice none 0 0, .int .i64 0]) 2 32 Tryz.underlying38 HI.out HZ0.out HZ1.out HZ2.out rfl (by decide) (.slice X rows.length cx) rows.length (pts rows) rfl HPS4.out.own _ (some ⟨w3.heap.size, 0, none⟩) 1 _ [.slice A2 sl c2, .int .i64 val] rfl HX4.out (by intro u hu; simp at hu; rcases hu with rfl | rfl <;> rfl) (by unfold maxLen; omega) (by omega) HBE4.out.size ?_)
        intro v' w5 hown hgr hwh
        have HMP5 := Lib.hid (HMP4.out.kept hgr (fun e => by have h1 := (HPS4.out.own.lt bm e.symm).1; have := HBM.out.1; omega))
        have HPS5 := Lib.hid (HPS4.out.push (l := l) (z := val) HOL4.out hown hgr)
        have HBE5 := Lib.hid (HBE4.out.grown hgr HBE4.out.size (fun g e => (HPS4.out.own.lt g e).1))
        obtain ⟨A5, c5, rfl, _, _⟩ := own_slice hown
        have HL5 := Lib.hid (show (rows ++ [(⟨.slice A2 sl c2, l, val⟩ : PtR)]).length = rows.length + 1 by simp)
        clear hown hgr hwh HMP4 HPS4 HOL4 HBE4 HX4
        go_wp2_with fail
        go_roundg g
        case measure => omega
        case rel => exact ⟨k + 1, A5, c5, _, by omega, by first | rfl | go_num, by rw [HL5.out], by rw [HL5.out]; omega, HNF.out, by rw [HL5.out]; exact HPS5.out, HMP5.out, HBE5.out⟩
end Go.Proofs.YtlmakdclebbbkaaGreat

namespace Go.Proofs.YtlmakdclebbbkaaGreat
open Go.ChangeShapes Go.WideShapes Go.ChangeAt Go.RowKit
set_option linter.unusedVariables false
theorem num_add_any (a b : Int) (w : World) (wa : I64 a) (wb : I64 b) :
    Calls Tryz.prog 97 #[.int .i64 a, .int .i64 b] w fun e w' => e = .returned (.tuple #[.int .i64 (nV (a + b)), .int .i64 (nE (a + b))]) ∧ w = w' := by
  by_cases h : I64 (a + b)
  · rw [nV_in h, nE_in h]
    unfold I64 at *
    by_cases hb : 0 < b
    · have h1 : a < a + b := by omega
      go_enter Tryz.func97, Tryz.ntmps97
      go_wp2
      go_ret2
      exact ⟨rfl, rfl⟩
    · have h1 : ¬ a < a + b := by omega
      go_enter Tryz.func97, Tryz.ntmps97
      go_wp2
      go_ret2
      exact ⟨rfl, rfl⟩
  · rw [nV_out h, nE_out h]
    rcases out_cases h with h | h
    · obtain ⟨h1, h2⟩ := sum_ge wa wb h
      clear h wa wb
      go_enter Tryz.func97, Tryz.ntmps97
      go_wp2
      go_ret2
      exact ⟨rfl, rfl⟩
    · obtain ⟨h1, h2⟩ := sum_le wa wb h
      clear h wa wb
      go_enter Tryz.func97, Tryz.ntmps97
      go_wp2
      go_ret2
      exact ⟨rfl, rfl⟩

theorem num_sub_any (a b : Int) (w : World) (wa : I64 a) (wb : I64 b) :
    Calls Tryz.prog 98 #[.int .i64 a, .int .i64 b] w fun e w' => e = .returned (.tuple #[.int .i64 (nV (a - b)), .int .i64 (nE (a - b))]) ∧ w = w' := by
  by_cases h : I64 (a - b)
  · rw [nV_in h, nE_in h]
    unfold I64 at *
    by_cases hb : 0 < b
    · have h1 : a - b < a := by omega
      go_enter Tryz.func98, Tryz.ntmps98
      go_wp2
      go_ret2
      exact ⟨rfl, rfl⟩
    · have h1 : ¬ a - b < a := by omega
      go_enter Tryz.func98, Tryz.ntmps98
      go_wp2
      go_ret2
      exact ⟨rfl, rfl⟩
  · rw [nV_out h, nE_out h]
    rcases out_cases h with h | h
    · obtain ⟨h1, h2⟩ := sub_ge wa wb h
      clear h wa wb
      go_enter Tryz.func98, Tryz.ntmps98
      go_wp2
      go_ret2
      exact ⟨rfl, rfl⟩
    · obtain ⟨h1, h2⟩ := sub_le wa wb h
      clear h wa wb
      go_enter Tryz.func98, Tryz.ntmps98
      go_wp2
      go_ret2
      exact ⟨rfl, rfl⟩
theorem num_mul_any (a b : Int) (w : World) (wa : I64 a) (wb : I64 b) :
    Calls Tryz.prog 99 #[.int .i64 a, .int .i64 b] w fun e w' => e = .returned (.tuple #[.int .i64 (nV (a * b)), .int .i64 (nE (a * b))]) ∧ w = w' := by
  by_cases hb : b = 0
  · subst hb
    have h : I64 (a * 0) := by rw [Int.mul_zero]; exact ⟨by omega, by omega⟩
    rw [nV_in h, nE_in h, Int.mul_zero]
    clear h wa wb
    go_enter Tryz.func99, Tryz.ntmps99
    go_wp2
    go_ret2
    exact ⟨rfl, rfl⟩
  · have hb0 : (b == 0) = false := by simpa using hb
    by_cases h : I64 (a * b)
    · have h2 := mul_stays wa hb h
      rw [nV_in h, nE_in h]
      have HW := Lib.hid (wrap64_of h)
      have HM := Lib.hid h2
      clear h h2 wa wb
      go_enter Tryz.func99, Tryz.ntmps99
      go_wp2
      all_goals first
        | (go_ret2; exact ⟨ret_int1 HW.out, rfl⟩)
        | (have hb1 : b = -1 := ‹_›; subst hb1; go_ret2; exact ⟨ret_int1 (by simpa using HW.out), rfl⟩)
        | (exfalso; obtain ⟨h1, h2⟩ := HM.out; first | exact absurd h1 ‹_› | exact h2 ⟨‹b = -1›, by simpa using ‹(a == _) = true›⟩)
    · have h2 := mul_wraps wa wb hb h
      rw [nV_out h, nE_out h]
      have HM := Lib.hid h2
      clear h h2 wa wb
      go_enter Tryz.func99, Tryz.ntmps99
      go_wp2
      all_goals first
        | (go_ret2; exact ⟨rfl, rfl⟩)
        | (exfalso; rcases HM.out with h1 | ⟨h1, h2⟩; exact h1 ‹_›; first | exact absurd h1 ‹_› | exact absurd h2 (by simpa using ‹(a == _) = false›))
theorem num_div_zero (a : Int) (w : World) :
    Calls Tryz.prog 100 #[.int .i64 a, .int .i64 0] w fun e w' => e = .returned (.tuple #[.int .i64 0, .int .i64 4]) ∧ w = w' := by
  go_enter Tryz.func100, Tryz.ntmps100
  go_wp2
  go_ret2
  exact ⟨rfl, rfl⟩
theorem num_div_over (w : World) :
    Calls Tryz.prog 100 #[.int .i64 (-9223372036854775808), .int .i64 (-1)] w fun e w' => e = .returned (.tuple #[.int .i64 0, .int .i64 3]) ∧ w = w' := by
  go_enter Tryz.func100, Tryz.ntmps100
  go_wp2
  go_ret2
  exact ⟨rfl, rfl⟩
theorem num_div_any (a b : Int) (w : World) (wa : I64 a) (hb : b ≠ 0) (ho : ¬ (a = -9223372036854775808 ∧ b = -1)) :
    Calls Tryz.prog 100 #[.int .i64 a, .int .i64 b] w fun e w' => e = .returned (.tuple #[.int .i64 (a.tdiv b), .int .i64 0]) ∧ w = w' := by
  have hb0 : (b == 0) = false := by simpa using hb
  have HD := Lib.hid (wrap64_of (tdiv_in wa ho))
  have HO := Lib.hid ho
  clear wa ho hb
  go_enter Tryz.func100, Tryz.ntmps100
  go_wp2
  all_goals first
    | (go_ret2; exact ⟨ret_int1 HD.out, rfl⟩)
    | (have hb1 : b = -1 := ‹_›; subst hb1; go_ret2; exact ⟨ret_int1 (by simpa using HD.out), rfl⟩)
    | (exfalso; first | exact HO.out ⟨by simpa using ‹(a == _) = true›, ‹b = -1›⟩ | (simp at hb0; exact hb0 ‹b = 0›))
theorem num_mod_zero (a : Int) (w : World) :
    Calls Tryz.prog 101 #[.int .i64 a, .int .i64 0] w fun e w' => e = .returned (.tuple #[.int .i64 0, .int .i64 4]) ∧ w = w' := by
  go_enter Tryz.func101, Tryz.ntmps101
  go_wp2
  go_ret2
  exact ⟨rfl, rfl⟩
theorem num_mod_any (a b : Int) (w : World) (hb : b ≠ 0) :
    Calls Tryz.prog 101 #[.int .i64 a, .int .i64 b] w fun e w' => e = .returned (.tuple #[.int .i64 (a.tmod b), .int .i64 0]) ∧ w = w' := by
  have hb0 : (b == 0) = false := by simpa using hb
  go_enter Tryz.func101, Tryz.ntmps101
  go_wp2
  all_goals first
    | (go_ret2; exact ⟨rfl, rfl⟩)
    | (exfalso; simp at hb0; exact hb0 ‹b = 0›)
end Go.Proofs.YtlmakdclebbbkaaGreat

namespace Go.Proofs.YtlmakdclebbbkaaGreat
open Go.ChangeShapes Go.WideShapes Go.ChangeAt Go.RowKit
set_option linter.unusedVariables false
set_option maxRecDepth 100000
def holdsC (k a b : Int) : Bool := if k = 8 then a == b else if k = 9 then a != b else if k = 10 then decide (a < b) else if k = 11 then decide (a ≤ b) else if k = 12 then decide (b < a) else if k = 13 then decide (b ≤ a) else false
theorem int_ne9 {a b : Int} (h : ¬ a = b) : (a == b) = false := by rw [beq_eq_false_iff_ne]; exact h
set_option maxHeartbeats 2000000 in
theorem holds_v (k a b : Int) (w : World) : Calls Tryz.prog 57 #[.int .i64 k, .int .i64 a, .int .i64 b] w fun e w' => e = .returned (.bool (holdsC k a b)) ∧ w = w' := by
  by_cases k8 : k = 8
  · have HE := Lib.hid (show holdsC k a b = (a == b) by unfold holdsC; rw [if_pos k8])
    subst k8
    go_enter Tryz.func57, Tryz.ntmps57
    go_wp2_with fail
    go_ret
    exact ⟨by rw [HE.out]; rfl, rfl⟩
  by_cases k9 : k = 9
  · have HE := Lib.hid (show holdsC k a b = (a != b) by unfold holdsC; rw [if_neg k8, if_pos k9])
    subst k9
    go_enter Tryz.func57, Tryz.ntmps57
    go_wp2_with fail
    go_ret
    exact ⟨by rw [HE.out]; rfl, rfl⟩
  by_cases k10 : k = 10
  · have HE := Lib.hid (show holdsC k a b = (decide (a < b)) by unfold holdsC; rw [if_neg k8, if_neg k9, if_pos k10])
    subst k10
    go_enter Tryz.func57, Tryz.ntmps57
    go_wp2_with fail
    go_ret
    exact ⟨by rw [HE.out]; rfl, rfl⟩
  by_cases k11 : k = 11
  · have HE := Lib.hid (show holdsC k a b = (decide (a ≤ b)) by unfold holdsC; rw [if_neg k8, if_neg k9, if_neg k10, if_pos k11])
    subst k11
    go_enter Tryz.func57, Tryz.ntmps57
    go_wp2_with fail
    go_ret
    exact ⟨by rw [HE.out]; rfl, rfl⟩
  by_cases k12 : k = 12
  · have HE := Lib.hid (show holdsC k a b = (decide (b < a)) by unfold holdsC; rw [if_neg k8, if_neg k9, if_neg k10, if_neg k11, if_pos k12])
    subst k12
    go_enter Tryz.func57, Tryz.ntmps57
    go_wp2_with fail
    go_ret
    exact ⟨by rw [HE.out]; rfl, rfl⟩
  by_cases k13 : k = 13
  · have HE := Lib.hid (show holdsC k a b = (decide (b ≤ a)) by unfold holdsC; rw [if_neg k8, if_neg k9, if_neg k10, if_neg k11, if_neg k12, if_pos k13])
    subst k13
    go_enter Tryz.func57, Tryz.ntmps57
    go_wp2_with fail
    go_ret
    exact ⟨by rw [HE.out]; rfl, rfl⟩
  have HE := Lib.hid (show holdsC k a b = false by unfold holdsC; rw [if_neg k8, if_neg k9, if_neg k10, if_neg k11, if_neg k12, if_neg k13])
  have t8 := int_ne9 k8
  have t9 := int_ne9 k9
  have t10 := int_ne9 k10
  have t11 := int_ne9 k11
  have t12 := int_ne9 k12
  have t13 := int_ne9 k13
  go_enter Tryz.func57, Tryz.ntmps57
  go_wp2_with fail
  go_ret
  exact ⟨by rw [HE.out]; rfl, rfl⟩
end Go.Proofs.YtlmakdclebbbkaaGreat

namespace Go.Proofs.YtlmakdclebbbkaaGreat
open Go.ChangeShapes Go.WideShapes Go.ChangeAt Go.RowKit
set_option linter.unusedVariables false
set_option maxRecDepth 100000
def divF (a b : Int) : Int × Int := if b = 0 then (0, 4) else if a = -9223372036854775808 ∧ b = -1 then (0, 3) else (a.tdiv b, 0)
def modF (a b : Int) : Int × Int := if b = 0 then (0, 4) else (a.tmod b, 0)
def reckonF (k a b : Int) : Int × Int := if k = 3 then (nV (a + b), nE (a + b)) else if k = 4 then (nV (a - b), nE (a - b)) else if k = 5 then (nV (a * b), nE (a * b)) else if k = 6 then divF a b else if k = 7 then modF a b else (0, 7)
theorem div_any (a b : Int) (w : World) (wa : I64 a) (wb : I64 b) :
    Calls Tryz.prog 100 #[.int .i64 a, .int .i64 b] w fun e w' => e = .returned (.tuple #[.int .i64 (divF a b).1, .int .i64 (divF a b).2]) ∧ w = w' := by
  unfold divF
  by_cases hb : b = 0
  · subst hb; rw [if_pos rfl]; exact num_div_zero a w
  · rw [if_neg hb]
    by_cases h : a = -9223372036854775808 ∧ b = -1
    · obtain ⟨rfl, rfl⟩ := h; rw [if_pos ⟨rfl, rfl⟩]; exact num_div_over w
    · rw [if_neg h]; exact num_div_any a b w wa hb h
theorem mod_any (a b : Int) (w : World) :
    Calls Tryz.prog 101 #[.int .i64 a, .int .i64 b] w fun e w' => e = .returned (.tuple #[.int .i64 (modF a b).1, .int .i64 (modF a b).2]) ∧ w = w' := by
  unfold modF
  by_cases hb : b = 0
  · subst hb; rw [if_pos rfl]; exact num_mod_zero a w
  · rw [if_neg hb]; exact num_mod_any a b w hb
set_option maxHeartbeats 2000000 in
theorem reckon_any (k a b : Int) (w : World) (wa : I64 a) (wb : I64 b) :
    Calls Tryz.prog 54 #[.int .i64 k, .int .i64 a, .int .i64 b] w fun e w' => e = .returned (.tuple #[.int .i64 (reckonF k a b).1, .int .i64 (reckonF k a b).2]) ∧ w = w' := by
  have HA := Lib.hid (num_add_any a b w wa wb)
  have HS := Lib.hid (num_sub_any a b w wa wb)
  have HM := Lib.hid (num_mul_any a b w wa wb)
  have HD := Lib.hid (div_any a b w wa wb)
  have HO := Lib.hid (mod_any a b w)
  by_cases k3 : k = 3
  · have HE := Lib.hid (show reckonF k a b = (nV (a + b), nE (a + b)) by unfold reckonF; rw [if_pos k3])
    subst k3
    go_enter Tryz.func54, Tryz.ntmps54
    go_wp2_with fail
    (with_reducible refine HA.out.mono ?_); rintro e w' ⟨rfl, rfl⟩
    go_wp2_with fail
    go_ret2
    exact ⟨by rw [HE.out]; rfl, rfl⟩
  · by_cases k4 : k = 4
    · have HE := Lib.hid (show reckonF k a b = (nV (a - b), nE (a - b)) by unfold reckonF; rw [if_neg k3, if_pos k4])
      subst k4
      go_enter Tryz.func54, Tryz.ntmps54
      go_wp2_with fail
      (with_reducible refine HS.out.mono ?_); rintro e w' ⟨rfl, rfl⟩
      go_wp2_with fail
      go_ret2
      exact ⟨by rw [HE.out]; rfl, rfl⟩
    · by_cases k5 : k = 5
      · have HE := Lib.hid (show reckonF k a b = (nV (a * b), nE (a * b)) by unfold reckonF; rw [if_neg k3, if_neg k4, if_pos k5])
        subst k5
        go_enter Tryz.func54, Tryz.ntmps54
        go_wp2_with fail
        (with_reducible refine HM.out.mono ?_); rintro e w' ⟨rfl, rfl⟩
        go_wp2_with fail
        go_ret2
        exact ⟨by rw [HE.out]; rfl, rfl⟩
      · by_cases k6 : k = 6
        · have HE := Lib.hid (show reckonF k a b = divF a b by unfold reckonF; rw [if_neg k3, if_neg k4, if_neg k5, if_pos k6])
          subst k6
          go_enter Tryz.func54, Tryz.ntmps54
          go_wp2_with fail
          (with_reducible refine HD.out.mono ?_); rintro e w' ⟨rfl, rfl⟩
          go_wp2_with fail
          go_ret2
          exact ⟨by rw [HE.out]; rfl, rfl⟩
        · by_cases k7 : k = 7
          · have HE := Lib.hid (show reckonF k a b = modF a b by unfold reckonF; rw [if_neg k3, if_neg k4, if_neg k5, if_neg k6, if_pos k7])
            subst k7
            go_enter Tryz.func54, Tryz.ntmps54
            go_wp2_with fail
            (with_reducible refine HO.out.mono ?_); rintro e w' ⟨rfl, rfl⟩
            go_wp2_with fail
            go_ret2
            exact ⟨by rw [HE.out]; rfl, rfl⟩
          · have HE := Lib.hid (show reckonF k a b = (0, 7) by unfold reckonF; rw [if_neg k3, if_neg k4, if_neg k5, if_neg k6, if_neg k7])
            have t3 := int_ne9 k3; have t4 := int_ne9 k4; have t5 := int_ne9 k5; have t6 := int_ne9 k6; have t7 := int_ne9 k7
            go_enter Tryz.func54, Tryz.ntmps54
            go_wp2_with fail
            go_ret2
            exact ⟨by rw [HE.out]; rfl, rfl⟩
end Go.Proofs.YtlmakdclebbbkaaGreat

namespace Go.Proofs.YtlmakdclebbbkaaGreat
open Go.ChangeShapes Go.WideShapes Go.ChangeAt Go.RowKit
set_option linter.unusedVariables false
set_option linter.unusedSimpArgs false
set_option maxRecDepth 100000
abbrev Pt := List Lbl × Int
def outF (f : Pt → Option (List Lbl × (Int × Int))) (l : List Pt) : List Pt := l.filterMap fun p => (f p).map fun r => (r.1, r.2.1)
def errF (f : Pt → Option (List Lbl × (Int × Int))) : List Pt → Int
  | [] => 0
  | p :: l => match f p with
    | none => errF f l
    | some r => if r.2.2 = 0 then errF f l else r.2.2
def resF (f : Pt → Option (List Lbl × (Int × Int))) (l : List Pt) : List Pt × Int := if errF f l = 0 then (sortP (outF f l), 0) else ([], errF f l)
theorem errF_cons (f : Pt → Option (List Lbl × (Int × Int))) (p : Pt) (l : List Pt) : errF f (p :: l) = match f p with
    | none => errF f l
    | some r => if r.2.2 = 0 then errF f l else r.2.2 := rfl
theorem errF_append (f : Pt → Option (List Lbl × (Int × Int))) (l m : List Pt) : errF f (l ++ m) = if errF f l = 0 then errF f m else errF f l := by
  induction l with
  | nil => rfl
  | cons p l ih =>
    rw [List.cons_append, errF_cons, errF_cons]
    cases f p with
    | none => exact ih
    | some r =>
      simp only
      by_cases h : r.2.2 = 0
      · rw [if_pos h, if_pos h]; exact ih
      · rw [if_neg h, if_neg h, if_neg h]
theorem outF_next (f : Pt → Option (List Lbl × (Int × Int))) (l : List PtR) (k : Nat) (h : k < l.length) :
    outF f (ptsOf (l.take (k + 1))) = outF f (ptsOf (l.take k)) ++ (match f (l[k].set, l[k].val) with | none => [] | some r => [(r.1, r.2.1)]) := by
  unfold outF ptsOf
  rw [List.take_succ_eq_append_getElem h, List.map_append, List.filterMap_append]
  congr 1
  cases e : f (l[k].set, l[k].val) with
  | none => simp [e]
  | some r => simp [e]
theorem errF_next (f : Pt → Option (List Lbl × (Int × Int))) (l : List PtR) (k : Nat) (h : k < l.length) (h0 : errF f (ptsOf (l.take k)) = 0) :
    errF f (ptsOf (l.take (k + 1))) = (match f (l[k].set, l[k].val) with | none => 0 | some r => r.2.2) := by
  unfold ptsOf at h0 ⊢
  rw [List.take_succ_eq_append_getElem h, List.map_append, errF_append, if_pos h0]
  show errF f [(l[k].set, l[k].val)] = _
  rw [errF_cons]
  cases f (l[k].set, l[k].val) with
  | none => rfl
  | some r => by_cases h : r.2.2 = 0 <;> simp [errF, h]
theorem errF_hit (f : Pt → Option (List Lbl × (Int × Int))) (l : List PtR) (k : Nat) (h : k < l.length) (h0 : errF f (ptsOf (l.take (k + 1))) ≠ 0) : errF f (ptsOf l) = errF f (ptsOf (l.take (k + 1))) := by
  have e : ptsOf l = ptsOf (l.take (k + 1)) ++ ptsOf (l.drop (k + 1)) := by unfold ptsOf; rw [← List.map_append, List.take_append_drop]
  rw [e, errF_append, if_neg h0]
structure OutAt (base : Nat) (v : Value) (rows : List PtR) (k : Nat) (ps : List Pt) (W : World) : Prop where
  at_ : PtsAt base v rows W
  len : rows.length ≤ k
  sets : ∀ x ∈ rows, x.set.length ≤ 1000
  eq : ptsOf rows = ps
theorem OutAt.below {base k : Nat} {v : Value} {rows : List PtR} {ps : List Pt} {W W' : World} (h : OutAt base v rows k ps W) (hb : Below W.heap.size W W') : OutAt base v rows k ps W' := ⟨h.at_.below hb, h.len, h.sets, h.eq⟩
theorem OutAt.nil (base : Nat) (W : World) : OutAt base (.slice none 0 0) [] 0 [] W := ⟨PtsAt.nil _ _, Nat.le_refl _, (fun x hx => absurd hx List.not_mem_nil), rfl⟩
theorem OutAt.next {base k : Nat} {v : Value} {rows : List PtR} {ps ps' : List Pt} {W : World} (h : OutAt base v rows k ps W) (e : ps' = ps) : OutAt base v rows (k + 1) ps' W := ⟨h.at_, Nat.le_succ_of_le h.len, h.sets, by rw [e]; exact h.eq⟩
theorem OutAt.push {base k : Nat} {v v' x : Value} {l : List Lbl} {z : Int} {rows : List PtR} {ps ps' : List Pt} {W W' : World} (h : OutAt base v rows k ps W) (hx : OwnL W x l) (hl : l.length ≤ 1000) (hown : W'.ownsRow base 43 2 v' (rows.length + 1) (pts rows ++ [x, .int .i64 z])) (hg : W.grownBy W' v.ownBlock) (e : ps' = ps ++ [(l, z)]) : OutAt base v' (rows ++ [⟨x, l, z⟩]) (k + 1) ps' W' := by
  refine ⟨h.at_.push hx hown hg, by have := h.len; simp; omega, fun y hy => ?_, by rw [ptsOf_push, h.eq, e]⟩
  rcases List.mem_append.1 hy with hy | hy
  · exact h.sets y hy
  · rw [List.mem_singleton] at hy; subst hy; exact hl
theorem OutAt.cap {base k c : Nat} {X : Option Addr} {rows : List PtR} {ps : List Pt} {W : World} (h : OutAt base (.slice X rows.length c) rows k ps W) : rows.length ≤ c ∧ c ≤ 9223372036854775807 := by
  obtain ⟨A', c', e, h1, h2⟩ := own_slice h.at_.own
  injection e with _ _ e; subst e
  exact ⟨h1, h2⟩
def PtsAnsE (r : List Pt × Int) (w : World) (e : Ending) (w' : World) : Prop := ∃ A c rows, ptsOf rows = r.1 ∧ e = .returned (.tuple #[.slice A rows.length c, .int .i64 r.2]) ∧ PtsAt w.heap.size (.slice A rows.length c) rows w' ∧ Below w.heap.size w w' ∧ rows.length ≤ c ∧ c ≤ 9223372036854775807
theorem PtsAnsE.fault {r : List Pt × Int} {e : Int} {w w' : World} (h : r = ([], e)) (hb : Below w.heap.size w w') : PtsAnsE r w (.returned (.tuple #[.slice none 0 0, .int .i64 e])) w' :=
  ⟨none, 0, [], by rw [h]; rfl, by rw [h]; rfl, PtsAt.nil _ _, hb, Nat.le_refl _, by omega⟩
theorem PtsAnsE.ok {r : List Pt × Int} {ps : List Pt} {A : Option Addr} {c : Nat} {rows : List PtR} {w w1 w' : World} (h : r = (ps, 0)) (hp : ptsOf rows = ps) (h1 : PtsAt w1.heap.size (.slice A rows.length c) rows w') (hs : w.heap.size ≤ w1.heap.size) (hb : Below w.heap.size w w') (hc : rows.length ≤ c ∧ c ≤ 9223372036854775807) : PtsAnsE r w (.returned (.tuple #[.slice A rows.length c, .int .i64 0])) w' :=
  ⟨A, c, rows, by rw [h]; exact hp, by rw [h], h1.mono hs, hb, hc.1, hc.2⟩
theorem bare_len (l : List Lbl) : (bareL l).length ≤ l.length := List.length_filter_le _ _
end Go.Proofs.YtlmakdclebbbkaaGreat
