/- klaxonref1.PrintSet. -/
import Derived.Test.YtbndmmfpoljeaaaRefRight
import Derived.Test.YtbndmmfpoljeaaaRefQ
import Derived.Test.YtbndmmfpoljeaaaBase
import Derived.Test.YtbndmmfpoljeaaaBase2
import Derived.Deep.RegionLaw
import Derived.Deep.CutBlock
import Derived.Deep.DeepCutAuto
namespace Go.Proofs.Ytbndmmfpoljeaaa
open Go.ChangeShapes Go.WideShapes Go.ChangeAt Go.RowKit
set_option linter.unusedVariables false
set_option linter.unusedSimpArgs false
set_option maxRecDepth 100000
theorem ba_cat2 (a b : List UInt8) : (⟨a.toArray⟩ : ByteArray) ++ ⟨b.toArray⟩ = ⟨(a ++ b).toArray⟩ := by
  apply ByteArray.ext
  rw [ByteArray.data_append]
  simp
theorem ba_self (s : ByteArray) : (⟨s.data.toList.toArray⟩ : ByteArray) = s := rfl
set_option maxHeartbeats 4000000 in
theorem rprint_any (A : Option Addr) (n c : Nat) (l : List (ByteArray × ByteArray)) (B : Nat) (w : World) (h : Sees w B 2 A n (lbls l)) (hB : B ≤ w.heap.size) (hn : n ≤ 9223372036854775807) (hs : ∀ x ∈ l, x.1.size ≤ 9223372036854775807) :
    Calls Try.prog 52 #[.slice A n c] w fun e w' => e = .returned (.string ⟨(printL l).toArray⟩) ∧ Below w.heap.size w w' := by
  have H := Lib.hid h
  have HL := Lib.hid h.lbl_len
  have HR := Lib.hid (refRight_any A n c l B w h hB hn hs)
  clear h hs
  have HP : Hid (printL l = if rightS l then 123 :: (joinL l ++ [125]) else []) := Lib.hid rfl
  have HSZ := Lib.hid (@rightS_sizes l)
  have HLE := Lib.hid (@rightS_len l)
  obtain ⟨pr, hpr⟩ : ∃ pr, printL l = pr := ⟨_, rfl⟩
  rw [hpr] at HP ⊢
  clear hpr
  go_enter Try.func52, Try.ntmps52
  go_wp2_with fail
  (with_reducible refine HR.out.mono ?_); rintro e w1 ⟨rfl, hb1⟩
  have HB1 := Lib.hid hb1
  clear hb1 HR
  obtain ⟨r, hr⟩ : ∃ r, rightS l = r := ⟨_, rfl⟩
  rw [hr] at HP ⊢
  cases r with
  | false =>
    have HE := Lib.hid (show pr = [] from HP.out)
    clear hr HP HSZ HLE
    go_wp2_with fail
    go_ret
    exact ⟨by rw [HE.out]; rfl, HB1.out⟩
  | true =>
    have HE := Lib.hid (show pr = 123 :: (joinL l ++ [125]) from HP.out)
    have HZ := Lib.hid (HSZ.out hr)
    have hl6 := HLE.out hr
    rw [HL.out] at hl6
    have HJL := Lib.hid (joinL_length_le l HZ.out)
    clear hr HP HSZ HLE
    go_wp2_with fail
    go_loopg [3, 4, 5, 11] n (fun g x3 x4 x5 x11 wr => ∃ (k : Nat) (S : ByteArray), k + g = n ∧ x11 = .int .i64 k ∧ x3 = .string S ∧ S.data.toList = 123 :: joinL (l.take k) ∧ S.size ≤ 1 + 76 * k ∧ Below w.heap.size w wr)
    case atStart => exact ⟨0, ⟨#[123]⟩, by omega, rfl, rfl, rfl, by decide, HB1.out⟩
    case round =>
      obtain ⟨k, S, hkg, rfl, rfl, hS, hSz, hbel⟩ := hrel
      have HB := Lib.hid hbel; have HS := Lib.hid hS
      have hws := hbel.size
      clear hbel hS HB1
      cases gk with
      | zero =>
        obtain rfl : k = n := by omega
        have HX := Lib.hid (show S ++ (⟨#[125]⟩ : ByteArray) = ⟨pr.toArray⟩ by
          rw [← ba_self S, HS.out, HE.out, List.take_of_length_le (by rw [HL.out]; exact Nat.le_refl _), show (⟨#[125]⟩ : ByteArray) = ⟨[125].toArray⟩ from rfl, ba_cat2]; rfl)
        have l1 : ¬ 9223372036854775807 < S.size + 1 := by omega
        go_wp2_with fail
        rw [HX.out]
        go_ret
        exact ⟨rfl, HB.out⟩
      | succ g =>
        have hlt : k < n := by omega
        obtain ⟨ad, hkl, rfl, c0, c1⟩ := (H.out.below (HB.out.mono hB)).lbl hlt
        have HT := Lib.hid (List.take_succ_eq_append_getElem hkl)
        have hz := HZ.out l[k] (List.getElem_mem _)
        have HEM : Hid ((l.take k).isEmpty = decide (k = 0)) := Lib.hid (take_empty hkl)
        generalize l[k] = p at *
        obtain ⟨xa, xb⟩ := p
        simp only at c0 c1 hz
        have HBA := Lib.hid (HB.out.alloc hws (.cells #[.string xa, .string xb] 53))
        have HXB := Lib.hid (Blk.mk (heap_alloc_new wr (.cells #[.string xa, .string xb] 53)) : Blk _ wr.heap.size 53 [.string xa, .string xb])
        have hal := World.block_lt_of_cell? wr _ c0
        have HBX := Lib.hid (show ∃ b, wr.heap.size = b from ⟨_, rfl⟩)
        go_upto_region 7 with fail
        obtain ⟨bx, hbx⟩ := HBX.out
        rw [hbx]
        have HBY := Lib.hid hbx
        clear hbx c0 c1 hal HBX
        generalize wr.alloc (.cells #[.string xa, .string xb] 53) = W1 at *
        rw [HBY.out] at HXB
        go_upto_if 17 with fail
        obtain ⟨pk, hpk⟩ : ∃ p, decide (0 < k) = p := ⟨_, rfl⟩
        rw [hpk]
        have HPK := Lib.hid hpk
        clear hpk
        go_cut [3] from 18 to 19 (fun x3 wx => ∃ S1 : ByteArray, x3 = .string S1 ∧ S1.data.toList = S.data.toList ++ (if k = 0 then [] else [44]) ∧ S1.size ≤ S.size + 1 ∧ wx = W1)
        case first =>
          cases pk with
          | false =>
            have HK0 : Hid (k = 0) := Lib.hid (by have := of_decide_eq_false HPK.out; omega)
            go_wp2_with fail
            go_meet
            exact ⟨S, rfl, by rw [if_pos HK0.out, List.append_nil], by omega, rfl⟩
          | true =>
            have l1 : ¬ 9223372036854775807 < S.size + 1 := by omega
            have HK0 : Hid (¬ k = 0) := Lib.hid (by have := of_decide_eq_true HPK.out; omega)
            go_wp2_with fail
            go_meet
            exact ⟨S ++ ⟨#[44]⟩, rfl, by rw [if_neg HK0.out, ByteArray.data_append, Array.toList_append], by rw [ByteArray.size_append]; exact Nat.le_refl _, rfl⟩
        case rest =>
          obtain ⟨S1, rfl, hS1, hS1z, rfl⟩ := hcut
          obtain ⟨Q, hQ⟩ : ∃ Q : ByteArray, (⟨(quoteL xb.data.toList).toArray⟩ : ByteArray) = Q := ⟨_, rfl⟩
          have hQz : Q.size ≤ 50 := by
            have h1 := quoteL_length_le xb.data.toList
            have h2 : xb.data.toList.length = xb.size := by simp
            rw [← hQ]; show (quoteL xb.data.toList).toArray.size ≤ 50
            rw [List.size_toArray]; omega
          have hQl : Q.data.toList = quoteL xb.data.toList := by rw [← hQ]
          have HQT := Lib.hid (fun W => rquote_any xb W (by omega))
          rw [hQ] at HQT
          have l1 : ¬ 9223372036854775807 < S1.size + xa.size := by omega
          have l2 : ¬ 9223372036854775807 < S1.size + xa.size + 1 := by omega
          have l3 : ¬ 9223372036854775807 < S1.size + xa.size + 1 + Q.size := by omega
          have HNX := Lib.hid (show (S1 ++ xa ++ (⟨#[61]⟩ : ByteArray) ++ Q).data.toList = 123 :: joinL (l.take (k + 1)) by
            rw [HT.out, joinL_snoc, HEM.out]
            simp only [ByteArray.data_append, Array.toList_append, hS1, HS.out, hQl, lblL]
            by_cases hk0 : k = 0
            · rw [if_pos hk0, if_pos (decide_eq_true hk0)]; simp
            · rw [if_neg hk0, if_neg (by simp [hk0])]; simp)
          have HNZ := Lib.hid (show (S1 ++ xa ++ (⟨#[61]⟩ : ByteArray) ++ Q).size ≤ 1 + 76 * (k + 1) by
            rw [ByteArray.size_append, ByteArray.size_append, ByteArray.size_append]; show S1.size + xa.size + 1 + Q.size ≤ _; omega)
          clear hS1 hS1z hQ hQz hQl HEM HT HS
          go_upto_region 9 with fail
          refine wp_region_facts (R := fun a b => Below a.heap.size a b) (G := (fun W => Blk W bx 53 [.string xa, .string xb] ∧ Below w.heap.size w W)) (V := fun i' u' W => match i' with | 0 => u' = .string S1 | 1 => u' = .pointer (some ⟨bx, 0, none⟩) | 2 => u' = .string xa | 3 => u' = .string (S1 ++ xa) | 4 => u' = .string (S1 ++ xa ++ ⟨#[61]⟩) | 5 => u' = .pointer (some ⟨bx, 1, none⟩) | 6 => u' = .string xb | 7 => u' = .string Q | 8 => u' = .string (S1 ++ xa ++ ⟨#[61]⟩ ++ Q) | 9 => u' = .string (S1 ++ xa ++ ⟨#[61]⟩ ++ Q) | _ => True) (by kernel_rfl) (fun w => Below.refl _ _) (fun a b c h1 h2 => h1.trans (h2.mono h1.size)) (by kernel_rfl) (by kernel_rfl) ?hG ⟨?o0, ?o1, ?o2, ?o3, ?o4, ?o5, ?o6, ?o7, ?o8, ?o9, trivial⟩ ?hend
          case o0 =>
            intro a w hfr hG hd
            refine ⟨fun hw => ?_, fun hw => absurd hw (by simp [Region.wanted])⟩
            have s3 : a.tmps.getD 3 undef = .string S1 := hfr.at 3 (by kernel_rfl)
            refine op_yields (.string S1) ?_ ?_ ?_
            · simp only [execOp, resolve, List.map_toArray, List.map_cons, List.map_nil, Act.eval, s3]; simp [go_sem, -Array.getD_eq_getD_getElem?, s3]
            · exact Below.refl _ _
            · exact (fun _ _ => rfl)
          case o1 =>
            intro a w hfr hG hd
            refine ⟨fun hw => ?_, fun hw => absurd hw (by simp [Region.wanted])⟩
            have s5 : a.tmps.getD 5 undef = .pointer (some ⟨bx, 0, none⟩) := hfr.at 5 (by kernel_rfl)
            refine op_yields (.pointer (some ⟨bx, 0, none⟩)) ?_ ?_ ?_
            · simp only [execOp, resolve, List.map_toArray, List.map_cons, List.map_nil, Act.eval, s5]; simp [go_sem, -Array.getD_eq_getD_getElem?, s5]
            · exact Below.refl _ _
            · exact (fun _ _ => rfl)
          case o2 =>
            intro a w hfr hG hd
            obtain ⟨d0, _⟩ := hd
            refine ⟨fun hw => ?_, fun hw => absurd hw (by simp [Region.wanted])⟩
            have s21 : a.tmps.getD 21 undef = .pointer (some ⟨bx, 0, none⟩) := (d0 rfl).now
            have z0 := hG.now.1.cell 0; simp only [List.getElem?_cons_zero] at z0
            refine op_yields (.string xa) ?_ ?_ ?_
            · simp only [execOp, resolve, List.map_toArray, List.map_cons, List.map_nil, Act.eval, s21]; simp [go_sem, -Array.getD_eq_getD_getElem?, s21, z0]
            · exact Below.refl _ _
            · exact (fun _ _ => rfl)
          case o3 =>
            intro a w hfr hG hd
            obtain ⟨d0, d1, _⟩ := hd
            refine ⟨fun hw => ?_, fun hw => absurd hw (by simp [Region.wanted])⟩
            have s20 : a.tmps.getD 20 undef = .string S1 := (d0 rfl).now
            have s22 : a.tmps.getD 22 undef = .string xa := (d1 rfl).now
            refine op_yields (.string (S1 ++ xa)) ?_ ?_ ?_
            · simp only [execOp, resolve, List.map_toArray, List.map_cons, List.map_nil, Act.eval, s20, s22]; simp [go_sem, -Array.getD_eq_getD_getElem?, s20, s22, l1]
            · exact Below.refl _ _
            · exact (fun _ _ => rfl)
          case o4 =>
            intro a w hfr hG hd
            obtain ⟨d0, _⟩ := hd
            refine ⟨fun hw => ?_, fun hw => absurd hw (by simp [Region.wanted])⟩
            have s23 : a.tmps.getD 23 undef = .string (S1 ++ xa) := (d0 rfl).now
            refine op_yields (.string (S1 ++ xa ++ ⟨#[61]⟩)) ?_ ?_ ?_
            · simp only [execOp, resolve, List.map_toArray, List.map_cons, List.map_nil, Act.eval, s23]; simp [go_sem, -Array.getD_eq_getD_getElem?, s23, l2]
            · exact Below.refl _ _
            · exact (fun _ _ => rfl)
          case o5 =>
            intro a w hfr hG hd
            refine ⟨fun hw => ?_, fun hw => absurd hw (by simp [Region.wanted])⟩
            have s5 : a.tmps.getD 5 undef = .pointer (some ⟨bx, 0, none⟩) := hfr.at 5 (by kernel_rfl)
            refine op_yields (.pointer (some ⟨bx, 1, none⟩)) ?_ ?_ ?_
            · simp only [execOp, resolve, List.map_toArray, List.map_cons, List.map_nil, Act.eval, s5]; simp [go_sem, -Array.getD_eq_getD_getElem?, s5]
            · exact Below.refl _ _
            · exact (fun _ _ => rfl)
          case o6 =>
            intro a w hfr hG hd
            obtain ⟨d0, _⟩ := hd
            refine ⟨fun hw => ?_, fun hw => absurd hw (by simp [Region.wanted])⟩
            have s25 : a.tmps.getD 25 undef = .pointer (some ⟨bx, 1, none⟩) := (d0 rfl).now
            have z1 := hG.now.1.cell 1; simp only [List.getElem?_cons_zero, List.getElem?_cons_succ] at z1
            refine op_yields (.string xb) ?_ ?_ ?_
            · simp only [execOp, resolve, List.map_toArray, List.map_cons, List.map_nil, Act.eval, s25]; simp [go_sem, -Array.getD_eq_getD_getElem?, s25, z1]
            · exact Below.refl _ _
            · exact (fun _ _ => rfl)
          case o7 =>
            intro a w hfr hG hd
            obtain ⟨d0, _⟩ := hd
            refine ⟨fun hw => ?_, fun hw => absurd hw (by simp [Region.wanted])⟩
            have s26 : a.tmps.getD 26 undef = .string xb := (d0 rfl).now
            refine op_calls2 ((HQT.out w).mono fun e' w' hh => ⟨_, hh.1, hh.2, (fun _ _ => rfl)⟩) ?_
            simp only [execOp, resolve, List.map_toArray, List.map_cons, List.map_nil, Act.eval, s26]; simp [go_sem, -Array.getD_eq_getD_getElem?, s26]
          case o8 =>
            intro a w hfr hG hd
            obtain ⟨d0, d1, _⟩ := hd
            refine ⟨fun hw => ?_, fun hw => absurd hw (by simp [Region.wanted])⟩
            have s24 : a.tmps.getD 24 undef = .string (S1 ++ xa ++ ⟨#[61]⟩) := (d0 rfl).now
            have s27 : a.tmps.getD 27 undef = .string Q := (d1 rfl).now
            refine op_yields (.string (S1 ++ xa ++ ⟨#[61]⟩ ++ Q)) ?_ ?_ ?_
            · simp only [execOp, resolve, List.map_toArray, List.map_cons, List.map_nil, Act.eval, s24, s27]; simp [go_sem, -Array.getD_eq_getD_getElem?, s24, s27, l3]
            · exact Below.refl _ _
            · exact (fun _ _ => rfl)
          case o9 =>
            intro a w hfr hG hd
            obtain ⟨d0, d1, d2, d3, d4, d5, d6, d7, d8, d9, d10, _⟩ := hd
            refine ⟨fun hw => ?_, fun hw => absurd hw (by simp [Region.wanted])⟩
            have s28 : a.tmps.getD 28 undef = .string (S1 ++ xa ++ ⟨#[61]⟩ ++ Q) := (d0 rfl).now
            refine op_yields (.string (S1 ++ xa ++ ⟨#[61]⟩ ++ Q)) ?_ ?_ ?_
            · simp only [execOp, resolve, List.map_toArray, List.map_cons, List.map_nil, Act.eval, s28]; simp [go_sem, -Array.getD_eq_getD_getElem?, s28]
            · exact Below.refl _ _
            · exact (fun _ _ => rfl)
          case hG => exact fun w' hb => ⟨HXB.out.below ((Below.refl _ _).drew.trans (hb.mono (by simp))) HXB.out.lt, HBA.out.trans ((Below.refl _ _).drew.trans (hb.mono (by simp; exact HBA.out.size)))⟩
          case hend =>
            intro vs w' hG hv
            have key : vs 8 = .string (S1 ++ xa ++ ⟨#[61]⟩ ++ Q) ∧ vs 9 = .string (S1 ++ xa ++ ⟨#[61]⟩ ++ Q) := by
              obtain ⟨_, _, _, _, _, _, _, _, h8, h9, _⟩ := hv
              exact ⟨h8.now, h9.now⟩
            have HB2 := Lib.hid hG.now.2
            clear hv hG HXB HBA HQT
            generalize S1 ++ xa ++ (⟨#[61]⟩ : ByteArray) ++ Q = S2 at *
            simp only [putAll, Act.put, key.1, key.2]
            clear key
            go_simp
            go_wp2_with fail
            go_roundg g
            case measure => omega
            case rel => exact ⟨k + 1, S2, by omega, by go_num, rfl, HNX.out, HNZ.out, HB2.out⟩
end Go.Proofs.Ytbndmmfpoljeaaa
