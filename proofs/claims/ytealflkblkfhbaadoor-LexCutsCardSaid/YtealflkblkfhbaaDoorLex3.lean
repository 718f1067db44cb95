/- lex.quoted. -/
import Derived.Test.YtealflkblkfhbaaDoorLexMath
namespace Go.Proofs.YtealflkblkfhbaaDoor
open Go.ChangeShapes Go.WideShapes Go.ChangeAt Go.RowKit
set_option linter.unusedVariables false
set_option linter.unusedSimpArgs false
set_option maxRecDepth 100000
def quotedT (l : List UInt8) : Option (Tok × Nat) := (unq (l.drop 1) []).map fun p => (⟨3, 0, 0, ⟨p.1.toArray⟩⟩, l.length - p.2.length)
set_option maxHeartbeats 8000000 in
theorem lquoted_any (s : ByteArray) (w : World) (h0 : 0 < s.size) (hs : s.size ≤ 35184372088832) :
    Calls Tryd.prog 30 #[.string s] w (FirstAns (quotedT s.data.toList) w) := by
  obtain ⟨i0, hi0, hz0, hz1, hz2⟩ := info_parts Tryd.infoU8x
  have HRS := Lib.hid (show s.data.toList.length = s.size by simp)
  have HB0 := Lib.hid ((Below.refl w.heap.size w).alloc (Nat.le_refl _) (.cells #[.int .i64 0, .int .i64 0, .int .i64 0, .string ⟨#[]⟩] 27))
  have HK0 := Lib.hid (Blk.mk (heap_alloc_new w (.cells #[.int .i64 0, .int .i64 0, .int .i64 0, .string ⟨#[]⟩] 27)) : Blk _ w.heap.size 27 [.int .i64 0, .int .i64 0, .int .i64 0, .string ⟨#[]⟩])
  obtain ⟨r, hr⟩ : ∃ r, s.data.toList = r := ⟨_, rfl⟩
  rw [hr] at HRS
  rw [hr]
  have HR := Lib.hid hr
  obtain ⟨tot, htot⟩ : ∃ tot, quotedT r = tot := ⟨_, rfl⟩
  have HTOT : Hid (tot = (unq (r.drop 1) []).map fun p => (⟨3, 0, 0, ⟨p.1.toArray⟩⟩, r.length - p.2.length)) := Lib.hid htot.symm
  rw [htot]
  obtain ⟨t0, ht0⟩ : ∃ t, unq (r.drop 1) [] = t := ⟨_, rfl⟩
  rw [ht0] at HTOT
  have HU := Lib.hid ht0.symm
  obtain ⟨b2, hb2⟩ : ∃ b, w.heap.size = b := ⟨_, rfl⟩
  obtain ⟨W1, hW1⟩ : ∃ W, w.alloc (.cells #[.int .i64 0, .int .i64 0, .int .i64 0, .string ⟨#[]⟩] 27) = W := ⟨_, rfl⟩
  rw [hW1] at HB0 HK0
  rw [hb2] at HK0
  have HB2 := Lib.hid hb2; have HW1 := Lib.hid hW1
  have hb2le : w.heap.size ≤ b2 := by rw [hb2]; exact Nat.le_refl _
  clear hb2 hW1 htot ht0 hr
  go_enter Tryd.func30, Tryd.ntmps30
  go_upto_block 0 with fail
  rw [HW1.out, HB2.out]
  go_wp2_with fail
  go_loopg [4, 5] (s.size - 1) (fun g x4 x5 wr => ∃ (k : Nat) (acc : List UInt8) (A : Option Addr) (c : Nat), k + g = s.size ∧ x5 = .int .i64 k ∧ x4 = .slice A acc.length c ∧ wr.ownsRow (b2 + 1) 5 1 (.slice A acc.length c) acc.length (Lib.byteCells acc) ∧ Blk wr b2 27 [.int .i64 0, .int .i64 0, .int .i64 0, .string ⟨#[]⟩] ∧ Below w.heap.size w wr ∧ acc.length ≤ 25 ∧ t0 = unq (r.drop k) acc)
  case atStart => exact ⟨1, [], none, 0, by omega, rfl, rfl, own_nil _ _ _ _, HK0.out, HB0.out, by simp, HU.out⟩
  case round =>
    obtain ⟨k, acc, A, c, hkg, rfl, rfl, hown, hblk, hbel, hac, htot⟩ := hrel
    have HO := Lib.hid hown; have HB := Lib.hid hbel; have HT := Lib.hid htot; have HK := Lib.hid hblk
    have hws := hbel.size
    clear hown hbel htot hblk HU HB0 HK0
    cases gk with
    | zero =>
      have hkz : s.size ≤ k := by omega
      have HN : Hid (tot = none) := Lib.hid (by rw [HTOT.out, HT.out, unq_over (by rw [HRS.out]; exact hkz)]; rfl)
      have hkz2 : (s.size : Int) ≤ k := by omega
      have HBZ := Lib.hid (set4W_below HB.out hb2le (.int .i64 0) (.int .i64 0) (.int .i64 0) (.string ⟨#[]⟩))
      have HKZ := Lib.hid (set4W_blk HK.out (.int .i64 0) (.int .i64 0) (.int .i64 0) (.string ⟨#[]⟩))
      obtain ⟨f0, f1, f2, f3⟩ : wr.frozen? ⟨b2, 0, none⟩ = false ∧ wr.frozen? ⟨b2, 1, none⟩ = false ∧ wr.frozen? ⟨b2, 2, none⟩ = false ∧ wr.frozen? ⟨b2, 3, none⟩ = false := ⟨HK.out.frozen 0, HK.out.frozen 1, HK.out.frozen 2, HK.out.frozen 3⟩
      obtain ⟨c0, c1, c2, c3⟩ := blk_cells4 HK.out
      go_wp2_with fail
      obtain ⟨q0, q1, q2, q3⟩ := blk_cells4 HKZ.out
      unfold set4W at q0 q1 q2 q3 HBZ
      refine bodyPost_ret (v := .tuple #[.agg #[.int .i64 0, .int .i64 0, .int .i64 0, .string ⟨#[]⟩], .int .i64 0]) (by simp [results, Tryd.results30, go_sem, q0, q1, q2, q3]) rfl ?_
      exact firstAns_no HN.out HBZ.out rfl
    | succ g =>
      have hlt : k < s.size := by omega
      by_cases ha : acc.length ≤ 24
      · have hklr : k < r.length := by rw [HRS.out]; exact hlt
        have HG : Hid (s[k] = r[k]) := Lib.hid (by have := HR.out; subst this; rfl)
        by_cases h34 : r[k] = 34
        · have HN : Hid (tot = some (⟨3, 0, 0, ⟨acc.toArray⟩⟩, k + 1)) := Lib.hid (by
            rw [HTOT.out, HT.out, unq_end hklr ha h34]
            show some ((⟨3, 0, 0, ⟨acc.toArray⟩⟩ : Tok), r.length - (r.drop (k + 1)).length) = some (⟨3, 0, 0, ⟨acc.toArray⟩⟩, k + 1)
            rw [List.length_drop, show r.length - (r.length - (k + 1)) = k + 1 by omega])
          have t1 : ((s[k].toNat : Int) == 34) = true := by rw [HG.out, h34]; rfl
          have HC0 := conv_own wr HO.out rfl
          clear h34 HT
          have HBZ := Lib.hid (set4W_below HB.out hb2le (.int .i64 3) (.int .i64 0) (.int .i64 0) (.string ⟨acc.toArray⟩))
          have HKZ := Lib.hid (set4W_blk HK.out (.int .i64 3) (.int .i64 0) (.int .i64 0) (.string ⟨acc.toArray⟩))
          obtain ⟨f0, f1, f2, f3⟩ : wr.frozen? ⟨b2, 0, none⟩ = false ∧ wr.frozen? ⟨b2, 1, none⟩ = false ∧ wr.frozen? ⟨b2, 2, none⟩ = false ∧ wr.frozen? ⟨b2, 3, none⟩ = false := ⟨HK.out.frozen 0, HK.out.frozen 1, HK.out.frozen 2, HK.out.frozen 3⟩
          obtain ⟨c0, c1, c2, c3⟩ := blk_cells4 HK.out
          go_wp2_with fail
          obtain ⟨q0, q1, q2, q3⟩ := blk_cells4 HKZ.out
          unfold set4W at q0 q1 q2 q3 HBZ
          refine bodyPost_ret (v := .tuple #[.agg #[.int .i64 3, .int .i64 0, .int .i64 0, .string ⟨acc.toArray⟩], .int .i64 ((k + 1 : Nat) : Int)]) (by simp [results, Tryd.results30, go_sem, q0, q1, q2, q3]) rfl ?_
          exact firstAns_yes HN.out HBZ.out rfl
        · have t1 : ((s[k].toNat : Int) == 34) = false := by
            rw [HG.out, beq_eq_false_iff_ne]
            intro e
            exact h34 (UInt8.toNat_inj.1 (by have h : r[k].toNat = 34 := (by omega); rw [h]; rfl))
          by_cases h92 : r[k] = 92
          · have t2 : ((s[k].toNat : Int) == 92) = true := by rw [HG.out, h92]; rfl
            obtain ⟨j, hjk⟩ : ∃ j, j = k + 1 := ⟨_, rfl⟩
            have hj : (k : Int) + 1 = j := by omega
            have HJ := Lib.hid hjk
            by_cases hl : k + 1 = r.length
            · have HN : Hid (tot = none) := Lib.hid (by rw [HTOT.out, HT.out.trans (unq_last hl ha h92)]; rfl)
              have t3 : ((j : Int) == s.size) = true := by rw [beq_iff_eq]; have := HRS.out; omega
              clear HT h34 h92 hl hjk
              have HBZ := Lib.hid (set4W_below HB.out hb2le (.int .i64 0) (.int .i64 0) (.int .i64 0) (.string ⟨#[]⟩))
              have HKZ := Lib.hid (set4W_blk HK.out (.int .i64 0) (.int .i64 0) (.int .i64 0) (.string ⟨#[]⟩))
              obtain ⟨f0, f1, f2, f3⟩ : wr.frozen? ⟨b2, 0, none⟩ = false ∧ wr.frozen? ⟨b2, 1, none⟩ = false ∧ wr.frozen? ⟨b2, 2, none⟩ = false ∧ wr.frozen? ⟨b2, 3, none⟩ = false := ⟨HK.out.frozen 0, HK.out.frozen 1, HK.out.frozen 2, HK.out.frozen 3⟩
              obtain ⟨c0, c1, c2, c3⟩ := blk_cells4 HK.out
              go_wp2_with fail
              obtain ⟨q0, q1, q2, q3⟩ := blk_cells4 HKZ.out
              unfold set4W at q0 q1 q2 q3 HBZ
              refine bodyPost_ret (v := .tuple #[.agg #[.int .i64 0, .int .i64 0, .int .i64 0, .string ⟨#[]⟩], .int .i64 0]) (by simp [results, Tryd.results30, go_sem, q0, q1, q2, q3]) rfl ?_
              exact firstAns_no HN.out HBZ.out rfl
            · have hk1 : k + 1 < r.length := by omega
              have hjR : j < s.size := by have := HRS.out; omega
              have t3 : ((j : Int) == s.size) = false := by rw [beq_eq_false_iff_ne]; omega
              have HE := Lib.hid (escaped_any (s[j].toNat) wr)
              have HGJ : Hid (s[j] = r[k + 1]) := Lib.hid (by subst hjk; have := HR.out; subst this; rfl)
              obtain ⟨q, hq⟩ : ∃ q, escN s[j].toNat = q := ⟨_, rfl⟩
              have HQ : Hid (escB r[k + 1] = q) := Lib.hid (by rw [← hq, HGJ.out]; rfl)
              rw [hq] at HE
              clear hq hjk
              cases q with
              | false =>
                have HN : Hid (tot = none) := Lib.hid (by rw [HTOT.out, HT.out.trans (unq_bad hk1 ha h92 HQ.out)]; rfl)
                clear HT h34 h92 hl
                have HBZ := Lib.hid (set4W_below HB.out hb2le (.int .i64 0) (.int .i64 0) (.int .i64 0) (.string ⟨#[]⟩))
                have HKZ := Lib.hid (set4W_blk HK.out (.int .i64 0) (.int .i64 0) (.int .i64 0) (.string ⟨#[]⟩))
                obtain ⟨f0, f1, f2, f3⟩ : wr.frozen? ⟨b2, 0, none⟩ = false ∧ wr.frozen? ⟨b2, 1, none⟩ = false ∧ wr.frozen? ⟨b2, 2, none⟩ = false ∧ wr.frozen? ⟨b2, 3, none⟩ = false := ⟨HK.out.frozen 0, HK.out.frozen 1, HK.out.frozen 2, HK.out.frozen 3⟩
                obtain ⟨c0, c1, c2, c3⟩ := blk_cells4 HK.out
                go_wp2_with fail
                refine HE.out.mono ?_; rintro e w' ⟨rfl, rfl⟩
                go_wp2_with fail
                obtain ⟨q0, q1, q2, q3⟩ := blk_cells4 HKZ.out
                unfold set4W at q0 q1 q2 q3 HBZ
                refine bodyPost_ret (v := .tuple #[.agg #[.int .i64 0, .int .i64 0, .int .i64 0, .string ⟨#[]⟩], .int .i64 0]) (by simp [results, Tryd.results30, go_sem, q0, q1, q2, q3]) rfl ?_
                exact firstAns_no HN.out HBZ.out rfl
              | true =>
                have HT2 : Hid (t0 = unq (r.drop (k + 2)) (acc ++ [s[j]])) := Lib.hid (by rw [HGJ.out]; exact HT.out.trans (unq_esc hk1 ha h92 HQ.out))
                have hj2 : (j : Int) + 1 = ((k + 2 : Nat) : Int) := by have := HJ.out; omega
                have HJ2 := Lib.hid hj2
                clear HT h34 h92 hl HQ HGJ hj2
                go_wp2_with fail
                refine HE.out.mono ?_; rintro e w' ⟨rfl, rfl⟩
                have HX := Lib.hid (show Sees (wr.alloc (.cells #[.int .u8 (s[j].toNat : Int)] 5)) (wr.alloc (.cells #[.int .u8 (s[j].toNat : Int)] 5)).heap.size 1 (some ⟨wr.heap.size, 0, none⟩) 1 (Lib.byteCells [s[j]]) from (Blk.mk (heap_alloc_new wr _) : Blk _ wr.heap.size 5 [.int .u8 (s[j].toNat : Int)]).sees rfl (List.prefix_refl _))
                have HOA := Lib.hid (HO.out.alloc (.cells #[.int .u8 (s[j].toNat : Int)] 5))
                have HBA := Lib.hid (HB.out.alloc hws (.cells #[.int .u8 (s[j].toNat : Int)] 5))
                have HKA := Lib.hid (HK.out.alloc (.cells #[.int .u8 (s[j].toNat : Int)] 5))
                have hbv : ∀ g, (Value.slice A acc.length c).ownBlock = some g → b2 + 1 ≤ g := fun g hg => (HO.out.lt g hg).1
                have HBV := Lib.hid hbv
                have hbl := HKA.out.lt
                clear HO HB HK hbv
                go_wp2_with (at_builtin; refine wpList_append_at rfl (.tmp 43) (.tmp 47) 41 rfl (b2 + 1) 5 i0 (.int .u8 0) 1 1 Tryd.underlying41 hi0 hz0 hz1 hz2 rfl (by decide) _ acc.length (Lib.byteCells acc) rfl HOA.out _ _ 1 1 (Lib.byteCells [s[j]]) rfl HX.out (byteCells_one' _) (by unfold maxLen; omega) (by omega) hbl ?_)
                intro v3 w3 hown3 hgr3 hwh3
                obtain ⟨A3, c3, rfl, hc3, hc4⟩ := own_slice hown3
                rw [← Lib.byteCells_append] at hown3
                have HO3 := Lib.hid hown3
                have HB3 := Lib.hid (HBA.out.grown hgr3 HBA.out.size (fun g hg => by have := HBV.out g hg; omega))
                have HK3 := Lib.hid (HKA.out.grown hgr3 (fun e => by have := HBV.out b2 e.symm; omega))
                clear hown3 hgr3 hwh3 HOA HX HBA HBV HKA hbl
                go_wp2_with fail
                go_roundg (g - 1)
                case measure => omega
                case rel => exact ⟨k + 2, acc ++ [s[j]], A3, c3, by omega, (by rw [HJ2.out]), by rw [List.length_append, List.length_singleton], by rw [List.length_append, List.length_singleton]; exact HO3.out, HK3.out, HB3.out, by rw [List.length_append, List.length_singleton]; omega, HT2.out⟩
          · have t2 : ((s[k].toNat : Int) == 92) = false := by
              rw [HG.out, beq_eq_false_iff_ne]
              intro e
              exact h92 (UInt8.toNat_inj.1 (by have h : r[k].toNat = 92 := (by omega); rw [h]; rfl))
            have HT2 : Hid (t0 = unq (r.drop (k + 1)) (acc ++ [s[k]])) := Lib.hid (by rw [HG.out]; exact HT.out.trans (unq_step hklr ha h34 h92))
            clear HT h34 h92
            have HX := Lib.hid (show Sees (wr.alloc (.cells #[.int .u8 (s[k].toNat : Int)] 5)) (wr.alloc (.cells #[.int .u8 (s[k].toNat : Int)] 5)).heap.size 1 (some ⟨wr.heap.size, 0, none⟩) 1 (Lib.byteCells [s[k]]) from (Blk.mk (heap_alloc_new wr _) : Blk _ wr.heap.size 5 [.int .u8 (s[k].toNat : Int)]).sees rfl (List.prefix_refl _))
            have HOA := Lib.hid (HO.out.alloc (.cells #[.int .u8 (s[k].toNat : Int)] 5))
            have HBA := Lib.hid (HB.out.alloc hws (.cells #[.int .u8 (s[k].toNat : Int)] 5))
            have HKA := Lib.hid (HK.out.alloc (.cells #[.int .u8 (s[k].toNat : Int)] 5))
            have hbv : ∀ g, (Value.slice A acc.length c).ownBlock = some g → b2 + 1 ≤ g := fun g hg => (HO.out.lt g hg).1
            have HBV := Lib.hid hbv
            have hbl := HKA.out.lt
            clear HO HB HK hbv
            go_wp2_with (at_builtin; refine wpList_append_at rfl (.tmp 43) (.tmp 47) 41 rfl (b2 + 1) 5 i0 (.int .u8 0) 1 1 Tryd.underlying41 hi0 hz0 hz1 hz2 rfl (by decide) _ acc.length (Lib.byteCells acc) rfl HOA.out _ _ 1 1 (Lib.byteCells [s[k]]) rfl HX.out (byteCells_one' _) (by unfold maxLen; omega) (by omega) hbl ?_)
            intro v3 w3 hown3 hgr3 hwh3
            obtain ⟨A3, c3, rfl, hc3, hc4⟩ := own_slice hown3
            rw [← Lib.byteCells_append] at hown3
            have HO3 := Lib.hid hown3
            have HB3 := Lib.hid (HBA.out.grown hgr3 HBA.out.size (fun g hg => by have := HBV.out g hg; omega))
            have HK3 := Lib.hid (HKA.out.grown hgr3 (fun e => by have := HBV.out b2 e.symm; omega))
            clear hown3 hgr3 hwh3 HOA HX HBA HBV HKA hbl
            go_wp2_with fail
            go_roundg g
            case measure => omega
            case rel => exact ⟨k + 1, acc ++ [s[k]], A3, c3, by omega, by go_num, by rw [List.length_append, List.length_singleton], by rw [List.length_append, List.length_singleton]; exact HO3.out, HK3.out, HB3.out, by rw [List.length_append, List.length_singleton]; omega, HT2.out⟩
      · have HN : Hid (tot = none) := Lib.hid (by rw [HTOT.out, HT.out, unq_long (by omega)]; rfl)
        have HBZ := Lib.hid (set4W_below HB.out hb2le (.int .i64 0) (.int .i64 0) (.int .i64 0) (.string ⟨#[]⟩))
        have HKZ := Lib.hid (set4W_blk HK.out (.int .i64 0) (.int .i64 0) (.int .i64 0) (.string ⟨#[]⟩))
        obtain ⟨f0, f1, f2, f3⟩ : wr.frozen? ⟨b2, 0, none⟩ = false ∧ wr.frozen? ⟨b2, 1, none⟩ = false ∧ wr.frozen? ⟨b2, 2, none⟩ = false ∧ wr.frozen? ⟨b2, 3, none⟩ = false := ⟨HK.out.frozen 0, HK.out.frozen 1, HK.out.frozen 2, HK.out.frozen 3⟩
        obtain ⟨c0, c1, c2, c3⟩ := blk_cells4 HK.out
        go_wp2_with fail
        obtain ⟨q0, q1, q2, q3⟩ := blk_cells4 HKZ.out
        unfold set4W at q0 q1 q2 q3 HBZ
        refine bodyPost_ret (v := .tuple #[.agg #[.int .i64 0, .int .i64 0, .int .i64 0, .string ⟨#[]⟩], .int .i64 0]) (by simp [results, Tryd.results30, go_sem, q0, q1, q2, q3]) rfl ?_
        exact firstAns_no HN.out HBZ.out rfl
end Go.Proofs.YtealflkblkfhbaaDoor
