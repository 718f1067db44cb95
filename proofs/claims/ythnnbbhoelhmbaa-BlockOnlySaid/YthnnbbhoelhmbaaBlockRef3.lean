/- klaxonref1.Block: the walk. -/
import Derived.Test.YthnnbbhoelhmbaaBlockRef2
namespace Go.Proofs.Ythnnbbhoelhmbaa
open Go.ChangeShapes Go.WideShapes Go.ChangeAt Go.RowKit
set_option linter.unusedVariables false
set_option maxRecDepth 100000
set_option maxHeartbeats 8000000 in
theorem refblock_any (A : Option Addr) (n c B : Nat) (l : List (Int × Int)) (w : World) (h : Sees w B 2 A n (smps l)) (hB : B ≤ w.heap.size) (hn : n ≤ 1000) :
    Calls Try.prog 15 #[.slice A n c] w (OwnAns 5 1 (putB l).length (u8s (putB l)) w) := by
  have H := Lib.hid h
  have HL := Lib.hid h.smp_len
  have HP := Lib.hid (show putB l = num n ++ refB 0 0 0 (l.drop 0) by unfold putB; rw [refB_eq _ _ _ _ (by unfold I64; omega), HL.out, List.drop_zero])
  obtain ⟨i0, hi, hz0, hz1, hz2⟩ := info_parts Try.infoU8
  clear h
  have HCN := Lib.hid (refnum_any (n : Int) w (by unfold I64; omega))
  have hnl := num_len n
  generalize putB l = tot at *
  generalize num (n : Int) = ys0 at *
  go_enter Try.func15, Try.ntmps15
  go_wp2_with fail
  refine HCN.out.mono ?_; rintro e w2 ⟨A2, c2, rfl, hown2, hb2, h1, h2⟩
  have HO2 := Lib.hid hown2; have HB2 := Lib.hid hb2
  clear hown2 hb2 HCN h1 h2
  go_wp2_with fail
  go_loopg [3, 4, 5, 6, 15] n (fun g x3 x4 x5 x6 x15 wr => ∃ (k : Nat) (t d v : Int) (ys : List Int), k + g = n ∧ x15 = .int .i64 k ∧ x4 = .int .i64 t ∧ x5 = .int .i64 d ∧ x6 = .int .i64 v ∧ wr.ownsRow w.heap.size 5 1 x3 ys.length (u8s ys) ∧ Below w.heap.size w wr ∧ ys.length ≤ 10 + 20 * k ∧ tot = ys ++ refB t d v (l.drop k))
  case atStart => exact ⟨0, 0, 0, 0, ys0, by omega, rfl, rfl, rfl, rfl, HO2.out, HB2.out, by omega, HP.out⟩
  case round =>
    clear HO2 HB2 HP hnl
    obtain ⟨k, t, d, v, ys, hkg, rfl, rfl, rfl, rfl, hown, hbel, hyl, htot⟩ := hrel
    have HT := Lib.hid htot; have HO := Lib.hid hown; have HBL := Lib.hid hbel
    have hsz := hbel.size
    clear htot hown hbel
    cases gk with
    | zero =>
      obtain rfl : k = n := by omega
      have HE : Hid (tot = ys) := Lib.hid (by rw [HT.out, List.drop_of_length_le (by rw [HL.out]; exact Nat.le_refl _), refB, List.append_nil])
      obtain ⟨A3, c3, rfl, h1, h2⟩ := own_slice HO.out
      go_wp2_with fail
      go_ret
      exact ownAns (by rw [HE.out]; exact HO.out) HBL.out (by rw [HE.out]; rfl) (by rw [HE.out]; exact h1) h2
    | succ g =>
      have hlt : k < n := by omega
      obtain ⟨ad, hkl, rfl, c0, c1⟩ := (H.out.below (HBL.out.mono hB)).smp hlt
      have HD := Lib.hid (List.drop_eq_getElem_cons hkl)
      have hal := World.block_lt_of_cell? wr _ c0
      generalize l[k] = p at *
      obtain ⟨x, y⟩ := p
      simp only at c0 c1
      obtain ⟨d2, hd2⟩ : ∃ d2, wrap64 (x - t) = d2 := ⟨_, rfl⟩
      obtain ⟨a, ha⟩ : ∃ a, wrap64 (d2 - d) = a := ⟨_, rfl⟩
      obtain ⟨b, hb⟩ : ∃ b, wrap64 (y - v) = b := ⟨_, rfl⟩
      have hb' : IntKind.i64.wrap (y - v) = b := by rw [← hb, wrap64, IntKind.wrap_i64]
      have ha' : IntKind.i64.wrap (d2 - d) = a := by rw [← ha, wrap64, IntKind.wrap_i64]
      have HT2 : Hid (tot = ys ++ num a ++ num b ++ refB x d2 y (l.drop (k + 1))) := Lib.hid (by rw [HT.out, HD.out, refB, hd2, ha, hb]; simp only [List.append_assoc])
      have HIA := Lib.hid (show I64 a from ha ▸ I64_wrap _)
      have HIB := Lib.hid (show I64 b from hb ▸ I64_wrap _)
      have hla := num_len a
      have hlb := num_len b
      have HR0 := Lib.hid (show RefAt w wr.heap.size x y ys (wr.alloc (.cells #[.int .i64 x, .int .i64 y] 25)) u3 from
        ⟨Blk.mk (heap_alloc_new wr _), HO.out.alloc _, HBL.out.alloc hsz _, fun e => by have := (HO.out.lt _ e).2; omega, hsz⟩)
      obtain ⟨A3, c3, rfl, h31, h32⟩ := own_slice HO.out
      clear HT HD HO HBL
      obtain ⟨bx, hbx⟩ : ∃ bx, wr.heap.size = bx := ⟨_, rfl⟩
      rw [hbx] at HR0 hal hsz
      go_upto_region 7 with fail
      rw [hd2]
      go_cut [3] (fun x3 wx => RefAt w bx x y (ys ++ num a ++ num b) wx x3)
      case first =>
        have HR0 := Lib.hid HR0.out.drew
        have tokA : True := trivial
        have tokB : True := trivial
        have tokP : True := trivial
        have tokQ : True := trivial
        have Z := Lib.hid (show Blk (wr.alloc (.cells #[.int .i64 x, .int .i64 y] 25)) bx 25 [.int .i64 x, .int .i64 y] from HR0.out.1)
        have e1 := Z.out.cell 1
        simp only [List.getElem?_cons_zero, List.getElem?_cons_succ] at e1
        clear h31 h32
        go_region_held3 (fun W => W.cell? ⟨bx, 1, none⟩ = some (.int .i64 y)) (exact Z.out.cell 1) (first
          | (have tk := tokA; (with_reducible refine (refnum_any a _ HIA.out).mono ?_); rintro e wa ⟨Aa, ca, rfl, hoA, hbA, hA1, hA2⟩; have HRA := Lib.hid (HR0.out.below hbA); have HOA := Lib.hid hoA; have Z := Lib.hid HRA.out.1; clear tokA tk hoA hbA hA1 hA2)
          | (have tk := tokB; (with_reducible refine (refnum_any b _ HIB.out).mono ?_); rintro e wb ⟨Ab, cb, rfl, hoB, hbB, hB1, hB2⟩; first | (have HRB := Lib.hid (HRP.out.below hbB); have HOB := Lib.hid hoB; have Z := Lib.hid HRB.out.1) | (have HNB := Lib.hid (show Newer _ (Value.slice A3 ys.length c3) (Value.slice Ab (num b).length cb) from ⟨fun k hk => (HRA.out.2.1.lt k hk).2, fun k hk => (hoB.lt k hk).1⟩); have HRA := Lib.hid (HRA.out.below hbB); have HOA := Lib.hid (own_below HOA.out hbB (Nat.le_refl _)); have HOB := Lib.hid hoB; have Z := Lib.hid HRA.out.1); clear tokB tk hoB hbB hB1 hB2)
          | (have tk := tokP; refine step_append_at rfl (.tmp 23) (.tmp 27) 22 rfl w.heap.size 5 i0 (.int .u8 0) 1 1 Try.underlying22 hi hz0 hz1 hz2 rfl (by decide) (.slice A3 ys.length c3) ys.length (u8s ys) (by simp [Act.eval]) HRA.out.2.1 _ Aa (num a).length ca (u8s (num a)) (by simp [Act.eval]) (Sees.of_own HOA.out) (u8s_one _) (by unfold maxLen; omega) (by omega) HRA.out.2.2.1.size ?_; intro v7 w7 hown7 hgr7 hwh7; have HRP := Lib.hid (HRA.out.app hown7 hgr7 hwh7); have Z := Lib.hid HRP.out.1; first | (have HOB := Lib.hid (own_grown_ne HOB.out hgr7 HNB.out.ne); have HRB := Lib.hid HRP.out) | skip; clear tokP tk hown7 hgr7 hwh7)
          | (have tk := tokQ; refine step_append_at rfl (.tmp 28) (.tmp 33) 22 rfl w.heap.size 5 i0 (.int .u8 0) 1 1 Try.underlying22 hi hz0 hz1 hz2 rfl (by decide) v7 (ys ++ num a).length (u8s (ys ++ num a)) (by simp [Act.eval]) HRB.out.2.1 _ Ab (num b).length cb (u8s (num b)) (by simp [Act.eval]) (Sees.of_own HOB.out) (u8s_one _) (by unfold maxLen; rw [List.length_append]; omega) (by rw [List.length_append]; omega) HRB.out.2.2.1.size ?_; intro v8 w8 hown8 hgr8 hwh8; have HRQ := Lib.hid (HRB.out.app hown8 hgr8 hwh8); have Z := Lib.hid HRQ.out.1; clear tokQ tk hown8 hgr8 hwh8)
          | fail)
        all_goals
          go_wp2_with fail
          go_meet
          exact HRQ.out
      case rest =>
        have HRC := Lib.hid hcut; clear hcut HR0
        have e0 := HRC.out.1.cell 0
        have e1 := HRC.out.1.cell 1
        simp only [List.getElem?_cons_zero, List.getElem?_cons_succ] at e0 e1
        have HL2 : Hid ((ys ++ num a ++ num b).length ≤ 10 + 20 * (k + 1)) := Lib.hid (by rw [List.length_append, List.length_append]; omega)
        go_wp2_with fail
        go_quiet (fail)
        go_wp2_with fail
        go_roundg g
        case measure => omega
        case rel => exact ⟨k + 1, x, d2, y, ys ++ num a ++ num b, by omega, by go_num, rfl, rfl, rfl, HRC.out.2.1, by first | exact HRC.out.2.2.1 | exact below_drewN3 HRC.out.2.2.1 _, HL2.out, HT2.out⟩
end Go.Proofs.Ythnnbbhoelhmbaa
