/- block.Put. -/
import Derived.Test.YthnnbbhoelhmbaaBlockNum2
import Derived.WalkMore
namespace Go.Proofs.Ythnnbbhoelhmbaa
open Go.ChangeShapes Go.WideShapes Go.ChangeAt Go.RowKit
set_option linter.unusedVariables false
set_option maxRecDepth 100000
theorem where_ne {w : World} {v v' : Value} {g : Nat} (h : Where w v v') (hb : g < w.heap.size) (hn : v.ownBlock ≠ some g) : v'.ownBlock ≠ some g := by
  intro e
  rcases h with h | h
  · exact hn (h ▸ e)
  · have := h g e; omega
/-- The bytes so far, and the sample ahead in its box. -/
def PutAt (W : World) (ba : Nat) (ys : List Int) (t v : Int) (w : World) (val : Value) : Prop :=
  Blk w ba 25 [.int .i64 t, .int .i64 v] ∧ w.ownsRow W.heap.size 5 1 val ys.length (u8s ys) ∧ Below W.heap.size W w ∧ val.ownBlock ≠ some ba ∧ W.heap.size ≤ ba
theorem PutAt.alloc {W w : World} {ba : Nat} {ys : List Int} {t v : Int} {val : Value} (h : PutAt W ba ys t v w val) (o : Obj) : PutAt W ba ys t v (w.alloc o) val :=
  ⟨h.1.alloc o, h.2.1.alloc o, h.2.2.1.alloc h.2.2.1.size o, h.2.2.2.1, h.2.2.2.2⟩
theorem PutAt.set {W w : World} {ba : Nat} {ys : List Int} {t v : Int} {val : Value} (h : PutAt W ba ys t v w val) (x y : Int) : PutAt W ba ys x y ((w.setCell ⟨ba, 0, none⟩ (.int .i64 x)).setCell ⟨ba, 1, none⟩ (.int .i64 y)) val :=
  ⟨(h.1.set 0 (.int .i64 x)).set 1 (.int .i64 y), ownsRow_setCell_other (ownsRow_setCell_other h.2.1 (fun e => h.2.2.2.1 e) _) (fun e => h.2.2.2.1 e) _, (h.2.2.1.setCell h.2.2.2.2 _).setCell h.2.2.2.2 _, h.2.2.2.1, h.2.2.2.2⟩
theorem PutAt.app {W w w2 : World} {ba : Nat} {ys zs : List Int} {t v : Int} {val val' : Value} (h : PutAt W ba ys t v w val)
    (hown : w2.ownsRow W.heap.size 5 1 val' zs.length (u8s zs)) (hg : w.grownBy w2 val.ownBlock) (hw : Where w val val') : PutAt W ba zs t v w2 val' :=
  ⟨h.1.grown hg (fun e => h.2.2.2.1 e.symm), hown, h.2.2.1.grown hg h.2.2.1.size (fun k hk => (h.2.1.lt k hk).1), where_ne hw h.1.lt h.2.2.2.1, h.2.2.2.2⟩
theorem bodyF_cons (t v gap : Int) (x y : Int) (l : List (Int × Int)) {a b c : Int} (ha : wrap64 (wrap64 (x - t) - gap) = a) (hb : wrap64 (y - v) = b) (hc : wrap64 (gap + a) = c) :
    bodyF t v gap ((x, y) :: l) = num a ++ num b ++ bodyF x y c l := by rw [bodyF, ha, hb, hc]
set_option maxHeartbeats 4000000 in
theorem put_any (A : Option Addr) (n c B : Nat) (l : List (Int × Int)) (w : World) (h : Sees w B 2 A n (smps l)) (hB : B ≤ w.heap.size) (hn : n ≤ 1000) :
    Calls Try.prog 8 #[.slice A n c] w (OwnAns 5 1 (putF l).length (u8s (putF l)) w) := by
  have H := Lib.hid h
  have HL := Lib.hid h.smp_len
  have HCH := Lib.hid (held_any A n c B l w h hB (by omega))
  clear h
  cases hh : held l with
  | false =>
    have HP := Lib.hid (show putF l = [] by unfold putF; rw [hh]; rfl)
    rw [hh] at HCH
    clear hh
    go_enter Try.func8, Try.ntmps8
    go_wp2_with fail
    refine HCH.out.mono ?_; rintro e w1 ⟨rfl, hb1⟩
    have HB1 := Lib.hid hb1; clear hb1
    go_wp2_with fail
    go_ret
    exact ownAns (A := none) (c := 0) (by rw [HP.out]; exact World.ownsRow_nil _ _ _ _) HB1.out (by rw [HP.out]; rfl) (by rw [HP.out]; exact Nat.le_refl _) (by omega)
  | true =>
    have HP := Lib.hid (show putF l = num l.length ++ bodyF 0 0 0 l by unfold putF; rw [hh]; rfl)
    have HPL := Lib.hid (show nums [(n : Int)] = num n by simp [nums])
    rw [hh] at HCH
    clear hh
    generalize putF l = tot at *
    go_enter Try.func8, Try.ntmps8
    go_wp2_with fail
    refine HCH.out.mono ?_; rintro e w1 ⟨rfl, hb1⟩
    have hs1 := hb1.size
    have HBA := Lib.hid (hb1.alloc hs1 (.cells #[.int .i64 n] 3))
    have HS1 := Lib.hid (show Sees (w1.alloc (.cells #[.int .i64 n] 3)) (w1.alloc (.cells #[.int .i64 n] 3)).heap.size 1 (some ⟨w1.heap.size, 0, none⟩) 1 (ints [(n : Int)]) from (Blk.mk (heap_alloc_new w1 _) : Blk _ w1.heap.size 3 [.int .i64 n]).sees rfl (List.prefix_refl _))
    have HCN := Lib.hid (number_any (some ⟨w1.heap.size, 0, none⟩) 1 1 _ [(n : Int)] _ HS1.out (Nat.le_refl _) (by omega) (fun z hz => by simp at hz; subst hz; unfold I64; omega))
    clear hb1 HCH HS1
    go_wp2_with fail
    refine HCN.out.mono ?_; rintro e w2 ⟨A2, c2, rfl, hown2, hb2, h1, h2⟩
    rw [HPL.out] at hown2 h1 ⊢
    have hb3 := HBA.out.trans (hb2.mono (by simp; omega))
    have HPA := Lib.hid (show PutAt w w2.heap.size (num n) 0 0 (w2.alloc (.cells #[.int .i64 0, .int .i64 0] 25)) (.slice A2 (num n).length c2) from
      ⟨Blk.mk (heap_alloc_new w2 _), own_mono (hown2.alloc _) (by simp; omega), hb3.alloc hb3.size _, fun e => by have := (hown2.lt _ e).2; omega, hb3.size⟩)
    have HT0 := Lib.hid (show tot = num n ++ bodyF 0 0 0 (l.drop 0) by rw [HP.out, HL.out, List.drop_zero])
    have hnl := num_len n
    clear hown2 hb2 hb3 HCN HBA HP HPL h1 h2
    generalize num n = ys0 at *
    obtain ⟨ba, hba⟩ : ∃ ba, w2.heap.size = ba := ⟨_, rfl⟩
    rw [hba] at HPA
    go_wp2_with fail
    go_loopg [3, 5, 18] n (fun g x3 x5 x18 wr => ∃ (k : Nat) (t v gap : Int) (ys : List Int), k + g = n ∧ x18 = .int .i64 k ∧ x5 = .int .i64 gap ∧ PutAt w ba ys t v wr x3 ∧ ys.length ≤ 10 + 20 * k ∧ tot = ys ++ bodyF t v gap (l.drop k))
    case atStart => exact ⟨0, 0, 0, 0, ys0, by omega, rfl, rfl, HPA.out, by omega, HT0.out⟩
    case round =>
      clear HPA HT0 hba hnl hs1
      obtain ⟨k, t, v, gap, ys, hkg, rfl, rfl, hpa, hyl, htot⟩ := hrel
      have HT := Lib.hid htot; have HPA := Lib.hid hpa
      have hsz := hpa.2.2.1.size
      clear htot hpa
      cases gk with
      | zero =>
        obtain rfl : k = n := by omega
        have HE : Hid (tot = ys) := Lib.hid (by rw [HT.out, List.drop_of_length_le (by rw [HL.out]; exact Nat.le_refl _), bodyF, List.append_nil])
        obtain ⟨A3, c3, rfl, h1, h2⟩ := own_slice HPA.out.2.1
        go_wp2_with fail
        go_ret
        exact ownAns (by rw [HE.out]; exact HPA.out.2.1) HPA.out.2.2.1 (by rw [HE.out]; rfl) (by rw [HE.out]; exact h1) h2
      | succ g =>
        have hlt : k < n := by omega
        obtain ⟨ad, hkl, rfl, c0, c1⟩ := (H.out.below (HPA.out.2.2.1.mono hB)).smp hlt
        have HD := Lib.hid (List.drop_eq_getElem_cons hkl)
        have hal := World.block_lt_of_cell? wr _ c0
        generalize l[k] = p at *
        obtain ⟨x, y⟩ := p
        simp only at c0 c1
        obtain ⟨a, ha⟩ : ∃ a, wrap64 (wrap64 (x - t) - gap) = a := ⟨_, rfl⟩
        obtain ⟨b, hb⟩ : ∃ b, wrap64 (y - v) = b := ⟨_, rfl⟩
        have HT2 : Hid (tot = ys ++ (num a ++ num b ++ bodyF x y (wrap64 (gap + a)) (l.drop (k + 1)))) := Lib.hid (by rw [HT.out, HD.out, bodyF_cons t v gap x y _ ha hb rfl])
        have HIA := Lib.hid (show I64 a from ha ▸ I64_wrap _)
        have HIB := Lib.hid (show I64 b from hb ▸ I64_wrap _)
        have e0 : wr.cell? ⟨ba, 0, none⟩ = some (.int .i64 t) := HPA.out.1.cell 0
        have e1 : wr.cell? ⟨ba, 1, none⟩ = some (.int .i64 v) := HPA.out.1.cell 1
        have hbal := HPA.out.1.lt
        have HP2 := Lib.hid (HPA.out.alloc (.cells #[.int .i64 x, .int .i64 y] 25))
        have HBX := Lib.hid (show Blk (wr.alloc (.cells #[.int .i64 x, .int .i64 y] 25)) wr.heap.size 25 [.int .i64 x, .int .i64 y] from Blk.mk (heap_alloc_new wr _))
        have HNX : Hid (u3.ownBlock ≠ some wr.heap.size) := fun e => by have := (HPA.out.2.1.lt _ e).2; omega
        obtain ⟨bx, hbx⟩ : ∃ bx, wr.heap.size = bx := ⟨_, rfl⟩
        rw [hbx] at HBX HNX hbal
        have hxlt : bx < (wr.alloc (.cells #[.int .i64 x, .int .i64 y] 25)).heap.size := HBX.out.lt
        have HC1 := Lib.hid (appnum_any w.heap.size u3 ys a _ HIA.out HP2.out.2.1 HP2.out.2.2.1.size (by omega))
        have ha' : a = wrap64 (wrap64 (x - t) - gap) := ha.symm
        clear HT HD HPA ha
        go_wp2_with fail
        rw [← ha']
        refine HC1.out.mono ?_; rintro e w3 ⟨A3, c3, rfl, hown3, hg3, hw3, h1, h2⟩
        have HP3 := Lib.hid (HP2.out.app hown3 hg3 hw3)
        have HBX3 := Lib.hid (HBX.out.grown hg3 (fun e => HNX.out e.symm))
        have HNX3 := Lib.hid (where_ne hw3 hxlt HNX.out)
        have hl1 := num_len a
        have hl2 := num_len b
        clear hown3 hg3 hw3 HC1 HP2 HBX HNX e0 e1 c0 c1 hal hxlt h1 h2
        have HLY : Hid ((ys ++ num a).length = ys.length + (num a).length) := Lib.hid (List.length_append ..)
        generalize hys1 : ys ++ num a = ys1 at *
        have HY1 := Lib.hid hys1.symm; clear hys1
        have e0 : w3.cell? ⟨ba, 0, none⟩ = some (.int .i64 t) := HP3.out.1.cell 0
        have e1 : w3.cell? ⟨ba, 1, none⟩ = some (.int .i64 v) := HP3.out.1.cell 1
        have f0 : w3.cell? ⟨bx, 0, none⟩ = some (.int .i64 x) := HBX3.out.cell 0
        have f1 : w3.cell? ⟨bx, 1, none⟩ = some (.int .i64 y) := HBX3.out.cell 1
        have hy1 : ys1.length ≤ 20 + 20 * k := by have := HLY.out; omega
        have HC2 := Lib.hid (appnum_any w.heap.size _ ys1 b _ HIB.out HP3.out.2.1 HP3.out.2.2.1.size (by omega))
        have hb' : b = wrap64 (y - v) := hb.symm
        clear hb
        generalize hq1 : ys1.length = q1 at *
        have HQ1 := Lib.hid hq1; clear hq1
        clear ha'
        go_wp2_with fail
        rw [← hb']
        refine HC2.out.mono ?_; rintro e w4 ⟨A4, c4, rfl, hown4, hg4, hw4, h1, h2⟩
        have HP4 := Lib.hid (HP3.out.app hown4 hg4 hw4)
        have HBX4 := Lib.hid (HBX3.out.grown hg4 (fun e => HNX3.out e.symm))
        clear hown4 hg4 hw4 HC2 HP3 HBX3 HNX3 e0 e1 f0 f1 h1 h2
        have HLY2 : Hid ((ys1 ++ num b).length ≤ ys1.length + 10) := Lib.hid (by rw [List.length_append]; omega)
        have HT3 : Hid (tot = (ys1 ++ num b) ++ bodyF x y (wrap64 (gap + a)) (l.drop (k + 1))) := Lib.hid (by rw [HT2.out, HY1.out]; simp only [List.append_assoc])
        generalize ys1 ++ num b = ys2 at *
        have HL2 : Hid (ys2.length ≤ 10 + 20 * (k + 1)) := Lib.hid (by have := HLY2.out; have := HLY.out; have := HQ1.out; omega)
        have e0 : w4.cell? ⟨ba, 0, none⟩ = some (.int .i64 t) := HP4.out.1.cell 0
        have e1 : w4.cell? ⟨ba, 1, none⟩ = some (.int .i64 v) := HP4.out.1.cell 1
        have f0 : w4.cell? ⟨bx, 0, none⟩ = some (.int .i64 x) := HBX4.out.cell 0
        have f1 : w4.cell? ⟨bx, 1, none⟩ = some (.int .i64 y) := HBX4.out.cell 1
        have hfz := fun o => HP4.out.1.frozen o
        have HSET := Lib.hid (HP4.out.set x y)
        clear HP4 HBX4 HLY2 HLY HT2 HY1 hy1 hl1 hl2 hyl
        go_wp2_with fail
        go_roundg g
        case measure => omega
        case rel => exact ⟨k + 1, x, y, wrap64 (gap + a), ys2, by omega, by go_num, rfl, HSET.out, HL2.out, HT3.out⟩
end Go.Proofs.Ythnnbbhoelhmbaa
