/- The walk of MatchOpposite. -/
import Derived.Test.YtpeakblpmcfdnaaMatchTells
import Derived.Test.YtpeakblpmcfdnaaKept
import Derived.Test.YtpeakblpmcfdnaaFacts
import Derived.Deep.RegionHeld3
import Derived.Outline
namespace Go.Proofs.Ytpeakblpmcfdnaa
open Go.ChangeShapes Go.WideShapes Go.ChangeAt Go.RowKit
set_option linter.unusedVariables false
set_option linter.unusedSimpArgs false
set_option maxRecDepth 100000
/-- match.All of one matcher in a new slice. -/
theorem all_one (A0 : Option Addr) (n c B : Nat) (l : List Lbl) (nm vl : ByteArray) (k : Int) (W : World) (h : Sees W B 2 A0 n (lbls l)) (hB : B ≤ W.heap.size) (hn : n ≤ 9223372036854775807) (r : Bool) (hr : holdsF l (nm, vl, k) = r) :
    Calls Try.prog 8 #[.slice A0 n c, .slice (some ⟨W.heap.size, 0, none⟩) 1 1] (W.alloc (.cells #[.string nm, .string vl, .int .i64 k] 23)) fun e w' => e = .returned (.bool r) ∧ Below W.heap.size W w' := by
  subst hr
  have hb0 := (Below.refl W.heap.size W).alloc (Nat.le_refl _) (.cells #[.string nm, .string vl, .int .i64 k] 23)
  have hS : Sees (W.alloc (.cells #[.string nm, .string vl, .int .i64 k] 23)) (W.alloc (.cells #[.string nm, .string vl, .int .i64 k] 23)).heap.size 3 (some ⟨W.heap.size, 0, none⟩) 1 (mtcs [(nm, vl, k)]) :=
    (Blk.mk (heap_alloc_new W _) : Blk _ W.heap.size 23 [.string nm, .string vl, .int .i64 k]).sees rfl (List.prefix_refl _)
  refine (all_any A0 n c B l _ 1 1 _ [(nm, vl, k)] _ (h.below (hb0.mono hB)) (Nat.le_trans hB hb0.size) hn hS (Nat.le_refl _) (by omega)).mono fun e w' hh => ?_
  obtain ⟨rfl, hb⟩ := hh
  exact ⟨by simp [allF], hb0.trans (hb.mono hb0.size)⟩
/-- match.All of one matcher that lies in a block. -/
theorem all_at (A0 : Option Addr) (n c B : Nat) (l : List Lbl) (nm vl : ByteArray) (k : Int) (V : World) (b : Nat) (hk : Blk V b 23 [.string nm, .string vl, .int .i64 k]) (h : Sees V B 2 A0 n (lbls l)) (hB : B ≤ V.heap.size) (hn : n ≤ 9223372036854775807) (r : Bool) (hr : holdsF l (nm, vl, k) = r) :
    Calls Try.prog 8 #[.slice A0 n c, .slice (some ⟨b, 0, none⟩) 1 1] V fun e w' => e = .returned (.bool r) ∧ Below V.heap.size V w' := by
  subst hr
  have hS : Sees V V.heap.size 3 (some ⟨b, 0, none⟩) 1 (mtcs [(nm, vl, k)]) := hk.sees rfl (List.prefix_refl _)
  refine (all_any A0 n c B l _ 1 1 _ [(nm, vl, k)] _ h hB hn hS (Nat.le_refl _) (by omega)).mono fun e w' hh => ?_
  obtain ⟨rfl, hb⟩ := hh
  exact ⟨by simp [allF], hb⟩
theorem prefix_self (x : List UInt8) : Lib.hasPrefix x x = true := by simp [Lib.hasPrefix]
theorem prefix_nil (x : List UInt8) : Lib.hasPrefix x [] = true := by simp [Lib.hasPrefix]
theorem opp_ne (l : List Lbl) (n v : ByteArray) : holdsF l (n, v, 2) = !holdsF l (n, v, 1) := by simp [holdsF]
theorem opp_not (l : List Lbl) (n v : ByteArray) : holdsF l (n, v, 4) = !holdsF l (n, v, 3) := by simp [holdsF]
theorem opp_has (l : List Lbl) (n v : ByteArray) (h : holdsF l (n, v, 1) = true) : holdsF l (n, v, 3) = true := by
  have h' : getF l n = v := by simpa [holdsF] using h
  simp only [holdsF]
  rw [if_neg (by decide), if_neg (by decide), if_pos trivial, h']
  exact prefix_self _
theorem opp_any (l : List Lbl) (n : ByteArray) : holdsF l (n, ⟨#[]⟩, 3) = true := by
  simp only [holdsF]
  rw [if_neg (by decide), if_neg (by decide), if_pos trivial]
  exact prefix_nil _
theorem opp_turn (l : List Lbl) (own : List Mtc) (j : Nat) : allF l (own.drop j ++ own.take j) = allF l own := by
  conv => rhs; rw [← List.take_append_drop j own]
  unfold allF
  rw [List.all_append, List.all_append, Bool.and_comm]
theorem opp_more (l : List Lbl) (own : List Mtc) (x : Mtc) : allF l (own ++ [x]) = (allF l own && holdsF l x) := by
  unfold allF
  rw [List.all_append, List.all_cons, List.all_nil, Bool.and_true]
theorem blk3 {V : World} {b : Nat} {t : TypeId} {x y z : Value} (h : Blk V b t [x, y, z]) : V.cell? ⟨b, 0, none⟩ = some x ∧ V.cell? ⟨b, 1, none⟩ = some y ∧ V.cell? ⟨b, 2, none⟩ = some z := ⟨h.cell 0, h.cell 1, h.cell 2⟩
theorem three4 {w0 V : World} {t : TypeId} {b1 b2 b3 b4 : Nat} {x1 y1 z1 x2 y2 z2 x3 y3 z3 x4 y4 z4 : Value} {P0 P1 : World → Prop} {Ps : List (World → Prop)} (h : Kept w0 (P0 :: P1 :: (fun W => Blk W b4 t [x4, y4, z4]) :: (fun W => Blk W b3 t [x3, y3, z3]) :: (fun W => Blk W b2 t [x2, y2, z2]) :: (fun W => Blk W b1 t [x1, y1, z1]) :: Ps) V) :
    (V.cell? ⟨b1, 0, none⟩ = some x1 ∧ V.cell? ⟨b1, 1, none⟩ = some y1 ∧ V.cell? ⟨b1, 2, none⟩ = some z1) ∧ (V.cell? ⟨b2, 0, none⟩ = some x2 ∧ V.cell? ⟨b2, 1, none⟩ = some y2 ∧ V.cell? ⟨b2, 2, none⟩ = some z2) ∧ (V.cell? ⟨b3, 0, none⟩ = some x3 ∧ V.cell? ⟨b3, 1, none⟩ = some y3 ∧ V.cell? ⟨b3, 2, none⟩ = some z3) ∧ (V.cell? ⟨b4, 0, none⟩ = some x4 ∧ V.cell? ⟨b4, 1, none⟩ = some y4 ∧ V.cell? ⟨b4, 2, none⟩ = some z4) :=
  ⟨blk3 h.p5, blk3 h.p4, blk3 h.p3, blk3 h.p2⟩
theorem Kept.alloc_below {w0 w w' : World} {Ps : List (World → Prop)} {o : Obj} (h : Kept w0 Ps w) (hb : Below (w.alloc o).heap.size (w.alloc o) w') : Kept w0 Ps w' := (h.alloc o).below hb
set_option maxHeartbeats 8000000 in
theorem match_opposite (ka : KSet) (name value : ByteArray) (AM : Option Addr) (nm cm : Nat) (ms : List Mtc) (cut : Int) (w : World) (ha : ka.ok w.heap.size w) (hv : value.size ≤ maxLen)
    (hM : Sees w w.heap.size 3 AM nm (mtcs ms)) (hmc : nm ≤ cm) (hcm : cm ≤ 9223372036854775807) (hcut : I64 cut) :
    Calls Try.prog 5 #[ka.val, .string name, .string value, .slice AM nm cm, .int .i64 cut] w fun e w' => e = .returned (.bool true) ∧ Below w.heap.size w w' := by
  obtain ⟨i0, hi0, hz0, hz1, hz2⟩ := info_parts Try.infoMatcher
  have hml := hM.mtc_len
  unfold maxLen at hv
  obtain ⟨q, hq⟩ : ∃ q, min value.size 5 = q := ⟨_, rfl⟩
  have hqv : q ≤ value.size := by omega
  obtain ⟨k, hk⟩ : ∃ k, min nm 5 = k := ⟨_, rfl⟩
  have hkn : k ≤ nm := by omega
  have hk5 : k ≤ 5 := by omega
  have HSM := Lib.hid (show Sees w w.heap.size 3 AM k (mtcs (ms.take k)) by have h := hM.take hkn; rwa [mtcs_take] at h)
  have HOL := Lib.hid (show (ms.take k).length = k by rw [List.length_take]; omega)
  have HKA := Lib.hid (fun (W : World) (h : ka.ok w.heap.size W) (hB : w.heap.size ≤ W.heap.size) => keepset_any ka w.heap.size W h hB)
  have HOA := Lib.hid ha
  have HRA := Lib.hid (setF_right ka)
  clear hM hml ha
  generalize ms.take k = own at *
  have m1 : min (value.size : Int) 5 = (q : Int) := by omega
  have m2 : min (nm : Int) 5 = (k : Int) := by omega
  clear hq hk
  unfold KSet.val at *
  have hb0 := (Below.refl w.heap.size w).alloc (Nat.le_refl _) (.cells #[.slice ka.A ka.n ka.c, .slice ka.A2 ka.n2 ka.c2] 39)
  have HOK := Lib.hid (HOA.out.below hb0)
  have HT := Lib.hid ((Kept.start w).below hb0)
  clear hb0
  go_enter Try.func5, Try.ntmps5
  go_wp2_with fail
  (with_reducible refine (HKA.out _ HOK.out HT.out.size).mono ?_); rintro e w1 haa; obtain ⟨va, rfl, hva, hba⟩ := haa.hasL
  obtain ⟨A0, c0, rfl⟩ : ∃ A c, va = .slice A (setF ka).length c := by obtain ⟨A, c, h, _⟩ := hva; exact ⟨A, c, h⟩
  have hl6 := rightS_len HRA.out
  generalize setF ka = l at *
  have HT1 := Lib.hid ((HT.out.below hba).add (Sees.stays hva.sees (Nat.le_refl _)))
  clear hva hba HT HOK HOA HKA haa
  go_upto_region 5 with fail
  generalize value.extract 0 q = v at *
  have HT5 := Lib.hid (((((HT1.out.alloc (.cells #[.string name, .string v, .int .i64 1] 23)).add (Blk.stays (Blk.mk (heap_alloc_new _ _) : Blk _ _ 23 [.string name, .string v, .int .i64 1]))).alloc (.cells #[.string name, .string v, .int .i64 2] 23)).add (Blk.stays (Blk.mk (heap_alloc_new _ _) : Blk _ _ 23 [.string name, .string v, .int .i64 2]))))
  have HT6 := Lib.hid (((((HT5.out.alloc (.cells #[.string name, .string v, .int .i64 3] 23)).add (Blk.stays (Blk.mk (heap_alloc_new _ _) : Blk _ _ 23 [.string name, .string v, .int .i64 3]))).alloc (.cells #[.string name, .string v, .int .i64 4] 23)).add (Blk.stays (Blk.mk (heap_alloc_new _ _) : Blk _ _ 23 [.string name, .string v, .int .i64 4]))))
  clear HT1 HT5
  obtain ⟨b1, e1⟩ : ∃ b, w1.heap.size = b := ⟨_, rfl⟩
  obtain ⟨W, hW⟩ : ∃ W, (((w1.alloc (.cells #[.string name, .string v, .int .i64 1] 23)).alloc (.cells #[.string name, .string v, .int .i64 2] 23)).alloc (.cells #[.string name, .string v, .int .i64 3] 23)).alloc (.cells #[.string name, .string v, .int .i64 4] 23) = W := ⟨_, rfl⟩
  rw [hW] at HT6
  simp only [World.size_alloc] at HT6
  rw [hW]
  clear hW
  generalize w1.heap.size + 1 + 1 + 1 = b4 at *
  generalize w1.heap.size + 1 + 1 = b3 at *
  generalize w1.heap.size + 1 = b2 at *
  rw [e1] at HT6
  simp only [e1]
  clear e1
  have hb1 : b1 < W.heap.size := HT6.out.p3.lt
  go_cut [17] (fun x17 wx => ∃ (X : Option Addr) (cX base : Nat), x17 = .slice X k cX ∧ w.heap.size ≤ base ∧ b1 < base ∧ base ≤ wx.heap.size ∧ Kept w [fun W => W.ownsRow base 23 3 (.slice X k cX) k (mtcs own), fun W => Blk W b4 23 [.string name, .string v, .int .i64 4], fun W => Blk W b3 23 [.string name, .string v, .int .i64 3], fun W => Blk W b2 23 [.string name, .string v, .int .i64 2], fun W => Blk W b1 23 [.string name, .string v, .int .i64 1], fun W => Sees W b1 2 A0 l.length (lbls l)] wx)
  case first =>
    have hb := (Below.refl W.heap.size W).alloc (Nat.le_refl _) (.cells #[] 23)
    have HE := Lib.hid (World.ownsRow_made (base := W.heap.size) (e := 23) (size := 3) W #[] 0 (Nat.le_refl _) (by unfold maxLen; omega) rfl)
    have HSW := Lib.hid (HSM.out.below (HT6.out.bel.trans (hb.mono HT6.out.size)))
    have HBE := Lib.hid hb
    clear hb
    have y1 : (k : Int) ≤ cm := by omega
    have y3 : (0 : Int) ≤ k := by omega
    go_wp2_with (at_builtin; refine wpList_append_sees rfl (.tmp 40) (.tmp 45) 24 rfl W.heap.size 23 i0 (.agg #[.string ⟨#[]⟩, .string ⟨#[]⟩, .int .i64 0]) 3 40 Try.underlying24 hi0 hz0 hz1 hz2 rfl (by decide) _ 0 [] rfl HE.out _ _ _ _ (mtcs own) rfl HSW.out (mtcs_one _) (by unfold maxLen; omega) (by omega) (by simp) ?_)
    intro v7 w7 hown7 hgr7
    have hb7 := HBE.out.grown hgr7 (by simp) (by simp [Value.ownBlock])
    obtain ⟨X, cX, rfl, _, _⟩ := own_slice hown7
    have HT7 := Lib.hid ((HT6.out.below hb7).add (own_stays hown7))
    have hz7 := hb7.size
    have hz8 := HT6.out.size
    clear HT6 hb7 hown7 hgr7
    go_wp2_with fail
    go_meet
    exact ⟨X, cX, W.heap.size, rfl, hz8, hb1, hz7, HT7.out⟩
  case rest =>
    obtain ⟨X, cX, base, rfl, hwb, hbb, hbz, hkept⟩ := hcut
    have HT := Lib.hid hkept
    clear hkept HT6 HSM hb1
    obtain ⟨hcX, hcX2⟩ : k ≤ cX ∧ cX ≤ 9223372036854775807 := by obtain ⟨_, _, h, h1, h2⟩ := own_slice HT.out.p0; injection h with _ _ h3; subst h3; exact ⟨h1, h2⟩
    obtain ⟨hj1, hj2⟩ := nWithin_in cut (lo := 0) (hi := (k : Int)) (by omega)
    have HWI := Lib.hid (fun V => within_any cut 0 k V hcut (by omega) (by omega) (by omega))
    generalize nWithin cut 0 (k : Int) = j' at *
    obtain ⟨j, rfl⟩ := Int.eq_ofNat_of_zero_le hj1
    have hjk : j ≤ k := by omega
    clear hj1 hj2
    go_wp2_with fail
    (with_reducible refine (HWI.out _).mono ?_); rintro e wq ⟨rfl, rfl⟩
    go_upto_region 7 with fail
    go_cut [19] (fun x19 wx => ∃ (Y : Option Addr) (cY : Nat), x19 = .slice Y k cY ∧ base ≤ wx.heap.size ∧ Kept w [fun W => Slc W 3 (.slice Y k cY) k (mtcs (own.drop j ++ own.take j)), fun W => W.ownsRow base 23 3 (.slice X k cX) k (mtcs own), fun W => Blk W b4 23 [.string name, .string v, .int .i64 4], fun W => Blk W b3 23 [.string name, .string v, .int .i64 3], fun W => Blk W b2 23 [.string name, .string v, .int .i64 2], fun W => Blk W b1 23 [.string name, .string v, .int .i64 1], fun W => Sees W b1 2 A0 l.length (lbls l)] wx)
    case first =>
      have tok55 : True := trivial
      have tok59 : True := trivial
      obtain ⟨d, hd⟩ : ∃ d, k - j = d := ⟨_, rfl⟩
      obtain ⟨D, hD⟩ : ∃ D, wc.drew = D := ⟨_, rfl⟩
      have hDs : D.heap.size = wc.heap.size := by rw [← hD]; rfl
      have HBD : Hid (Below wc.heap.size wc D) := Lib.hid (by rw [← hD]; exact (Below.refl _ _).drew)
      have HE := Lib.hid (World.ownsRow_made (base := wc.heap.size) (e := 23) (size := 3) D #[] 0 (by omega) (by unfold maxLen; omega) rfl)
      have HBE := Lib.hid (HBD.out.alloc (by omega) (.cells #[] 23))
      have HSX := Lib.hid (Sees.of_own HT.out.p0)
      have HST := Lib.hid (show Sees wc wc.heap.size 3 X j (mtcs (own.take j)) by have h := HSX.out.take (k := j) hjk; rwa [mtcs_take] at h)
      obtain ⟨Y, hY⟩ : ∃ Y, (if cX = j then X else X.map (·.add (j * 3))) = Y := ⟨_, rfl⟩
      have HSD := Lib.hid (show Sees wc wc.heap.size 3 Y d (mtcs (own.drop j)) by
        have h := HSX.out.drop (k := j) (cap := cX) hjk hcX
        rw [mtcs_drop, hY, hd] at h
        exact h)
      have y1 : (j : Int) ≤ k := by omega
      have y2 : (j : Int) ≤ cX := by omega
      have y3 : (0 : Int) ≤ j := by omega
      clear HSX
      go_region_law (first
        | (have tk := tok55; refine step_append_mtc rfl (.tmp 51) (.tmp 54) 24 rfl wc.heap.size 23 i0 (.agg #[.string ⟨#[]⟩, .string ⟨#[]⟩, .int .i64 0]) 3 40 Try.underlying24 hi0 hz0 hz1 hz2 rfl (by decide) (.slice (some ⟨D.heap.size, 0, none⟩) 0 0) 0 [] (by first | rfl | (rw [hDs]; rfl) | simp [Act.eval]) HE.out _ Y d (cX - j) (mtcs (own.drop j)) (by first | rfl | (rw [hDs]; rfl) | simp [Act.eval]) (HSD.out.below HBE.out) (mtcs_one _) (by unfold maxLen; omega) (by omega) (by simp; omega) ?_; intro A7 c7 w7 hown7 hgr7; have HO7 := Lib.hid hown7; have HB7 := Lib.hid (HBE.out.grown hgr7 (by simp; omega) (by simp [Value.ownBlock]; omega)); clear tok55 tk hown7 hgr7)
        | (have tk := tok59; refine step_append_mtc rfl (.tmp 55) (.tmp 58) 24 rfl wc.heap.size 23 i0 (.agg #[.string ⟨#[]⟩, .string ⟨#[]⟩, .int .i64 0]) 3 40 Try.underlying24 hi0 hz0 hz1 hz2 rfl (by decide) (.slice A7 (0 + d) c7) (0 + d) ([] ++ mtcs (own.drop j)) (by first | rfl | (rw [hDs]; rfl) | simp [Act.eval]) HO7.out _ X j cX (mtcs (own.take j)) (by first | rfl | (rw [hDs]; rfl) | simp [Act.eval]) (HST.out.below HB7.out) (mtcs_one _) (by unfold maxLen; omega) (by omega) HB7.out.size ?_; intro A9 c9 w9 hown9 hgr9; have HO9 := Lib.hid hown9; have HB9 := Lib.hid (HB7.out.grown hgr9 HB7.out.size (fun k hk => (HO7.out.lt k hk).1)); clear tok59 tk hown9 hgr9)
        | fail)
      all_goals
        have hdj : 0 + d + j = k := by omega
        have HT9 := Lib.hid ((HT.out.below HB9.out).add (Slc.stays (Slc.of_own (by have h := HO9.out; rw [List.nil_append, ← mtcs_append, hdj] at h; exact h))))
        have hdj2 : d + j = k := by omega
        go_wp2_with fail
        go_meet
        exact ⟨A9, c9, by first | rw [hdj2] | rw [hdj], Nat.le_trans hbz HB9.out.size, HT9.out⟩
    case rest =>
      obtain ⟨Y, cY, rfl, hbz2, hkept⟩ := hcut
      have HU := Lib.hid hkept
      clear hkept HT HWI
      have H1 := Lib.hid (opp_ne l name v); have H2 := Lib.hid (opp_not l name v); have H3 := Lib.hid (opp_has l name v); have H4 := Lib.hid (opp_any l name); have H5 := Lib.hid (opp_turn l own j); have H6 := Lib.hid (opp_more l own (name, v, 1))
      have HA1 := Lib.hid (fun V (h : Kept w [fun W => Slc W 3 (.slice Y k cY) k (mtcs (own.drop j ++ own.take j)), fun W => W.ownsRow base 23 3 (.slice X k cX) k (mtcs own), fun W => Blk W b4 23 [.string name, .string v, .int .i64 4], fun W => Blk W b3 23 [.string name, .string v, .int .i64 3], fun W => Blk W b2 23 [.string name, .string v, .int .i64 2], fun W => Blk W b1 23 [.string name, .string v, .int .i64 1], fun W => Sees W b1 2 A0 l.length (lbls l)] V) b hk => all_at A0 l.length c0 b1 l name v 1 V b hk h.p6 (Nat.le_of_lt h.p5.lt) (by omega) _ rfl)
      have HA2 := Lib.hid (fun V (h : Kept w [fun W => Slc W 3 (.slice Y k cY) k (mtcs (own.drop j ++ own.take j)), fun W => W.ownsRow base 23 3 (.slice X k cX) k (mtcs own), fun W => Blk W b4 23 [.string name, .string v, .int .i64 4], fun W => Blk W b3 23 [.string name, .string v, .int .i64 3], fun W => Blk W b2 23 [.string name, .string v, .int .i64 2], fun W => Blk W b1 23 [.string name, .string v, .int .i64 1], fun W => Sees W b1 2 A0 l.length (lbls l)] V) b hk => all_at A0 l.length c0 b1 l name v 2 V b hk h.p6 (Nat.le_of_lt h.p5.lt) (by omega) _ H1.out)
      have HA3 := Lib.hid (fun V (h : Kept w [fun W => Slc W 3 (.slice Y k cY) k (mtcs (own.drop j ++ own.take j)), fun W => W.ownsRow base 23 3 (.slice X k cX) k (mtcs own), fun W => Blk W b4 23 [.string name, .string v, .int .i64 4], fun W => Blk W b3 23 [.string name, .string v, .int .i64 3], fun W => Blk W b2 23 [.string name, .string v, .int .i64 2], fun W => Blk W b1 23 [.string name, .string v, .int .i64 1], fun W => Sees W b1 2 A0 l.length (lbls l)] V) b hk => all_at A0 l.length c0 b1 l name v 3 V b hk h.p6 (Nat.le_of_lt h.p5.lt) (by omega) _ rfl)
      have HA4 := Lib.hid (fun V (h : Kept w [fun W => Slc W 3 (.slice Y k cY) k (mtcs (own.drop j ++ own.take j)), fun W => W.ownsRow base 23 3 (.slice X k cX) k (mtcs own), fun W => Blk W b4 23 [.string name, .string v, .int .i64 4], fun W => Blk W b3 23 [.string name, .string v, .int .i64 3], fun W => Blk W b2 23 [.string name, .string v, .int .i64 2], fun W => Blk W b1 23 [.string name, .string v, .int .i64 1], fun W => Sees W b1 2 A0 l.length (lbls l)] V) b hk => all_at A0 l.length c0 b1 l name v 4 V b hk h.p6 (Nat.le_of_lt h.p5.lt) (by omega) _ H2.out)
      have HA5 := Lib.hid (fun V (h : Kept w [fun W => Slc W 3 (.slice Y k cY) k (mtcs (own.drop j ++ own.take j)), fun W => W.ownsRow base 23 3 (.slice X k cX) k (mtcs own), fun W => Blk W b4 23 [.string name, .string v, .int .i64 4], fun W => Blk W b3 23 [.string name, .string v, .int .i64 3], fun W => Blk W b2 23 [.string name, .string v, .int .i64 2], fun W => Blk W b1 23 [.string name, .string v, .int .i64 1], fun W => Sees W b1 2 A0 l.length (lbls l)] V) b hk => all_at A0 l.length c0 b1 l name ⟨#[]⟩ 3 V b hk h.p6 (Nat.le_of_lt h.p5.lt) (by omega) _ H4.out)
      have HAO := Lib.hid (fun V (h : Kept w [fun W => Slc W 3 (.slice Y k cY) k (mtcs (own.drop j ++ own.take j)), fun W => W.ownsRow base 23 3 (.slice X k cX) k (mtcs own), fun W => Blk W b4 23 [.string name, .string v, .int .i64 4], fun W => Blk W b3 23 [.string name, .string v, .int .i64 3], fun W => Blk W b2 23 [.string name, .string v, .int .i64 2], fun W => Blk W b1 23 [.string name, .string v, .int .i64 1], fun W => Sees W b1 2 A0 l.length (lbls l)] V) => all_any A0 l.length c0 b1 l X k cX _ own V h.p6 (Nat.le_of_lt h.p5.lt) (by omega) (Sees.of_own h.p1) (Nat.le_refl _) (by omega))
      have HAT := Lib.hid (fun V (h : Kept w [fun W => Slc W 3 (.slice Y k cY) k (mtcs (own.drop j ++ own.take j)), fun W => W.ownsRow base 23 3 (.slice X k cX) k (mtcs own), fun W => Blk W b4 23 [.string name, .string v, .int .i64 4], fun W => Blk W b3 23 [.string name, .string v, .int .i64 3], fun W => Blk W b2 23 [.string name, .string v, .int .i64 2], fun W => Blk W b1 23 [.string name, .string v, .int .i64 1], fun W => Sees W b1 2 A0 l.length (lbls l)] V) => all_any A0 l.length c0 b1 l Y k cY _ (own.drop j ++ own.take j) V h.p6 (Nat.le_of_lt h.p5.lt) (by omega) h.p0.sees (Nat.le_refl _) (by omega))
      rw [H5.out] at HAT
      have HM := Lib.hid (fun (A7 : Option Addr) (c7 : Nat) V (hS : Sees V V.heap.size 3 A7 (k + 1) (mtcs (own ++ [(name, v, (1 : Int))]))) (hL : Sees V b1 2 A0 l.length (lbls l)) (hB : b1 ≤ V.heap.size) => all_any A0 l.length c0 b1 l A7 (k + 1) c7 _ (own ++ [(name, v, (1 : Int))]) V hL hB (by omega) hS (Nat.le_refl _) (by omega))
      rw [H6.out] at HM
      clear H1 H2 H4 H5 H6
      have HB1 := Lib.hid (fun V (hL : Sees V b1 2 A0 l.length (lbls l)) (hB : b1 ≤ V.heap.size) b hk => all_at A0 l.length c0 b1 l name v 1 V b hk hL hB (by omega) _ rfl)
      have HB5 := Lib.hid (fun V (hL : Sees V b1 2 A0 l.length (lbls l)) (hB : b1 ≤ V.heap.size) b hk => all_at A0 l.length c0 b1 l name ⟨#[]⟩ 3 V b hk hL hB (by omega) _ (opp_any l name))
      have HN := Lib.hid (fun V (hL : Sees V b1 2 A0 l.length (lbls l)) (hB : b1 ≤ V.heap.size) => all_any A0 l.length c0 b1 l none 0 0 _ [] V hL hB (by omega) Sees.nil (Nat.le_refl _) (by omega))
      generalize holdsF l (name, v, 1) = e at *
      generalize holdsF l (name, v, 3) = h at *
      generalize allF l own = al at *
      go_wp2_with fail
      have HU := Lib.hid (And.intro hbz2 HU.out)
      (with_reducible refine (HAO.out _ HU.out.2).mono ?_); rintro e' w8 ⟨rfl, hb8⟩
      have hbz2' := Nat.le_trans hbz2 hb8.size
      have HUN := Lib.hid (HU.out.2.below hb8); clear HU hb8; have HU := HUN; clear HUN
      go_wp2_with fail
      go_upto_region 9 with fail
      go_cut [102] (fun x102 wx => x102 = .bool false ∧ base ≤ wx.heap.size ∧ Kept w [fun W => Slc W 3 (.slice Y k cY) k (mtcs (own.drop j ++ own.take j)), fun W => W.ownsRow base 23 3 (.slice X k cX) k (mtcs own), fun W => Blk W b4 23 [.string name, .string v, .int .i64 4], fun W => Blk W b3 23 [.string name, .string v, .int .i64 3], fun W => Blk W b2 23 [.string name, .string v, .int .i64 2], fun W => Blk W b1 23 [.string name, .string v, .int .i64 1], fun W => Sees W b1 2 A0 l.length (lbls l)] wx)
      case first =>
        have h1 : (e == !e) = false := by cases e <;> rfl
        have h2 : (h == !h) = false := by cases h <;> rfl
        refine wp_region_facts (R := fun a b => Below a.heap.size a b) (G := (fun W => base ≤ W.heap.size ∧ Kept w [fun W => Slc W 3 (.slice Y k cY) k (mtcs (own.drop j ++ own.take j)), fun W => W.ownsRow base 23 3 (.slice X k cX) k (mtcs own), fun W => Blk W b4 23 [.string name, .string v, .int .i64 4], fun W => Blk W b3 23 [.string name, .string v, .int .i64 3], fun W => Blk W b2 23 [.string name, .string v, .int .i64 2], fun W => Blk W b1 23 [.string name, .string v, .int .i64 1], fun W => Sees W b1 2 A0 l.length (lbls l)] W)) (V := fun i' u' W => match i' with | 0 => u' = .slice A0 l.length c0 | 1 => u' = .agg #[.string name, .string v, .int .i64 1] | 2 => ∃ b, u' = .slice (some ⟨b, 0, none⟩) 1 1 ∧ Blk W b 23 [.string name, .string v, .int .i64 1] | 3 => u' = .bool e | 4 => u' = .slice A0 l.length c0 | 5 => u' = .agg #[.string name, .string v, .int .i64 2] | 6 => ∃ b, u' = .slice (some ⟨b, 0, none⟩) 1 1 ∧ Blk W b 23 [.string name, .string v, .int .i64 2] | 7 => u' = .bool (!e) | 8 => u' = .bool false | 9 => u' = .bool false | 10 => u' = .slice A0 l.length c0 | 11 => u' = .agg #[.string name, .string v, .int .i64 3] | 12 => ∃ b, u' = .slice (some ⟨b, 0, none⟩) 1 1 ∧ Blk W b 23 [.string name, .string v, .int .i64 3] | 13 => u' = .bool h | 14 => u' = .slice A0 l.length c0 | 15 => u' = .agg #[.string name, .string v, .int .i64 4] | 16 => ∃ b, u' = .slice (some ⟨b, 0, none⟩) 1 1 ∧ Blk W b 23 [.string name, .string v, .int .i64 4] | 17 => u' = .bool (!h) | 18 => u' = .bool false | 19 => u' = .bool false | 20 => u' = .bool false | 21 => u' = .slice A0 l.length c0 | 22 => u' = .agg #[.string name, .string v, .int .i64 1] | 23 => ∃ b, u' = .slice (some ⟨b, 0, none⟩) 1 1 ∧ Blk W b 23 [.string name, .string v, .int .i64 1] | 24 => u' = .bool e | 25 => u' = .bool e | 26 => e = true → u' = .slice A0 l.length c0 | 27 => e = true → u' = .agg #[.string name, .string v, .int .i64 3] | 28 => e = true → ∃ b, u' = .slice (some ⟨b, 0, none⟩) 1 1 ∧ Blk W b 23 [.string name, .string v, .int .i64 3] | 29 => e = true → u' = .bool h | 30 => e = true → u' = .bool false | 31 => u' = .bool false | 32 => u' = .bool false | 33 => u' = .bool false | 34 => u' = .bool al | 35 => u' = .slice A0 l.length c0 | 36 => u' = .slice Y k cY | 37 => u' = .bool al | 38 => u' = .bool false | 39 => u' = .bool false | _ => True) (by kernel_rfl) (fun w => Below.refl _ _) (fun a b c h1 h2 => h1.trans (h2.mono h1.size)) (by kernel_rfl) (by kernel_rfl) ?hG ⟨?o0, ?o1, ?o2, ?o3, ?o4, ?o5, ?o6, ?o7, ?o8, ?o9, ?o10, ?o11, ?o12, ?o13, ?o14, ?o15, ?o16, ?o17, ?o18, ?o19, ?o20, ?o21, ?o22, ?o23, ?o24, ?o25, ?o26, ?o27, ?o28, ?o29, ?o30, ?o31, ?o32, ?o33, ?o34, ?o35, ?o36, ?o37, ?o38, ?o39, trivial⟩ ?hend
        case o0 =>
          intro a w hfr hG hd
          refine ⟨fun hw => ?_, fun hw => absurd hw (by simp [Region.wanted])⟩
          have s11 : a.tmps.getD 11 undef = .slice A0 l.length c0 := hfr.at 11 (by kernel_rfl)
          refine op_yields (.slice A0 l.length c0) ?_ ?_ ?_
          · simp only [execOp, resolve, List.map_toArray, List.map_cons, List.map_nil, Act.eval, s11]; simp [go_sem]
          · exact Below.refl _ _
          · exact (fun _ _ => rfl)
        case o1 =>
          intro a w hfr hG hd
          refine ⟨fun hw => ?_, fun hw => absurd hw (by simp [Region.wanted])⟩
          have s13 : a.tmps.getD 13 undef = .pointer (some ⟨b1, 0, none⟩) := hfr.at 13 (by kernel_rfl)
          obtain ⟨e0, e1, e2⟩ := blk3 hG.now.2.p5
          refine op_yields (.agg #[.string name, .string v, .int .i64 1]) ?_ ?_ ?_
          · simp only [execOp, resolve, List.map_toArray, List.map_cons, List.map_nil, Act.eval, s13]; simp [go_sem, e0, e1, e2]
          · exact Below.refl _ _
          · exact (fun _ _ => rfl)
        case o2 =>
          intro a w hfr hG hd
          obtain ⟨d0, _⟩ := hd
          refine ⟨fun hw => ?_, fun hw => absurd hw (by simp [Region.wanted])⟩
          have s64 : a.tmps.getD 64 undef = .agg #[.string name, .string v, .int .i64 1] := (d0 rfl).now
          refine op_makes (.slice (some ⟨w.heap.size, 0, none⟩) 1 1) (w' := w.alloc (.cells #[.string name, .string v, .int .i64 1] 23)) ?_ ?_ ?_
          · simp only [execOp, resolve, List.map_toArray, List.map_cons, List.map_nil, Act.eval, s64]; simp [go_sem]
          · exact (Below.refl _ _).alloc (Nat.le_refl _) _
          · exact fun W' hW' => ⟨_, rfl, (Blk.mk (heap_alloc_new _ _) : Blk _ _ _ _).below hW' (by simp)⟩
        case o3 =>
          intro a w hfr hG hd
          obtain ⟨d0, d1, _⟩ := hd
          refine ⟨fun hw => ?_, fun hw => absurd hw (by simp [Region.wanted])⟩
          have s63 : a.tmps.getD 63 undef = .slice A0 l.length c0 := (d0 rfl).now
          obtain ⟨b, s65, _⟩ := (d1 rfl).now
          have f65 : Hold (fun a b => Below a.heap.size a b) (fun W => Blk W b 23 [.string name, .string v, .int .i64 1]) w := fun w2 h2 => by obtain ⟨_, e1, e2⟩ := d1 rfl w2 h2; have e3 := s65.symm.trans e1; simp only [Value.slice.injEq, Option.some.injEq, Addr.mk.injEq, Value.pointer.injEq, and_true, true_and] at e3; subst e3; exact e2
          have s65 : a.tmps.getD 65 undef = .slice (some ⟨b, 0, none⟩) 1 1 := s65
          refine op_calls2 ((HA1.out w hG.now.2 b f65.now).mono fun e' w' hh => ⟨_, hh.1, hh.2, (fun _ _ => rfl)⟩) ?_
          simp only [execOp, resolve, List.map_toArray, List.map_cons, List.map_nil, Act.eval, s63, s65]; simp [go_sem]
        case o4 =>
          intro a w hfr hG hd
          refine ⟨fun hw => ?_, fun hw => absurd hw (by simp [Region.wanted])⟩
          have s11 : a.tmps.getD 11 undef = .slice A0 l.length c0 := hfr.at 11 (by kernel_rfl)
          refine op_yields (.slice A0 l.length c0) ?_ ?_ ?_
          · simp only [execOp, resolve, List.map_toArray, List.map_cons, List.map_nil, Act.eval, s11]; simp [go_sem]
          · exact Below.refl _ _
          · exact (fun _ _ => rfl)
        case o5 =>
          intro a w hfr hG hd
          refine ⟨fun hw => ?_, fun hw => absurd hw (by simp [Region.wanted])⟩
          have s14 : a.tmps.getD 14 undef = .pointer (some ⟨b2, 0, none⟩) := hfr.at 14 (by kernel_rfl)
          obtain ⟨e0, e1, e2⟩ := blk3 hG.now.2.p4
          refine op_yields (.agg #[.string name, .string v, .int .i64 2]) ?_ ?_ ?_
          · simp only [execOp, resolve, List.map_toArray, List.map_cons, List.map_nil, Act.eval, s14]; simp [go_sem, e0, e1, e2]
          · exact Below.refl _ _
          · exact (fun _ _ => rfl)
        case o6 =>
          intro a w hfr hG hd
          obtain ⟨d0, _⟩ := hd
          refine ⟨fun hw => ?_, fun hw => absurd hw (by simp [Region.wanted])⟩
          have s68 : a.tmps.getD 68 undef = .agg #[.string name, .string v, .int .i64 2] := (d0 rfl).now
          refine op_makes (.slice (some ⟨w.heap.size, 0, none⟩) 1 1) (w' := w.alloc (.cells #[.string name, .string v, .int .i64 2] 23)) ?_ ?_ ?_
          · simp only [execOp, resolve, List.map_toArray, List.map_cons, List.map_nil, Act.eval, s68]; simp [go_sem]
          · exact (Below.refl _ _).alloc (Nat.le_refl _) _
          · exact fun W' hW' => ⟨_, rfl, (Blk.mk (heap_alloc_new _ _) : Blk _ _ _ _).below hW' (by simp)⟩
        case o7 =>
          intro a w hfr hG hd
          obtain ⟨d0, d1, d2, _⟩ := hd
          refine ⟨fun hw => ?_, fun hw => absurd hw (by simp [Region.wanted])⟩
          have s67 : a.tmps.getD 67 undef = .slice A0 l.length c0 := (d0 rfl).now
          obtain ⟨b, s69, _⟩ := (d1 rfl).now
          have f69 : Hold (fun a b => Below a.heap.size a b) (fun W => Blk W b 23 [.string name, .string v, .int .i64 2]) w := fun w2 h2 => by obtain ⟨_, e1, e2⟩ := d1 rfl w2 h2; have e3 := s69.symm.trans e1; simp only [Value.slice.injEq, Option.some.injEq, Addr.mk.injEq, Value.pointer.injEq, and_true, true_and] at e3; subst e3; exact e2
          have s69 : a.tmps.getD 69 undef = .slice (some ⟨b, 0, none⟩) 1 1 := s69
          refine op_calls2 ((HA2.out w hG.now.2 b f69.now).mono fun e' w' hh => ⟨_, hh.1, hh.2, (fun _ _ => rfl)⟩) ?_
          simp only [execOp, resolve, List.map_toArray, List.map_cons, List.map_nil, Act.eval, s67, s69]; simp [go_sem]
        case o8 =>
          intro a w hfr hG hd
          obtain ⟨d0, d1, _⟩ := hd
          refine ⟨fun hw => ?_, fun hw => absurd hw (by simp [Region.wanted])⟩
          have s66 : a.tmps.getD 66 undef = .bool e := (d0 rfl).now
          have s70 : a.tmps.getD 70 undef = .bool (!e) := (d1 rfl).now
          refine op_yields (.bool false) ?_ ?_ ?_
          · simp only [execOp, resolve, List.map_toArray, List.map_cons, List.map_nil, Act.eval, s66, s70]; simp [go_sem]
          · exact Below.refl _ _
          · exact (fun _ _ => rfl)
        case o9 =>
          intro a w hfr hG hd
          obtain ⟨d0, d1, _⟩ := hd
          refine ⟨fun hw => ?_, fun hw => absurd hw (by simp [Region.wanted])⟩
          have s71 : a.tmps.getD 71 undef = .bool false := (d0 rfl).now
          refine op_yields (.bool false) ?_ ?_ ?_
          · simp only [execOp, resolve, List.map_toArray, List.map_cons, List.map_nil, Act.eval, s71]; simp [go_sem]
          · exact Below.refl _ _
          · exact (fun _ _ => rfl)
        case o10 =>
          intro a w hfr hG hd
          obtain ⟨d0, _⟩ := hd
          have sg : a.tmps.getD 72 undef = .bool false := (d0 rfl).now
          refine ⟨fun hw => ?_, fun hw => by rw [wanted_of rfl (yielded_of rfl sg)] at hw; exact absurd hw (by decide)⟩
          have s11 : a.tmps.getD 11 undef = .slice A0 l.length c0 := hfr.at 11 (by kernel_rfl)
          refine op_yields (.slice A0 l.length c0) ?_ ?_ ?_
          · simp only [execOp, resolve, List.map_toArray, List.map_cons, List.map_nil, Act.eval, s11]; simp [go_sem]
          · exact Below.refl _ _
          · exact (fun _ _ => rfl)
        case o11 =>
          intro a w hfr hG hd
          obtain ⟨d0, _⟩ := hd
          have sg : a.tmps.getD 72 undef = .bool false := (d0 rfl).now
          refine ⟨fun hw => ?_, fun hw => by rw [wanted_of rfl (yielded_of rfl sg)] at hw; exact absurd hw (by decide)⟩
          have s15 : a.tmps.getD 15 undef = .pointer (some ⟨b3, 0, none⟩) := hfr.at 15 (by kernel_rfl)
          obtain ⟨e0, e1, e2⟩ := blk3 hG.now.2.p3
          refine op_yields (.agg #[.string name, .string v, .int .i64 3]) ?_ ?_ ?_
          · simp only [execOp, resolve, List.map_toArray, List.map_cons, List.map_nil, Act.eval, s15]; simp [go_sem, e0, e1, e2]
          · exact Below.refl _ _
          · exact (fun _ _ => rfl)
        case o12 =>
          intro a w hfr hG hd
          obtain ⟨d0, d1, _⟩ := hd
          have sg : a.tmps.getD 72 undef = .bool false := (d1 rfl).now
          refine ⟨fun hw => ?_, fun hw => by rw [wanted_of rfl (yielded_of rfl sg)] at hw; exact absurd hw (by decide)⟩
          have s74 : a.tmps.getD 74 undef = .agg #[.string name, .string v, .int .i64 3] := (d0 rfl).now
          refine op_makes (.slice (some ⟨w.heap.size, 0, none⟩) 1 1) (w' := w.alloc (.cells #[.string name, .string v, .int .i64 3] 23)) ?_ ?_ ?_
          · simp only [execOp, resolve, List.map_toArray, List.map_cons, List.map_nil, Act.eval, s74]; simp [go_sem]
          · exact (Below.refl _ _).alloc (Nat.le_refl _) _
          · exact fun W' hW' => ⟨_, rfl, (Blk.mk (heap_alloc_new _ _) : Blk _ _ _ _).below hW' (by simp)⟩
        case o13 =>
          intro a w hfr hG hd
          obtain ⟨d0, d1, d2, d3, _⟩ := hd
          have sg : a.tmps.getD 72 undef = .bool false := (d2 rfl).now
          refine ⟨fun hw => ?_, fun hw => by rw [wanted_of rfl (yielded_of rfl sg)] at hw; exact absurd hw (by decide)⟩
          have s73 : a.tmps.getD 73 undef = .slice A0 l.length c0 := (d0 rfl).now
          obtain ⟨b, s75, _⟩ := (d1 rfl).now
          have f75 : Hold (fun a b => Below a.heap.size a b) (fun W => Blk W b 23 [.string name, .string v, .int .i64 3]) w := fun w2 h2 => by obtain ⟨_, e1, e2⟩ := d1 rfl w2 h2; have e3 := s75.symm.trans e1; simp only [Value.slice.injEq, Option.some.injEq, Addr.mk.injEq, Value.pointer.injEq, and_true, true_and] at e3; subst e3; exact e2
          have s75 : a.tmps.getD 75 undef = .slice (some ⟨b, 0, none⟩) 1 1 := s75
          refine op_calls2 ((HA3.out w hG.now.2 b f75.now).mono fun e' w' hh => ⟨_, hh.1, hh.2, (fun _ _ => rfl)⟩) ?_
          simp only [execOp, resolve, List.map_toArray, List.map_cons, List.map_nil, Act.eval, s73, s75]; simp [go_sem]
        case o14 =>
          intro a w hfr hG hd
          obtain ⟨d0, _⟩ := hd
          have sg : a.tmps.getD 72 undef = .bool false := (d0 rfl).now
          refine ⟨fun hw => ?_, fun hw => by rw [wanted_of rfl (yielded_of rfl sg)] at hw; exact absurd hw (by decide)⟩
          have s11 : a.tmps.getD 11 undef = .slice A0 l.length c0 := hfr.at 11 (by kernel_rfl)
          refine op_yields (.slice A0 l.length c0) ?_ ?_ ?_
          · simp only [execOp, resolve, List.map_toArray, List.map_cons, List.map_nil, Act.eval, s11]; simp [go_sem]
          · exact Below.refl _ _
          · exact (fun _ _ => rfl)
        case o15 =>
          intro a w hfr hG hd
          obtain ⟨d0, _⟩ := hd
          have sg : a.tmps.getD 72 undef = .bool false := (d0 rfl).now
          refine ⟨fun hw => ?_, fun hw => by rw [wanted_of rfl (yielded_of rfl sg)] at hw; exact absurd hw (by decide)⟩
          have s16 : a.tmps.getD 16 undef = .pointer (some ⟨b4, 0, none⟩) := hfr.at 16 (by kernel_rfl)
          obtain ⟨e0, e1, e2⟩ := blk3 hG.now.2.p2
          refine op_yields (.agg #[.string name, .string v, .int .i64 4]) ?_ ?_ ?_
          · simp only [execOp, resolve, List.map_toArray, List.map_cons, List.map_nil, Act.eval, s16]; simp [go_sem, e0, e1, e2]
          · exact Below.refl _ _
          · exact (fun _ _ => rfl)
        case o16 =>
          intro a w hfr hG hd
          obtain ⟨d0, d1, _⟩ := hd
          have sg : a.tmps.getD 72 undef = .bool false := (d1 rfl).now
          refine ⟨fun hw => ?_, fun hw => by rw [wanted_of rfl (yielded_of rfl sg)] at hw; exact absurd hw (by decide)⟩
          have s78 : a.tmps.getD 78 undef = .agg #[.string name, .string v, .int .i64 4] := (d0 rfl).now
          refine op_makes (.slice (some ⟨w.heap.size, 0, none⟩) 1 1) (w' := w.alloc (.cells #[.string name, .string v, .int .i64 4] 23)) ?_ ?_ ?_
          · simp only [execOp, resolve, List.map_toArray, List.map_cons, List.map_nil, Act.eval, s78]; simp [go_sem]
          · exact (Below.refl _ _).alloc (Nat.le_refl _) _
          · exact fun W' hW' => ⟨_, rfl, (Blk.mk (heap_alloc_new _ _) : Blk _ _ _ _).below hW' (by simp)⟩
        case o17 =>
          intro a w hfr hG hd
          obtain ⟨d0, d1, d2, d3, _⟩ := hd
          have sg : a.tmps.getD 72 undef = .bool false := (d3 rfl).now
          refine ⟨fun hw => ?_, fun hw => by rw [wanted_of rfl (yielded_of rfl sg)] at hw; exact absurd hw (by decide)⟩
          have s77 : a.tmps.getD 77 undef = .slice A0 l.length c0 := (d0 rfl).now
          obtain ⟨b, s79, _⟩ := (d1 rfl).now
          have f79 : Hold (fun a b => Below a.heap.size a b) (fun W => Blk W b 23 [.string name, .string v, .int .i64 4]) w := fun w2 h2 => by obtain ⟨_, e1, e2⟩ := d1 rfl w2 h2; have e3 := s79.symm.trans e1; simp only [Value.slice.injEq, Option.some.injEq, Addr.mk.injEq, Value.pointer.injEq, and_true, true_and] at e3; subst e3; exact e2
          have s79 : a.tmps.getD 79 undef = .slice (some ⟨b, 0, none⟩) 1 1 := s79
          refine op_calls2 ((HA4.out w hG.now.2 b f79.now).mono fun e' w' hh => ⟨_, hh.1, hh.2, (fun _ _ => rfl)⟩) ?_
          simp only [execOp, resolve, List.map_toArray, List.map_cons, List.map_nil, Act.eval, s77, s79]; simp [go_sem]
        case o18 =>
          intro a w hfr hG hd
          obtain ⟨d0, d1, d2, _⟩ := hd
          have sg : a.tmps.getD 72 undef = .bool false := (d2 rfl).now
          refine ⟨fun hw => ?_, fun hw => by rw [wanted_of rfl (yielded_of rfl sg)] at hw; exact absurd hw (by decide)⟩
          have s76 : a.tmps.getD 76 undef = .bool h := (d0 rfl).now
          have s80 : a.tmps.getD 80 undef = .bool (!h) := (d1 rfl).now
          refine op_yields (.bool false) ?_ ?_ ?_
          · simp only [execOp, resolve, List.map_toArray, List.map_cons, List.map_nil, Act.eval, s76, s80]; simp [go_sem]
          · exact Below.refl _ _
          · exact (fun _ _ => rfl)
        case o19 =>
          intro a w hfr hG hd
          obtain ⟨d0, d1, _⟩ := hd
          refine ⟨fun hw => ?_, fun hw => absurd hw (by simp [Region.wanted])⟩
          have s72 : a.tmps.getD 72 undef = .bool false := (d0 rfl).now
          have s81 : a.tmps.getD 81 undef = .bool false := (d1 rfl).now
          refine op_yields (.bool false) ?_ ?_ ?_
          · simp only [execOp, resolve, List.map_toArray, List.map_cons, List.map_nil, Act.eval, s72, s81]; simp [go_sem]
          · exact Below.refl _ _
          · exact (fun _ _ => rfl)
        case o20 =>
          intro a w hfr hG hd
          obtain ⟨d0, d1, _⟩ := hd
          refine ⟨fun hw => ?_, fun hw => absurd hw (by simp [Region.wanted])⟩
          have s82 : a.tmps.getD 82 undef = .bool false := (d0 rfl).now
          refine op_yields (.bool false) ?_ ?_ ?_
          · simp only [execOp, resolve, List.map_toArray, List.map_cons, List.map_nil, Act.eval, s82]; simp [go_sem]
          · exact Below.refl _ _
          · exact (fun _ _ => rfl)
        case o21 =>
          intro a w hfr hG hd
          obtain ⟨d0, _⟩ := hd
          have sg : a.tmps.getD 83 undef = .bool false := (d0 rfl).now
          refine ⟨fun hw => ?_, fun hw => by rw [wanted_of rfl (yielded_of rfl sg)] at hw; exact absurd hw (by decide)⟩
          have s11 : a.tmps.getD 11 undef = .slice A0 l.length c0 := hfr.at 11 (by kernel_rfl)
          refine op_yields (.slice A0 l.length c0) ?_ ?_ ?_
          · simp only [execOp, resolve, List.map_toArray, List.map_cons, List.map_nil, Act.eval, s11]; simp [go_sem]
          · exact Below.refl _ _
          · exact (fun _ _ => rfl)
        case o22 =>
          intro a w hfr hG hd
          obtain ⟨d0, _⟩ := hd
          have sg : a.tmps.getD 83 undef = .bool false := (d0 rfl).now
          refine ⟨fun hw => ?_, fun hw => by rw [wanted_of rfl (yielded_of rfl sg)] at hw; exact absurd hw (by decide)⟩
          have s13 : a.tmps.getD 13 undef = .pointer (some ⟨b1, 0, none⟩) := hfr.at 13 (by kernel_rfl)
          obtain ⟨e0, e1, e2⟩ := blk3 hG.now.2.p5
          refine op_yields (.agg #[.string name, .string v, .int .i64 1]) ?_ ?_ ?_
          · simp only [execOp, resolve, List.map_toArray, List.map_cons, List.map_nil, Act.eval, s13]; simp [go_sem, e0, e1, e2]
          · exact Below.refl _ _
          · exact (fun _ _ => rfl)
        case o23 =>
          intro a w hfr hG hd
          obtain ⟨d0, d1, _⟩ := hd
          have sg : a.tmps.getD 83 undef = .bool false := (d1 rfl).now
          refine ⟨fun hw => ?_, fun hw => by rw [wanted_of rfl (yielded_of rfl sg)] at hw; exact absurd hw (by decide)⟩
          have s85 : a.tmps.getD 85 undef = .agg #[.string name, .string v, .int .i64 1] := (d0 rfl).now
          refine op_makes (.slice (some ⟨w.heap.size, 0, none⟩) 1 1) (w' := w.alloc (.cells #[.string name, .string v, .int .i64 1] 23)) ?_ ?_ ?_
          · simp only [execOp, resolve, List.map_toArray, List.map_cons, List.map_nil, Act.eval, s85]; simp [go_sem]
          · exact (Below.refl _ _).alloc (Nat.le_refl _) _
          · exact fun W' hW' => ⟨_, rfl, (Blk.mk (heap_alloc_new _ _) : Blk _ _ _ _).below hW' (by simp)⟩
        case o24 =>
          intro a w hfr hG hd
          obtain ⟨d0, d1, d2, d3, _⟩ := hd
          have sg : a.tmps.getD 83 undef = .bool false := (d2 rfl).now
          refine ⟨fun hw => ?_, fun hw => by rw [wanted_of rfl (yielded_of rfl sg)] at hw; exact absurd hw (by decide)⟩
          have s84 : a.tmps.getD 84 undef = .slice A0 l.length c0 := (d0 rfl).now
          obtain ⟨b, s86, _⟩ := (d1 rfl).now
          have f86 : Hold (fun a b => Below a.heap.size a b) (fun W => Blk W b 23 [.string name, .string v, .int .i64 1]) w := fun w2 h2 => by obtain ⟨_, e1, e2⟩ := d1 rfl w2 h2; have e3 := s86.symm.trans e1; simp only [Value.slice.injEq, Option.some.injEq, Addr.mk.injEq, Value.pointer.injEq, and_true, true_and] at e3; subst e3; exact e2
          have s86 : a.tmps.getD 86 undef = .slice (some ⟨b, 0, none⟩) 1 1 := s86
          refine op_calls2 ((HA1.out w hG.now.2 b f86.now).mono fun e' w' hh => ⟨_, hh.1, hh.2, (fun _ _ => rfl)⟩) ?_
          simp only [execOp, resolve, List.map_toArray, List.map_cons, List.map_nil, Act.eval, s84, s86]; simp [go_sem]
        case o25 =>
          intro a w hfr hG hd
          obtain ⟨d0, d1, d2, _⟩ := hd
          have sg : a.tmps.getD 83 undef = .bool false := (d2 rfl).now
          refine ⟨fun hw => ?_, fun hw => by rw [wanted_of rfl (yielded_of rfl sg)] at hw; exact absurd hw (by decide)⟩
          have s87 : a.tmps.getD 87 undef = .bool e := (d0 rfl).now
          refine op_yields (.bool e) ?_ ?_ ?_
          · simp only [execOp, resolve, List.map_toArray, List.map_cons, List.map_nil, Act.eval, s87]; simp [go_sem]
          · exact Below.refl _ _
          · exact (fun _ _ => rfl)
        case o26 =>
          intro a w hfr hG hd
          obtain ⟨d0, _⟩ := hd
          have sg : a.tmps.getD 88 undef = .bool e := (d0 rfl).now
          refine ⟨fun hw => ?_, fun hw => by rw [wanted_of rfl (yielded_of rfl sg)] at hw; exact fun _ _ he => absurd he (by intro he; rw [he] at hw; exact absurd hw (by decide))⟩
          have he : e = true := by rw [wanted_of rfl (yielded_of rfl sg)] at hw; simpa using hw
          have s11 : a.tmps.getD 11 undef = .slice A0 l.length c0 := hfr.at 11 (by kernel_rfl)
          refine op_yields (.slice A0 l.length c0) ?_ ?_ ?_
          · simp only [execOp, resolve, List.map_toArray, List.map_cons, List.map_nil, Act.eval, s11]; simp [go_sem]
          · exact Below.refl _ _
          · exact (fun _ _ _ => rfl)
        case o27 =>
          intro a w hfr hG hd
          obtain ⟨d0, _⟩ := hd
          have sg : a.tmps.getD 88 undef = .bool e := (d0 rfl).now
          refine ⟨fun hw => ?_, fun hw => by rw [wanted_of rfl (yielded_of rfl sg)] at hw; exact fun _ _ he => absurd he (by intro he; rw [he] at hw; exact absurd hw (by decide))⟩
          have he : e = true := by rw [wanted_of rfl (yielded_of rfl sg)] at hw; simpa using hw
          have s15 : a.tmps.getD 15 undef = .pointer (some ⟨b3, 0, none⟩) := hfr.at 15 (by kernel_rfl)
          obtain ⟨e0, e1, e2⟩ := blk3 hG.now.2.p3
          refine op_yields (.agg #[.string name, .string v, .int .i64 3]) ?_ ?_ ?_
          · simp only [execOp, resolve, List.map_toArray, List.map_cons, List.map_nil, Act.eval, s15]; simp [go_sem, e0, e1, e2]
          · exact Below.refl _ _
          · exact (fun _ _ _ => rfl)
        case o28 =>
          intro a w hfr hG hd
          obtain ⟨d0, d1, _⟩ := hd
          have sg : a.tmps.getD 88 undef = .bool e := (d1 rfl).now
          refine ⟨fun hw => ?_, fun hw => by rw [wanted_of rfl (yielded_of rfl sg)] at hw; exact fun _ _ he => absurd he (by intro he; rw [he] at hw; exact absurd hw (by decide))⟩
          have he : e = true := by rw [wanted_of rfl (yielded_of rfl sg)] at hw; simpa using hw
          have s90 : a.tmps.getD 90 undef = .agg #[.string name, .string v, .int .i64 3] := (d0 rfl).now he
          refine op_makes (.slice (some ⟨w.heap.size, 0, none⟩) 1 1) (w' := w.alloc (.cells #[.string name, .string v, .int .i64 3] 23)) ?_ ?_ ?_
          · simp only [execOp, resolve, List.map_toArray, List.map_cons, List.map_nil, Act.eval, s90]; simp [go_sem]
          · exact (Below.refl _ _).alloc (Nat.le_refl _) _
          · exact fun W' hW' _ => ⟨_, rfl, (Blk.mk (heap_alloc_new _ _) : Blk _ _ _ _).below hW' (by simp)⟩
        case o29 =>
          intro a w hfr hG hd
          obtain ⟨d0, d1, d2, d3, _⟩ := hd
          have sg : a.tmps.getD 88 undef = .bool e := (d2 rfl).now
          refine ⟨fun hw => ?_, fun hw => by rw [wanted_of rfl (yielded_of rfl sg)] at hw; exact fun _ _ he => absurd he (by intro he; rw [he] at hw; exact absurd hw (by decide))⟩
          have he : e = true := by rw [wanted_of rfl (yielded_of rfl sg)] at hw; simpa using hw
          have s89 : a.tmps.getD 89 undef = .slice A0 l.length c0 := (d0 rfl).now he
          obtain ⟨b, s91, _⟩ := (d1 rfl).now he
          have f91 : Hold (fun a b => Below a.heap.size a b) (fun W => Blk W b 23 [.string name, .string v, .int .i64 3]) w := fun w2 h2 => by obtain ⟨_, e1, e2⟩ := d1 rfl w2 h2 he; have e3 := s91.symm.trans e1; simp only [Value.slice.injEq, Option.some.injEq, Addr.mk.injEq, Value.pointer.injEq, and_true, true_and] at e3; subst e3; exact e2
          have s91 : a.tmps.getD 91 undef = .slice (some ⟨b, 0, none⟩) 1 1 := s91
          refine op_calls2 ((HA3.out w hG.now.2 b f91.now).mono fun e' w' hh => ⟨_, hh.1, hh.2, (fun _ _ _ => rfl)⟩) ?_
          simp only [execOp, resolve, List.map_toArray, List.map_cons, List.map_nil, Act.eval, s89, s91]; simp [go_sem]
        case o30 =>
          intro a w hfr hG hd
          obtain ⟨d0, d1, _⟩ := hd
          have sg : a.tmps.getD 88 undef = .bool e := (d1 rfl).now
          refine ⟨fun hw => ?_, fun hw => by rw [wanted_of rfl (yielded_of rfl sg)] at hw; exact fun _ _ he => absurd he (by intro he; rw [he] at hw; exact absurd hw (by decide))⟩
          have he : e = true := by rw [wanted_of rfl (yielded_of rfl sg)] at hw; simpa using hw
          have s92 : a.tmps.getD 92 undef = .bool h := (d0 rfl).now he
          have e3 := H3.out he
          refine op_yields (.bool false) ?_ ?_ ?_
          · simp only [execOp, resolve, List.map_toArray, List.map_cons, List.map_nil, Act.eval, s92]; simp [go_sem, e3]
          · exact Below.refl _ _
          · exact (fun _ _ _ => rfl)
        case o31 =>
          intro a w hfr hG hd
          obtain ⟨d0, d1, d2, _⟩ := hd
          have sg : a.tmps.getD 83 undef = .bool false := (d2 rfl).now
          refine ⟨fun hw => ?_, fun hw => by rw [wanted_of rfl (yielded_of rfl sg)] at hw; exact absurd hw (by decide)⟩
          have s88 : a.tmps.getD 88 undef = .bool e := (d0 rfl).now
          have s93 : e = true → a.tmps.getD 93 undef = .bool false := (d1 rfl).now
          refine op_yields (.bool false) ?_ ?_ ?_
          · simp only [execOp, Act.eval, s88]; cases e with | false => simp [go_sem] | true => (simp only [s93 rfl]; simp [go_sem])
          · exact Below.refl _ _
          · exact (fun _ _ => rfl)
        case o32 =>
          intro a w hfr hG hd
          obtain ⟨d0, d1, _⟩ := hd
          refine ⟨fun hw => ?_, fun hw => absurd hw (by simp [Region.wanted])⟩
          have s83 : a.tmps.getD 83 undef = .bool false := (d0 rfl).now
          have s94 : a.tmps.getD 94 undef = .bool false := (d1 rfl).now
          refine op_yields (.bool false) ?_ ?_ ?_
          · simp only [execOp, resolve, List.map_toArray, List.map_cons, List.map_nil, Act.eval, s83, s94]; simp [go_sem]
          · exact Below.refl _ _
          · exact (fun _ _ => rfl)
        case o33 =>
          intro a w hfr hG hd
          obtain ⟨d0, d1, _⟩ := hd
          refine ⟨fun hw => ?_, fun hw => absurd hw (by simp [Region.wanted])⟩
          have s95 : a.tmps.getD 95 undef = .bool false := (d0 rfl).now
          refine op_yields (.bool false) ?_ ?_ ?_
          · simp only [execOp, resolve, List.map_toArray, List.map_cons, List.map_nil, Act.eval, s95]; simp [go_sem]
          · exact Below.refl _ _
          · exact (fun _ _ => rfl)
        case o34 =>
          intro a w hfr hG hd
          obtain ⟨d0, _⟩ := hd
          have sg : a.tmps.getD 96 undef = .bool false := (d0 rfl).now
          refine ⟨fun hw => ?_, fun hw => by rw [wanted_of rfl (yielded_of rfl sg)] at hw; exact absurd hw (by decide)⟩
          have s20 : a.tmps.getD 20 undef = .bool al := hfr.at 20 (by kernel_rfl)
          refine op_yields (.bool al) ?_ ?_ ?_
          · simp only [execOp, resolve, List.map_toArray, List.map_cons, List.map_nil, Act.eval, s20]; simp [go_sem]
          · exact Below.refl _ _
          · exact (fun _ _ => rfl)
        case o35 =>
          intro a w hfr hG hd
          obtain ⟨d0, _⟩ := hd
          have sg : a.tmps.getD 96 undef = .bool false := (d0 rfl).now
          refine ⟨fun hw => ?_, fun hw => by rw [wanted_of rfl (yielded_of rfl sg)] at hw; exact absurd hw (by decide)⟩
          have s11 : a.tmps.getD 11 undef = .slice A0 l.length c0 := hfr.at 11 (by kernel_rfl)
          refine op_yields (.slice A0 l.length c0) ?_ ?_ ?_
          · simp only [execOp, resolve, List.map_toArray, List.map_cons, List.map_nil, Act.eval, s11]; simp [go_sem]
          · exact Below.refl _ _
          · exact (fun _ _ => rfl)
        case o36 =>
          intro a w hfr hG hd
          obtain ⟨d0, _⟩ := hd
          have sg : a.tmps.getD 96 undef = .bool false := (d0 rfl).now
          refine ⟨fun hw => ?_, fun hw => by rw [wanted_of rfl (yielded_of rfl sg)] at hw; exact absurd hw (by decide)⟩
          have s19 : a.tmps.getD 19 undef = .slice Y k cY := hfr.at 19 (by kernel_rfl)
          refine op_yields (.slice Y k cY) ?_ ?_ ?_
          · simp only [execOp, resolve, List.map_toArray, List.map_cons, List.map_nil, Act.eval, s19]; simp [go_sem]
          · exact Below.refl _ _
          · exact (fun _ _ => rfl)
        case o37 =>
          intro a w hfr hG hd
          obtain ⟨d0, d1, d2, d3, _⟩ := hd
          have sg : a.tmps.getD 96 undef = .bool false := (d2 rfl).now
          refine ⟨fun hw => ?_, fun hw => by rw [wanted_of rfl (yielded_of rfl sg)] at hw; exact absurd hw (by decide)⟩
          have s98 : a.tmps.getD 98 undef = .slice A0 l.length c0 := (d0 rfl).now
          have s99 : a.tmps.getD 99 undef = .slice Y k cY := (d1 rfl).now
          refine op_calls2 ((HAT.out w hG.now.2).mono fun e' w' hh => ⟨_, hh.1, hh.2, (fun _ _ => rfl)⟩) ?_
          simp only [execOp, resolve, List.map_toArray, List.map_cons, List.map_nil, Act.eval, s98, s99]; simp [go_sem]
        case o38 =>
          intro a w hfr hG hd
          obtain ⟨d0, d1, d2, _⟩ := hd
          have sg : a.tmps.getD 96 undef = .bool false := (d2 rfl).now
          refine ⟨fun hw => ?_, fun hw => by rw [wanted_of rfl (yielded_of rfl sg)] at hw; exact absurd hw (by decide)⟩
          have s97 : a.tmps.getD 97 undef = .bool al := (d0 rfl).now
          have s100 : a.tmps.getD 100 undef = .bool al := (d1 rfl).now
          refine op_yields (.bool false) ?_ ?_ ?_
          · simp only [execOp, resolve, List.map_toArray, List.map_cons, List.map_nil, Act.eval, s97, s100]; simp [go_sem]
          · exact Below.refl _ _
          · exact (fun _ _ => rfl)
        case o39 =>
          intro a w hfr hG hd
          obtain ⟨d0, d1, _⟩ := hd
          refine ⟨fun hw => ?_, fun hw => absurd hw (by simp [Region.wanted])⟩
          have s96 : a.tmps.getD 96 undef = .bool false := (d0 rfl).now
          have s101 : a.tmps.getD 101 undef = .bool false := (d1 rfl).now
          refine op_yields (.bool false) ?_ ?_ ?_
          · simp only [execOp, resolve, List.map_toArray, List.map_cons, List.map_nil, Act.eval, s96, s101]; simp [go_sem]
          · exact Below.refl _ _
          · exact (fun _ _ => rfl)
        case hG => exact fun w' hb => ⟨Nat.le_trans hbz2' hb.size, HU.out.drew.below hb⟩
        case hend =>
          intro vs w' hG hv
          obtain ⟨_, _, _, _, _, _, _, _, _, _, _, _, _, _, _, _, _, _, _, _, _, _, _, _, _, _, _, _, _, _, _, _, _, _, _, _, _, _, _, h39, _⟩ := hv
          have e39 : vs 39 = .bool false := h39.now
          have HU9 := Lib.hid hG.now.2
          have hz9 := hG.now.1
          clear hG h39
          simp only [putAll, Act.put, e39]
          go_wp2_with fail
          go_meet
          exact ⟨rfl, hz9, HU9.out⟩
      case rest =>
        obtain ⟨rfl, hbz3, hkept⟩ := hcut
        have HT := Lib.hid hkept
        clear hkept HU HA1 HA2 HA3 HA4 HAO HAT H3
        obtain ⟨e0, e1, e2⟩ := blk3 HT.out.p5
        have HX := Lib.hid (HT.out.p1.alloc (.cells #[.string name, .string v, .int .i64 1] 23))
        have HS := Lib.hid ((Blk.mk (heap_alloc_new wc _) : Blk (wc.alloc (.cells #[.string name, .string v, .int .i64 1] 23)) _ 23 [.string name, .string v, .int .i64 1]).sees (size := 3) (n := 1) (xs := mtcs [(name, v, (1 : Int))]) rfl (List.prefix_refl _))
        go_wp2_with (at_builtin; refine wpList_append_sees rfl (.tmp 104) (.tmp 106) 24 rfl base 23 i0 (.agg #[.string ⟨#[]⟩, .string ⟨#[]⟩, .int .i64 0]) 3 40 Try.underlying24 hi0 hz0 hz1 hz2 rfl (by decide) _ k (mtcs own) rfl HX.out _ _ 1 1 (mtcs [(name, v, (1 : Int))]) rfl HS.out (mtcs_one _) (by unfold maxLen; omega) (by omega) (by simp; omega) ?_)
        intro v7 w7 hown7 hgr7
        obtain ⟨A7, c7, rfl, _, _⟩ := own_slice hown7
        have hb7 : Below base wc w7 := ((Below.refl base wc).alloc hbz3 (.cells #[.string name, .string v, .int .i64 1] 23)).grown hgr7 (by simp; omega) (fun g hg => (HX.out.lt g hg).1)
        have HL := Lib.hid (((((Kept.start w).below (HT.out.bel.trans (hb7.mono hwb))).add ((HT.out.p6.below (hb7.mono (by omega))).stays (by have := hb7.size; omega))).add (HT.out.p5.below hb7 hbb).stays).add (Slc.of_own (by rw [← mtcs_append] at hown7; exact hown7)).stays)
        have hz7 := hb7.size
        clear HT HX HS hb7 hown7 hgr7 e0 e1 e2
        cases al with
        | false =>
          go_wp2_with fail
          (with_reducible refine (HM.out _ _ _ HL.out.p0.sees HL.out.p2 (Nat.le_of_lt HL.out.p1.lt)).mono ?_); rintro e' wq ⟨rfl, hbq⟩
          have HL_n := Lib.hid (HL.out.below hbq); clear HL; have HL := HL_n; clear HL_n
          go_wp2_with fail
          (with_reducible refine (HN.out _ HL.out.p2 (Nat.le_of_lt HL.out.p1.lt)).mono ?_); rintro e' wq2 ⟨rfl, hbq⟩
          have HL_n := Lib.hid (HL.out.below hbq); clear HL; have HL := HL_n; clear HL_n
          go_wp2_with fail
          (with_reducible refine (HB5.out _ (HL.out.alloc _).p2 (Nat.le_of_lt (HL.out.alloc _).p1.lt) _ (Blk.mk (heap_alloc_new _ _))).mono ?_); rintro e' wq3 ⟨rfl, hbq⟩
          have HL_n := Lib.hid ((HL.out.alloc _).below hbq); clear HL; have HL := HL_n; clear HL_n
          go_wp2_with fail
          (with_reducible refine (match_runs _).mono ?_); rintro e wq ⟨rfl, hbq⟩
          have HL_n := Lib.hid (HL.out.below hbq); clear HL hbq; have HL := HL_n; clear HL_n
          go_wp2_with fail
          go_ret
          exact ⟨rfl, HL.out.bel⟩
        | true =>
          obtain ⟨e0, e1, e2⟩ := blk3 HL.out.p1
          go_wp2_with fail
          (with_reducible refine (HM.out _ _ _ HL.out.p0.sees HL.out.p2 (Nat.le_of_lt HL.out.p1.lt)).mono ?_); rintro e' wq ⟨rfl, hbq⟩
          have HL_n := Lib.hid (HL.out.below hbq); clear HL; have HL := HL_n; clear HL_n
          clear e0 e1 e2
          obtain ⟨e0, e1, e2⟩ := blk3 HL.out.p1
          go_wp2_with fail
          (with_reducible refine (HB1.out _ (HL.out.alloc _).p2 (Nat.le_of_lt (HL.out.alloc _).p1.lt) _ (Blk.mk (heap_alloc_new _ _))).mono ?_); rintro e' wq3 ⟨rfl, hbq⟩
          have HL_n := Lib.hid ((HL.out.alloc _).below hbq); clear HL; have HL := HL_n; clear HL_n
          go_wp2_with fail
          (with_reducible refine (HN.out _ HL.out.p2 (Nat.le_of_lt HL.out.p1.lt)).mono ?_); rintro e' wq2 ⟨rfl, hbq⟩
          have HL_n := Lib.hid (HL.out.below hbq); clear HL; have HL := HL_n; clear HL_n
          go_wp2_with fail
          (with_reducible refine (HB5.out _ (HL.out.alloc _).p2 (Nat.le_of_lt (HL.out.alloc _).p1.lt) _ (Blk.mk (heap_alloc_new _ _))).mono ?_); rintro e' wq4 ⟨rfl, hbq⟩
          have HL_n := Lib.hid ((HL.out.alloc _).below hbq); clear HL; have HL := HL_n; clear HL_n
          go_wp2_with fail
          (with_reducible refine (match_runs _).mono ?_); rintro e wq ⟨rfl, hbq⟩
          have HL_n := Lib.hid (HL.out.below hbq); clear HL hbq; have HL := HL_n; clear HL_n
          go_wp2_with fail
          go_ret
          exact ⟨rfl, HL.out.bel⟩
end Go.Proofs.Ytpeakblpmcfdnaa
