/- The walk of MatchMany. -/
import Derived.Test.YtpeakblpmcfdnaaManyInj
import Derived.Test.YtpeakblpmcfdnaaMatchTells
import Derived.Test.YtpeakblpmcfdnaaLsetWith
import Derived.Test.YtpeakblpmcfdnaaFresh
import Derived.Test.YtpeakblpmcfdnaaFacts
import Derived.Outline
namespace Go.Proofs.Ytpeakblpmcfdnaa
open Go.ChangeShapes Go.WideShapes Go.ChangeAt Go.RowKit
set_option linter.unusedVariables false
set_option linter.unusedSimpArgs false
set_option maxRecDepth 100000
theorem HasL.stays {w : World} {v : Value} {l : List Lbl} (h : HasL w v l) : Stays (fun W => HasL W v l) w := fun _ hb => h.below hb
theorem getF_with {l : List Lbl} {name value n : ByteArray} (hn : n ≠ name) : getF (withL l name value) n = getF l n := by
  unfold withL
  split
  · exact getF_kept hn
  · rw [getF_put_other hn, getF_kept hn]
set_option maxHeartbeats 8000000 in
theorem match_many (ka : KSet) (AM : Option Addr) (nm cm : Nat) (ms : List Mtc) (AN : Option Addr) (nn cn : Nat) (ns : List Mtc) (cut vi : Int) (w : World) (ha : ka.ok w.heap.size w)
    (hM : Sees w w.heap.size 3 AM nm (mtcs ms)) (hmc : nm ≤ cm) (hcm : cm ≤ 9223372036854775807) (hN : Sees w w.heap.size 3 AN nn (mtcs ns)) (hnc : nn ≤ cn) (hcn : cn ≤ 9223372036854775807) (hcut : I64 cut) (hvi : I64 vi) :
    Calls Try.prog 7 #[ka.val, .slice AM nm cm, .slice AN nn cn, .int .i64 cut, .int .i64 vi] w fun e w' => e = .returned (.bool true) ∧ Below w.heap.size w w' := by
  obtain ⟨i0, hi0, hz0, hz1, hz2⟩ := info_parts Try.infoMatcher
  obtain ⟨k, hk⟩ : ∃ k, min nm 5 = k := ⟨_, rfl⟩
  obtain ⟨k2, hk2⟩ : ∃ k, min nn 5 = k := ⟨_, rfl⟩
  have hkn : k ≤ nm := by omega
  have hk5 : k ≤ 5 := by omega
  have hkn2 : k2 ≤ nn := by omega
  have hk25 : k2 ≤ 5 := by omega
  have m1 : min (nm : Int) 5 = (k : Int) := by omega
  have m2 : min (nn : Int) 5 = (k2 : Int) := by omega
  have y1 : (k : Int) ≤ cm := by omega
  have y2 : (k2 : Int) ≤ cn := by omega
  have y3 : (0 : Int) ≤ k := by omega
  have y4 : (0 : Int) ≤ k2 := by omega
  have hsx : Sees w w.heap.size 3 AM k (mtcs (ms.take k)) := by have h := hM.take hkn; rwa [mtcs_take] at h
  have hsy : Sees w w.heap.size 3 AN k2 (mtcs (ns.take k2)) := by have h := hN.take hkn2; rwa [mtcs_take] at h
  have HLX := Lib.hid (show (ms.take k).length = k by have := hM.mtc_len; rw [List.length_take]; omega)
  have HLY := Lib.hid (show (ns.take k2).length = k2 by have := hN.mtc_len; rw [List.length_take]; omega)
  generalize ms.take k = x at *
  generalize ns.take k2 = y at *
  have HT := Lib.hid (((Kept.start w).add (hsy.stays (Nat.le_refl _))).add (hsx.stays (Nat.le_refl _)))
  have HKA := Lib.hid (fun (W : World) (h : ka.ok w.heap.size W) (hB : w.heap.size ≤ W.heap.size) => keepset_any ka w.heap.size W h hB)
  have HOA := Lib.hid ha
  have HRA := Lib.hid (setF_right ka)
  clear hM hN ha hk hk2 hsx hsy
  unfold KSet.val at *
  have hb0 := (Below.refl w.heap.size w).alloc (Nat.le_refl _) (.cells #[.slice ka.A ka.n ka.c, .slice ka.A2 ka.n2 ka.c2] 39)
  have HOK := Lib.hid (HOA.out.below hb0)
  have HT_n := Lib.hid (HT.out.below hb0); clear HT; have HT := HT_n; clear HT_n
  clear hb0
  go_enter Try.func7, Try.ntmps7
  go_wp2_with fail
  (with_reducible refine (HKA.out _ HOK.out HT.out.size).mono ?_); rintro e w1 haa; obtain ⟨va, rfl, hva, hba⟩ := haa.hasL
  obtain ⟨A0, c0, rfl⟩ : ∃ A c, va = .slice A (setF ka).length c := by obtain ⟨A, c, h, _⟩ := hva; exact ⟨A, c, h⟩
  have hl6 := rightS_len HRA.out
  generalize setF ka = l at *
  have HL0 := Lib.hid hva
  have HT_n := Lib.hid (HT.out.below hba); clear HT; have HT := HT_n; clear HT_n
  clear hva hba HOK HOA HKA haa
  go_upto_region 2 with fail
  go_cut [12, 13] (fun x12 x13 wx => ∃ (X : Option Addr) (cX : Nat) (X2 : Option Addr) (cX2 : Nat), x12 = .slice X k cX ∧ x13 = .slice X2 k2 cX2 ∧ Kept w [fun W => Slc W 3 (.slice X k cX) k (mtcs x), fun W => Slc W 3 (.slice X2 k2 cX2) k2 (mtcs y), fun W => HasL W (.slice A0 l.length c0) l] wx)
  case first =>
    obtain ⟨bl, hbl⟩ : ∃ b, w1.heap.size = b := ⟨_, rfl⟩
    have HG := Lib.hid (show Kept w [fun W => Sees W w.heap.size 3 AM k (mtcs x), fun W => Sees W w.heap.size 3 AN k2 (mtcs y), fun W => HasL W (.slice A0 l.length c0) l] w1 from ⟨HT.out.1, fun P hp => by
      rcases List.mem_cons.1 hp with rfl | hp
      · exact HT.out.2 _ List.mem_cons_self
      · rcases List.mem_cons.1 hp with rfl | hp
        · exact HT.out.2 _ (List.mem_cons_of_mem _ List.mem_cons_self)
        · rw [List.mem_singleton] at hp; subst hp; exact HL0.out.stays⟩)
    clear hbl HT HL0
    refine wp_region_facts (R := fun a b => Below a.heap.size a b) (G := Kept w [fun W => Sees W w.heap.size 3 AM k (mtcs x), fun W => Sees W w.heap.size 3 AN k2 (mtcs y), fun W => HasL W (.slice A0 l.length c0) l]) (V := fun i' u' W => match i' with | 0 => ∃ b, u' = .slice (some ⟨b, 0, none⟩) 0 0 ∧ Blk W b 23 [] | 1 => u' = .slice AM nm cm | 2 => u' = .slice AM nm cm | 3 => u' = .int .i64 nm | 4 => u' = .int .i64 k | 5 => u' = .slice AM k cm | 6 => Slc W 3 u' k (mtcs x) | 7 => ∃ b, u' = .slice (some ⟨b, 0, none⟩) 0 0 ∧ Blk W b 23 [] | 8 => u' = .slice AN nn cn | 9 => u' = .slice AN nn cn | 10 => u' = .int .i64 nn | 11 => u' = .int .i64 k2 | 12 => u' = .slice AN k2 cn | 13 => Slc W 3 u' k2 (mtcs y) | 14 => Slc W 3 u' k (mtcs x) | 15 => Slc W 3 u' k2 (mtcs y) | _ => True) (by kernel_rfl) (fun w => Below.refl _ _) (fun a b c h1 h2 => h1.trans (h2.mono h1.size)) (by kernel_rfl) (by kernel_rfl) ?hG ⟨?o0, ?o1, ?o2, ?o3, ?o4, ?o5, ?o6, ?o7, ?o8, ?o9, ?o10, ?o11, ?o12, ?o13, ?o14, ?o15, trivial⟩ ?hend
    case o0 =>
      intro a w hfr hG hd
      refine ⟨fun hw => ?_, fun hw => absurd hw (by simp [Region.wanted])⟩
      refine op_makes (.slice (some ⟨w.heap.size, 0, none⟩) 0 0) (w' := w.alloc (.cells #[] 23)) ?_ ?_ ?_
      · simp only [execOp, resolve, List.map_toArray, List.map_cons, List.map_nil, Act.eval]; simp [go_sem, -Array.getD_eq_getD_getElem?]
      · exact (Below.refl _ _).alloc (Nat.le_refl _) _
      · exact fun W' hW' => ⟨_, rfl, (Blk.mk (heap_alloc_new _ _) : Blk _ _ _ _).below hW' (by simp)⟩
    case o1 =>
      intro a w hfr hG hd
      refine ⟨fun hw => ?_, fun hw => absurd hw (by simp [Region.wanted])⟩
      have s1 : a.tmps.getD 1 undef = .slice AM nm cm := hfr.at 1 (by kernel_rfl)
      refine op_yields (.slice AM nm cm) ?_ ?_ ?_
      · simp only [execOp, resolve, List.map_toArray, List.map_cons, List.map_nil, Act.eval, s1]; simp [go_sem, -Array.getD_eq_getD_getElem?, s1]
      · exact Below.refl _ _
      · exact (fun _ _ => rfl)
    case o2 =>
      intro a w hfr hG hd
      refine ⟨fun hw => ?_, fun hw => absurd hw (by simp [Region.wanted])⟩
      have s1 : a.tmps.getD 1 undef = .slice AM nm cm := hfr.at 1 (by kernel_rfl)
      refine op_yields (.slice AM nm cm) ?_ ?_ ?_
      · simp only [execOp, resolve, List.map_toArray, List.map_cons, List.map_nil, Act.eval, s1]; simp [go_sem, -Array.getD_eq_getD_getElem?, s1]
      · exact Below.refl _ _
      · exact (fun _ _ => rfl)
    case o3 =>
      intro a w hfr hG hd
      obtain ⟨d0, _⟩ := hd
      refine ⟨fun hw => ?_, fun hw => absurd hw (by simp [Region.wanted])⟩
      have s23 : a.tmps.getD 23 undef = .slice AM nm cm := (d0 rfl).now
      refine op_yields (.int .i64 nm) ?_ ?_ ?_
      · simp only [execOp, resolve, List.map_toArray, List.map_cons, List.map_nil, Act.eval, s23]; simp [go_sem, -Array.getD_eq_getD_getElem?, s23]
      · exact Below.refl _ _
      · exact (fun _ _ => rfl)
    case o4 =>
      intro a w hfr hG hd
      obtain ⟨d0, _⟩ := hd
      refine ⟨fun hw => ?_, fun hw => absurd hw (by simp [Region.wanted])⟩
      have s24 : a.tmps.getD 24 undef = .int .i64 nm := (d0 rfl).now
      refine op_yields (.int .i64 k) ?_ ?_ ?_
      · simp only [execOp, resolve, List.map_toArray, List.map_cons, List.map_nil, Act.eval, s24]; simp [go_sem, -Array.getD_eq_getD_getElem?, s24, m1]
      · exact Below.refl _ _
      · exact (fun _ _ => rfl)
    case o5 =>
      intro a w hfr hG hd
      obtain ⟨d0, d1, _⟩ := hd
      refine ⟨fun hw => ?_, fun hw => absurd hw (by simp [Region.wanted])⟩
      have s22 : a.tmps.getD 22 undef = .slice AM nm cm := (d0 rfl).now
      have s25 : a.tmps.getD 25 undef = .int .i64 k := (d1 rfl).now
      refine op_yields (.slice AM k cm) ?_ ?_ ?_
      · simp only [execOp, resolve, List.map_toArray, List.map_cons, List.map_nil, Act.eval, s22, s25]; simp [go_sem, -Array.getD_eq_getD_getElem?, s22, s25, y1, y3]
      · exact Below.refl _ _
      · exact (fun _ _ => rfl)
    case o6 =>
      intro a w hfr hG hd
      obtain ⟨d0, d1, _⟩ := hd
      refine ⟨fun hw => ?_, fun hw => absurd hw (by simp [Region.wanted])⟩
      obtain ⟨b, s21, _⟩ := (d0 rfl).now
      have f21 : Hold (fun a b => Below a.heap.size a b) (fun W => Blk W b 23 []) w := fun w2 h2 => by obtain ⟨_, e1, e2⟩ := d0 rfl w2 h2; have e3 := s21.symm.trans e1; simp only [Value.slice.injEq, Option.some.injEq, Addr.mk.injEq, Value.pointer.injEq, and_true, true_and] at e3; subst e3; exact e2
      have s21 : a.tmps.getD 21 undef = .slice (some ⟨b, 0, none⟩) 0 0 := s21
      have s26 : a.tmps.getD 26 undef = .slice AM k cm := (d1 rfl).now
      obtain ⟨A', c', w', hrun, hown, hb⟩ := append_fresh (P := Try.prog) w b 24 24 23 i0 _ 3 40 Try.underlying24 hi0 hz0 hz1 hz2 rfl (by decide) f21.now _ AM k cm (mtcs x) hG.now.p0 (mtcs_one _) (by unfold maxLen; omega) (by omega); exact op_makes (.slice A' k c') (op_append rfl s21 s26 hrun) hb (fun W' hW' => (Slc.of_own hown).below hW')
    case o7 =>
      intro a w hfr hG hd
      refine ⟨fun hw => ?_, fun hw => absurd hw (by simp [Region.wanted])⟩
      refine op_makes (.slice (some ⟨w.heap.size, 0, none⟩) 0 0) (w' := w.alloc (.cells #[] 23)) ?_ ?_ ?_
      · simp only [execOp, resolve, List.map_toArray, List.map_cons, List.map_nil, Act.eval]; simp [go_sem, -Array.getD_eq_getD_getElem?]
      · exact (Below.refl _ _).alloc (Nat.le_refl _) _
      · exact fun W' hW' => ⟨_, rfl, (Blk.mk (heap_alloc_new _ _) : Blk _ _ _ _).below hW' (by simp)⟩
    case o8 =>
      intro a w hfr hG hd
      refine ⟨fun hw => ?_, fun hw => absurd hw (by simp [Region.wanted])⟩
      have s2 : a.tmps.getD 2 undef = .slice AN nn cn := hfr.at 2 (by kernel_rfl)
      refine op_yields (.slice AN nn cn) ?_ ?_ ?_
      · simp only [execOp, resolve, List.map_toArray, List.map_cons, List.map_nil, Act.eval, s2]; simp [go_sem, -Array.getD_eq_getD_getElem?, s2]
      · exact Below.refl _ _
      · exact (fun _ _ => rfl)
    case o9 =>
      intro a w hfr hG hd
      refine ⟨fun hw => ?_, fun hw => absurd hw (by simp [Region.wanted])⟩
      have s2 : a.tmps.getD 2 undef = .slice AN nn cn := hfr.at 2 (by kernel_rfl)
      refine op_yields (.slice AN nn cn) ?_ ?_ ?_
      · simp only [execOp, resolve, List.map_toArray, List.map_cons, List.map_nil, Act.eval, s2]; simp [go_sem, -Array.getD_eq_getD_getElem?, s2]
      · exact Below.refl _ _
      · exact (fun _ _ => rfl)
    case o10 =>
      intro a w hfr hG hd
      obtain ⟨d0, _⟩ := hd
      refine ⟨fun hw => ?_, fun hw => absurd hw (by simp [Region.wanted])⟩
      have s30 : a.tmps.getD 30 undef = .slice AN nn cn := (d0 rfl).now
      refine op_yields (.int .i64 nn) ?_ ?_ ?_
      · simp only [execOp, resolve, List.map_toArray, List.map_cons, List.map_nil, Act.eval, s30]; simp [go_sem, -Array.getD_eq_getD_getElem?, s30]
      · exact Below.refl _ _
      · exact (fun _ _ => rfl)
    case o11 =>
      intro a w hfr hG hd
      obtain ⟨d0, _⟩ := hd
      refine ⟨fun hw => ?_, fun hw => absurd hw (by simp [Region.wanted])⟩
      have s31 : a.tmps.getD 31 undef = .int .i64 nn := (d0 rfl).now
      refine op_yields (.int .i64 k2) ?_ ?_ ?_
      · simp only [execOp, resolve, List.map_toArray, List.map_cons, List.map_nil, Act.eval, s31]; simp [go_sem, -Array.getD_eq_getD_getElem?, s31, m2]
      · exact Below.refl _ _
      · exact (fun _ _ => rfl)
    case o12 =>
      intro a w hfr hG hd
      obtain ⟨d0, d1, _⟩ := hd
      refine ⟨fun hw => ?_, fun hw => absurd hw (by simp [Region.wanted])⟩
      have s29 : a.tmps.getD 29 undef = .slice AN nn cn := (d0 rfl).now
      have s32 : a.tmps.getD 32 undef = .int .i64 k2 := (d1 rfl).now
      refine op_yields (.slice AN k2 cn) ?_ ?_ ?_
      · simp only [execOp, resolve, List.map_toArray, List.map_cons, List.map_nil, Act.eval, s29, s32]; simp [go_sem, -Array.getD_eq_getD_getElem?, s29, s32, y2, y4]
      · exact Below.refl _ _
      · exact (fun _ _ => rfl)
    case o13 =>
      intro a w hfr hG hd
      obtain ⟨d0, d1, d2, _⟩ := hd
      refine ⟨fun hw => ?_, fun hw => absurd hw (by simp [Region.wanted])⟩
      obtain ⟨b, s28, _⟩ := (d0 rfl).now
      have f28 : Hold (fun a b => Below a.heap.size a b) (fun W => Blk W b 23 []) w := fun w2 h2 => by obtain ⟨_, e1, e2⟩ := d0 rfl w2 h2; have e3 := s28.symm.trans e1; simp only [Value.slice.injEq, Option.some.injEq, Addr.mk.injEq, Value.pointer.injEq, and_true, true_and] at e3; subst e3; exact e2
      have s28 : a.tmps.getD 28 undef = .slice (some ⟨b, 0, none⟩) 0 0 := s28
      have s33 : a.tmps.getD 33 undef = .slice AN k2 cn := (d1 rfl).now
      obtain ⟨A', c', w', hrun, hown, hb⟩ := append_fresh (P := Try.prog) w b 24 24 23 i0 _ 3 40 Try.underlying24 hi0 hz0 hz1 hz2 rfl (by decide) f28.now _ AN k2 cn (mtcs y) hG.now.p1 (mtcs_one _) (by unfold maxLen; omega) (by omega); exact op_makes (.slice A' k2 c') (op_append rfl s28 s33 hrun) hb (fun W' hW' => (Slc.of_own hown).below hW')
    case o14 =>
      intro a w hfr hG hd
      obtain ⟨d0, d1, d2, d3, d4, d5, d6, d7, d8, d9, d10, d11, d12, d13, d14, d15, _⟩ := hd
      refine ⟨fun hw => ?_, fun hw => absurd hw (by simp [Region.wanted])⟩
      have p27 : Hold (fun a b => Below a.heap.size a b) (fun W => Slc W 3 (a.tmps.getD 27 undef) k (mtcs x)) w := d0 rfl
      refine op_yields (a.tmps.getD 27 undef) ?_ ?_ ?_
      · simp only [execOp, Act.eval]; rfl
      · exact Below.refl _ _
      · exact p27
    case o15 =>
      intro a w hfr hG hd
      obtain ⟨d0, d1, d2, d3, d4, d5, d6, d7, d8, d9, d10, d11, d12, d13, d14, d15, d16, _⟩ := hd
      refine ⟨fun hw => ?_, fun hw => absurd hw (by simp [Region.wanted])⟩
      have p34 : Hold (fun a b => Below a.heap.size a b) (fun W => Slc W 3 (a.tmps.getD 34 undef) k2 (mtcs y)) w := d0 rfl
      refine op_yields (a.tmps.getD 34 undef) ?_ ?_ ?_
      · simp only [execOp, Act.eval]; rfl
      · exact Below.refl _ _
      · exact p34
    case hG => exact fun w' hb => HG.out.drew.below hb
    case hend =>
      intro vs w' hG hv
      obtain ⟨_, _, _, _, _, _, _, _, _, _, _, _, _, _, h14, h15, _⟩ := hv
      obtain ⟨X, cX, e14, _, _⟩ := h14.now.form
      obtain ⟨X2, cX2, e15, _, _⟩ := h15.now.form
      have HU := Lib.hid (((((Kept.start w).below hG.now.bel).add hG.now.p2.stays).add h15.now.stays).add h14.now.stays)
      rw [e14, e15] at HU
      clear hG h14 h15
      simp only [putAll, Act.put, e14, e15]
      clear e14 e15
      go_wp2_with fail
      go_meet
      exact ⟨X, cX, X2, cX2, rfl, rfl, HU.out⟩
  case rest =>
    obtain ⟨X, cX, X2, cX2, rfl, rfl, hkept⟩ := hcut
    have HT1 := Lib.hid hkept
    clear hkept HT HL0
    obtain ⟨hcX, hcX2⟩ := HT1.out.p0.caps
    obtain ⟨hj1, hj2⟩ := nWithin_in cut (lo := 0) (hi := (k : Int)) (by omega)
    have HWI := Lib.hid (fun V => within_any cut 0 k V hcut (by omega) (by omega) (by omega))
    have HWV := Lib.hid (fun V => within_any vi 0 5 V hvi (by omega) (by omega) (by omega))
    obtain ⟨hq1, hq2⟩ := nWithin_in vi (lo := 0) (hi := 5) (by omega)
    generalize nWithin cut 0 (k : Int) = j' at *
    generalize nWithin vi 0 5 = q' at *
    obtain ⟨j, rfl⟩ := Int.eq_ofNat_of_zero_le hj1
    obtain ⟨q, rfl⟩ := Int.eq_ofNat_of_zero_le hq1
    have hjk : j ≤ k := by omega
    have hq8 : q < 8 := by omega
    clear hj1 hj2 hq1 hq2
    obtain ⟨d, hd⟩ : ∃ d, k - j = d := ⟨_, rfl⟩
    obtain ⟨Y, hY⟩ : ∃ Y, (if cX = j then X else X.map (·.add (j * 3))) = Y := ⟨_, rfl⟩
    have hpq := allF_parts l x j
    have HAX := Lib.hid (fun V (h : Kept w [fun W => Slc W 3 (.slice X k cX) k (mtcs x), fun W => Slc W 3 (.slice X2 k2 cX2) k2 (mtcs y), fun W => HasL W (.slice A0 l.length c0) l] V) => all_any A0 l.length c0 _ l X k cX _ x V h.p2.sees (Nat.le_refl _) (by omega) h.p0.sees (Nat.le_refl _) (by omega))
    have HAP := Lib.hid (fun V (h : Kept w [fun W => Slc W 3 (.slice X k cX) k (mtcs x), fun W => Slc W 3 (.slice X2 k2 cX2) k2 (mtcs y), fun W => HasL W (.slice A0 l.length c0) l] V) => all_any A0 l.length c0 _ l X j cX _ (x.take j) V h.p2.sees (Nat.le_refl _) (by omega) (by have h1 := h.p0.sees.take hjk; rwa [mtcs_take] at h1) (Nat.le_refl _) (by omega))
    have HAQ := Lib.hid (fun V (h : Kept w [fun W => Slc W 3 (.slice X k cX) k (mtcs x), fun W => Slc W 3 (.slice X2 k2 cX2) k2 (mtcs y), fun W => HasL W (.slice A0 l.length c0) l] V) => all_any A0 l.length c0 _ l Y d (cX - j) _ (x.drop j) V h.p2.sees (Nat.le_refl _) (by omega) (by have h1 := h.p0.sees.drop (k := j) (cap := cX) hjk hcX; rw [mtcs_drop, hY, hd] at h1; exact h1) (Nat.le_refl _) (by omega))
    have HY := Lib.hid hY; have HD := Lib.hid hd
    generalize hal : allF l x = al at *
    generalize allF l (x.take j) = p at *
    generalize allF l (x.drop j) = q0 at *
    have HAL := Lib.hid hal
    clear hal
    go_wp2_with fail
    (with_reducible refine (HWI.out _).mono ?_); rintro e wq ⟨rfl, rfl⟩
    go_upto_region 4 with fail
    go_cut [54] (fun x54 wx => x54 = .bool false ∧ Kept w [fun W => Slc W 3 (.slice X k cX) k (mtcs x), fun W => Slc W 3 (.slice X2 k2 cX2) k2 (mtcs y), fun W => HasL W (.slice A0 l.length c0) l] wx)
    case first =>
      have y5 : (j : Int) ≤ k := by omega
      have y6 : (0 : Int) ≤ j := by omega
      have y7 : (j : Int) ≤ cX := by omega
      have y8 := HY.out
      have y9 := HD.out
      refine wp_region_facts (R := fun a b => Below a.heap.size a b) (G := Kept w [fun W => Slc W 3 (.slice X k cX) k (mtcs x), fun W => Slc W 3 (.slice X2 k2 cX2) k2 (mtcs y), fun W => HasL W (.slice A0 l.length c0) l]) (V := fun i' u' W => match i' with | 0 => u' = .slice A0 l.length c0 | 1 => u' = .slice X k cX | 2 => u' = .bool al | 3 => u' = .slice A0 l.length c0 | 4 => u' = .slice X k cX | 5 => u' = .int .i64 j | 6 => u' = .slice X j cX | 7 => u' = .bool p | 8 => u' = .bool p | 9 => p = true → u' = .slice A0 l.length c0 | 10 => p = true → u' = .slice X k cX | 11 => p = true → u' = .int .i64 j | 12 => p = true → u' = .slice Y d (cX - j) | 13 => p = true → u' = .bool q0 | 14 => u' = .bool al | 15 => u' = .bool false | _ => True) (by kernel_rfl) (fun w => Below.refl _ _) (fun a b c h1 h2 => h1.trans (h2.mono h1.size)) (by kernel_rfl) (by kernel_rfl) ?hG ⟨?o0, ?o1, ?o2, ?o3, ?o4, ?o5, ?o6, ?o7, ?o8, ?o9, ?o10, ?o11, ?o12, ?o13, ?o14, ?o15, trivial⟩ ?hend
      case o0 =>
        intro a w hfr hG hd
        refine ⟨fun hw => ?_, fun hw => absurd hw (by simp [Region.wanted])⟩
        have s11 : a.tmps.getD 11 undef = .slice A0 l.length c0 := hfr.at 11 (by kernel_rfl)
        refine op_yields (.slice A0 l.length c0) ?_ ?_ ?_
        · simp only [execOp, resolve, List.map_toArray, List.map_cons, List.map_nil, Act.eval, s11]; simp [go_sem, -Array.getD_eq_getD_getElem?, s11]
        · exact Below.refl _ _
        · exact (fun _ _ => rfl)
      case o1 =>
        intro a w hfr hG hd
        refine ⟨fun hw => ?_, fun hw => absurd hw (by simp [Region.wanted])⟩
        have s12 : a.tmps.getD 12 undef = .slice X k cX := hfr.at 12 (by kernel_rfl)
        refine op_yields (.slice X k cX) ?_ ?_ ?_
        · simp only [execOp, resolve, List.map_toArray, List.map_cons, List.map_nil, Act.eval, s12]; simp [go_sem, -Array.getD_eq_getD_getElem?, s12]
        · exact Below.refl _ _
        · exact (fun _ _ => rfl)
      case o2 =>
        intro a w hfr hG hd
        obtain ⟨d0, d1, _⟩ := hd
        refine ⟨fun hw => ?_, fun hw => absurd hw (by simp [Region.wanted])⟩
        have s39 : a.tmps.getD 39 undef = .slice A0 l.length c0 := (d0 rfl).now
        have s40 : a.tmps.getD 40 undef = .slice X k cX := (d1 rfl).now
        refine op_calls2 ((HAX.out w hG.now).mono fun e' w' hh => ⟨_, hh.1, hh.2, (fun _ _ => rfl)⟩) ?_
        simp only [execOp, resolve, List.map_toArray, List.map_cons, List.map_nil, Act.eval, s39, s40]; simp [go_sem, -Array.getD_eq_getD_getElem?, s39, s40]
      case o3 =>
        intro a w hfr hG hd
        refine ⟨fun hw => ?_, fun hw => absurd hw (by simp [Region.wanted])⟩
        have s11 : a.tmps.getD 11 undef = .slice A0 l.length c0 := hfr.at 11 (by kernel_rfl)
        refine op_yields (.slice A0 l.length c0) ?_ ?_ ?_
        · simp only [execOp, resolve, List.map_toArray, List.map_cons, List.map_nil, Act.eval, s11]; simp [go_sem, -Array.getD_eq_getD_getElem?, s11]
        · exact Below.refl _ _
        · exact (fun _ _ => rfl)
      case o4 =>
        intro a w hfr hG hd
        refine ⟨fun hw => ?_, fun hw => absurd hw (by simp [Region.wanted])⟩
        have s12 : a.tmps.getD 12 undef = .slice X k cX := hfr.at 12 (by kernel_rfl)
        refine op_yields (.slice X k cX) ?_ ?_ ?_
        · simp only [execOp, resolve, List.map_toArray, List.map_cons, List.map_nil, Act.eval, s12]; simp [go_sem, -Array.getD_eq_getD_getElem?, s12]
        · exact Below.refl _ _
        · exact (fun _ _ => rfl)
      case o5 =>
        intro a w hfr hG hd
        refine ⟨fun hw => ?_, fun hw => absurd hw (by simp [Region.wanted])⟩
        have s14 : a.tmps.getD 14 undef = .int .i64 j := hfr.at 14 (by kernel_rfl)
        refine op_yields (.int .i64 j) ?_ ?_ ?_
        · simp only [execOp, resolve, List.map_toArray, List.map_cons, List.map_nil, Act.eval, s14]; simp [go_sem, -Array.getD_eq_getD_getElem?, s14]
        · exact Below.refl _ _
        · exact (fun _ _ => rfl)
      case o6 =>
        intro a w hfr hG hd
        obtain ⟨d0, d1, _⟩ := hd
        refine ⟨fun hw => ?_, fun hw => absurd hw (by simp [Region.wanted])⟩
        have s43 : a.tmps.getD 43 undef = .slice X k cX := (d0 rfl).now
        have s44 : a.tmps.getD 44 undef = .int .i64 j := (d1 rfl).now
        refine op_yields (.slice X j cX) ?_ ?_ ?_
        · simp only [execOp, resolve, List.map_toArray, List.map_cons, List.map_nil, Act.eval, s43, s44]; simp [go_sem, -Array.getD_eq_getD_getElem?, s43, s44, y5, y6, y7]
        · exact Below.refl _ _
        · exact (fun _ _ => rfl)
      case o7 =>
        intro a w hfr hG hd
        obtain ⟨d0, d1, d2, _⟩ := hd
        refine ⟨fun hw => ?_, fun hw => absurd hw (by simp [Region.wanted])⟩
        have s42 : a.tmps.getD 42 undef = .slice A0 l.length c0 := (d0 rfl).now
        have s45 : a.tmps.getD 45 undef = .slice X j cX := (d1 rfl).now
        refine op_calls2 ((HAP.out w hG.now).mono fun e' w' hh => ⟨_, hh.1, hh.2, (fun _ _ => rfl)⟩) ?_
        simp only [execOp, resolve, List.map_toArray, List.map_cons, List.map_nil, Act.eval, s42, s45]; simp [go_sem, -Array.getD_eq_getD_getElem?, s42, s45]
      case o8 =>
        intro a w hfr hG hd
        obtain ⟨d0, d1, _⟩ := hd
        refine ⟨fun hw => ?_, fun hw => absurd hw (by simp [Region.wanted])⟩
        have s46 : a.tmps.getD 46 undef = .bool p := (d0 rfl).now
        refine op_yields (.bool p) ?_ ?_ ?_
        · simp only [execOp, resolve, List.map_toArray, List.map_cons, List.map_nil, Act.eval, s46]; simp [go_sem, -Array.getD_eq_getD_getElem?, s46]
        · exact Below.refl _ _
        · exact (fun _ _ => rfl)
      case o9 =>
        intro a w hfr hG hd
        obtain ⟨d0, _⟩ := hd
        have sg : a.tmps.getD 47 undef = .bool p := (d0 rfl).now
        refine ⟨fun hw => ?_, fun hw => by rw [wanted_of rfl (yielded_of rfl sg)] at hw; exact fun _ _ he => absurd he (by intro he; rw [he] at hw; exact absurd hw (by decide))⟩
        have he : p = true := by rw [wanted_of rfl (yielded_of rfl sg)] at hw; simpa using hw
        have s11 : a.tmps.getD 11 undef = .slice A0 l.length c0 := hfr.at 11 (by kernel_rfl)
        refine op_yields (.slice A0 l.length c0) ?_ ?_ ?_
        · simp only [execOp, resolve, List.map_toArray, List.map_cons, List.map_nil, Act.eval, s11]; simp [go_sem, -Array.getD_eq_getD_getElem?, s11]
        · exact Below.refl _ _
        · exact (fun _ _ _ => rfl)
      case o10 =>
        intro a w hfr hG hd
        obtain ⟨d0, _⟩ := hd
        have sg : a.tmps.getD 47 undef = .bool p := (d0 rfl).now
        refine ⟨fun hw => ?_, fun hw => by rw [wanted_of rfl (yielded_of rfl sg)] at hw; exact fun _ _ he => absurd he (by intro he; rw [he] at hw; exact absurd hw (by decide))⟩
        have he : p = true := by rw [wanted_of rfl (yielded_of rfl sg)] at hw; simpa using hw
        have s12 : a.tmps.getD 12 undef = .slice X k cX := hfr.at 12 (by kernel_rfl)
        refine op_yields (.slice X k cX) ?_ ?_ ?_
        · simp only [execOp, resolve, List.map_toArray, List.map_cons, List.map_nil, Act.eval, s12]; simp [go_sem, -Array.getD_eq_getD_getElem?, s12]
        · exact Below.refl _ _
        · exact (fun _ _ _ => rfl)
      case o11 =>
        intro a w hfr hG hd
        obtain ⟨d0, _⟩ := hd
        have sg : a.tmps.getD 47 undef = .bool p := (d0 rfl).now
        refine ⟨fun hw => ?_, fun hw => by rw [wanted_of rfl (yielded_of rfl sg)] at hw; exact fun _ _ he => absurd he (by intro he; rw [he] at hw; exact absurd hw (by decide))⟩
        have he : p = true := by rw [wanted_of rfl (yielded_of rfl sg)] at hw; simpa using hw
        have s14 : a.tmps.getD 14 undef = .int .i64 j := hfr.at 14 (by kernel_rfl)
        refine op_yields (.int .i64 j) ?_ ?_ ?_
        · simp only [execOp, resolve, List.map_toArray, List.map_cons, List.map_nil, Act.eval, s14]; simp [go_sem, -Array.getD_eq_getD_getElem?, s14]
        · exact Below.refl _ _
        · exact (fun _ _ _ => rfl)
      case o12 =>
        intro a w hfr hG hd
        obtain ⟨d0, d1, d2, _⟩ := hd
        have sg : a.tmps.getD 47 undef = .bool p := (d2 rfl).now
        refine ⟨fun hw => ?_, fun hw => by rw [wanted_of rfl (yielded_of rfl sg)] at hw; exact fun _ _ he => absurd he (by intro he; rw [he] at hw; exact absurd hw (by decide))⟩
        have he : p = true := by rw [wanted_of rfl (yielded_of rfl sg)] at hw; simpa using hw
        have s49 : a.tmps.getD 49 undef = .slice X k cX := (d0 rfl).now he
        have s50 : a.tmps.getD 50 undef = .int .i64 j := (d1 rfl).now he
        refine op_yields (.slice Y d (cX - j)) ?_ ?_ ?_
        · simp only [execOp, resolve, List.map_toArray, List.map_cons, List.map_nil, Act.eval, s49, s50]; simp [go_sem, -Array.getD_eq_getD_getElem?, s49, s50, y5, y6, y7, y8, y9]
        · exact Below.refl _ _
        · exact (fun _ _ _ => rfl)
      case o13 =>
        intro a w hfr hG hd
        obtain ⟨d0, d1, d2, d3, _⟩ := hd
        have sg : a.tmps.getD 47 undef = .bool p := (d2 rfl).now
        refine ⟨fun hw => ?_, fun hw => by rw [wanted_of rfl (yielded_of rfl sg)] at hw; exact fun _ _ he => absurd he (by intro he; rw [he] at hw; exact absurd hw (by decide))⟩
        have he : p = true := by rw [wanted_of rfl (yielded_of rfl sg)] at hw; simpa using hw
        have s48 : a.tmps.getD 48 undef = .slice A0 l.length c0 := (d0 rfl).now he
        have s51 : a.tmps.getD 51 undef = .slice Y d (cX - j) := (d1 rfl).now he
        refine op_calls2 ((HAQ.out w hG.now).mono fun e' w' hh => ⟨_, hh.1, hh.2, (fun _ _ _ => rfl)⟩) ?_
        simp only [execOp, resolve, List.map_toArray, List.map_cons, List.map_nil, Act.eval, s48, s51]; simp [go_sem, -Array.getD_eq_getD_getElem?, s48, s51]
      case o14 =>
        intro a w hfr hG hd
        obtain ⟨d0, d1, _⟩ := hd
        refine ⟨fun hw => ?_, fun hw => absurd hw (by simp [Region.wanted])⟩
        have s47 : a.tmps.getD 47 undef = .bool p := (d0 rfl).now
        have s52 : p = true → a.tmps.getD 52 undef = .bool q0 := (d1 rfl).now
        refine op_yields (.bool al) ?_ ?_ ?_
        · simp only [execOp, Act.eval, s47]; cases p with | false => (have e1 : al = false := by rw [hpq]; rfl); simp [go_sem, e1] | true => (have e1 : al = q0 := by rw [hpq]; rfl); (simp only [s52 rfl]; simp [go_sem, e1])
        · exact Below.refl _ _
        · exact (fun _ _ => rfl)
      case o15 =>
        intro a w hfr hG hd
        obtain ⟨d0, d1, _⟩ := hd
        refine ⟨fun hw => ?_, fun hw => absurd hw (by simp [Region.wanted])⟩
        have s41 : a.tmps.getD 41 undef = .bool al := (d0 rfl).now
        have s53 : a.tmps.getD 53 undef = .bool al := (d1 rfl).now
        refine op_yields (.bool false) ?_ ?_ ?_
        · simp only [execOp, resolve, List.map_toArray, List.map_cons, List.map_nil, Act.eval, s41, s53]; simp [go_sem, -Array.getD_eq_getD_getElem?, s41, s53]
        · exact Below.refl _ _
        · exact (fun _ _ => rfl)
      case hG => exact fun w' hb => HT1.out.drew.below hb
      case hend =>
        intro vs w' hG hv
        obtain ⟨_, _, _, _, _, _, _, _, _, _, _, _, _, _, _, h15, _⟩ := hv
        have e15 : vs 15 = .bool false := h15.now
        have HU := Lib.hid hG.now
        clear hG h15 y8 y9
        simp only [putAll, Act.put, e15]
        go_wp2_with fail
        go_meet
        exact ⟨rfl, HU.out⟩
    case rest =>
      obtain ⟨rfl, hkept⟩ := hcut
      have HT := Lib.hid hkept
      clear hkept HT1 HAX HAP HAQ HWI hpq HY HD
      have HRX := Lib.hid (fun V (h : Kept w [fun W => Slc W 3 (.slice X k cX) k (mtcs x), fun W => Slc W 3 (.slice X2 k2 cX2) k2 (mtcs y), fun W => HasL W (.slice A0 l.length c0) l] V) => rightM_any X k cX _ x V h.p0.sees (Nat.le_refl _) (by omega))
      have HRY := Lib.hid (fun V (h : Kept w [fun W => Slc W 3 (.slice X k cX) k (mtcs x), fun W => Slc W 3 (.slice X2 k2 cX2) k2 (mtcs y), fun W => HasL W (.slice A0 l.length c0) l] V) => rightM_any X2 k2 cX2 _ y V h.p1.sees (Nat.le_refl _) (by omega))
      have HPX := Lib.hid (fun V (h : Kept w [fun W => Slc W 3 (.slice X k cX) k (mtcs x), fun W => Slc W 3 (.slice X2 k2 cX2) k2 (mtcs y), fun W => HasL W (.slice A0 l.length c0) l] V) => printM_any X k cX x _ V h.p0.sees (Nat.le_refl _) (by omega))
      have HPY := Lib.hid (fun V (h : Kept w [fun W => Slc W 3 (.slice X k cX) k (mtcs x), fun W => Slc W 3 (.slice X2 k2 cX2) k2 (mtcs y), fun W => HasL W (.slice A0 l.length c0) l] V) => printM_any X2 k2 cX2 y _ V h.p1.sees (Nat.le_refl _) (by omega))
      have HSM := Lib.hid (fun V (h : Kept w [fun W => Slc W 3 (.slice X k cX) k (mtcs x), fun W => Slc W 3 (.slice X2 k2 cX2) k2 (mtcs y), fun W => HasL W (.slice A0 l.length c0) l] V) => same_mtc X X2 k cX k2 cX2 _ _ x y V h.p0.sees h.p1.sees (by omega) (by omega))
      go_upto_region 6 with fail
      go_cut [71] (fun x71 wx => x71 = .bool false ∧ Kept w [fun W => Slc W 3 (.slice X k cX) k (mtcs x), fun W => Slc W 3 (.slice X2 k2 cX2) k2 (mtcs y), fun W => HasL W (.slice A0 l.length c0) l] wx)
      case first =>
        have HEQ : Hid (rightM x = true → rightM y = true → (printM x == printM y) = decide (x = y)) := Lib.hid fun h1 h2 => by
          by_cases he : x = y
          · subst he; rw [decide_eq_true rfl]; simp
          · rw [decide_eq_false he]; exact beq_eq_false_iff_ne.2 fun e => he (printM_inj h1 h2 e)
        generalize rightM x = r1 at *
        generalize rightM y = r2 at *
        cases r1 with
        | false =>
          go_wp2_with fail
          (with_reducible refine (HRX.out _ HT.out).mono ?_); rintro e wq ⟨rfl, hbq⟩
          have HT_n := Lib.hid (HT.out.below hbq); clear HT hbq; have HT := HT_n; clear HT_n
          go_wp2_with fail
          go_meet
          exact ⟨rfl, HT.out⟩
        | true =>
          cases r2 with
          | false =>
            go_wp2_with fail
            (with_reducible refine (HRX.out _ HT.out).mono ?_); rintro e wq ⟨rfl, hbq⟩
            have HT_n := Lib.hid (HT.out.below hbq); clear HT hbq; have HT := HT_n; clear HT_n
            go_wp2_with fail
            (with_reducible refine (HRY.out _ HT.out).mono ?_); rintro e wq ⟨rfl, hbq⟩
            have HT_n := Lib.hid (HT.out.below hbq); clear HT hbq; have HT := HT_n; clear HT_n
            go_wp2_with fail
            go_meet
            exact ⟨rfl, HT.out⟩
          | true =>
            have HE2 := Lib.hid (HEQ.out rfl rfl)
            clear HEQ
            generalize printM x = px at *
            generalize printM y = py at *
            obtain ⟨sm, hsm⟩ : ∃ b, decide (x = y) = b := ⟨_, rfl⟩
            rw [hsm] at HE2 HSM
            clear hsm
            go_wp2_with fail
            (with_reducible refine (HRX.out _ HT.out).mono ?_); rintro e wq ⟨rfl, hbq⟩
            have HT_n := Lib.hid (HT.out.below hbq); clear HT hbq; have HT := HT_n; clear HT_n
            go_wp2_with fail
            (with_reducible refine (HRY.out _ HT.out).mono ?_); rintro e wq ⟨rfl, hbq⟩
            have HT_n := Lib.hid (HT.out.below hbq); clear HT hbq; have HT := HT_n; clear HT_n
            go_wp2_with fail
            (with_reducible refine (HPX.out _ HT.out).mono ?_); rintro e wq ⟨rfl, hbq⟩
            have HT_n := Lib.hid (HT.out.below hbq); clear HT hbq; have HT := HT_n; clear HT_n
            go_wp2_with fail
            (with_reducible refine (HPY.out _ HT.out).mono ?_); rintro e wq ⟨rfl, hbq⟩
            have HT_n := Lib.hid (HT.out.below hbq); clear HT hbq; have HT := HT_n; clear HT_n
            go_wp2_with fail
            (with_reducible refine (HSM.out _ HT.out).mono ?_); rintro e wq2 ⟨rfl, mm, rfl⟩
            have HT_n := Lib.hid (HT.out.drewN mm); clear HT; have HT := HT_n; clear HT_n
            have h1 := HE2.out
            go_wp2_with fail
            go_meet
            exact ⟨by simp [h1], HT.out⟩
      case rest =>
        obtain ⟨rfl, hkept⟩ := hcut
        have HU := Lib.hid hkept
        clear hkept HT HRX HRY HPX HPY HSM
        go_wp2_with fail
        (with_reducible refine (values_any _).mono ?_); rintro e wv ⟨rfl, hwv⟩
        have HT := Lib.hid ((HU.out.alloc (.cells (strs keepValues).toArray 9)).add (Blk.mk (heap_alloc_new wc (.cells (strs keepValues).toArray 9)) : Blk _ wc.heap.size 9 (strs keepValues)).stays)
        rw [hwv] at HT
        obtain ⟨bv, hbv⟩ : ∃ b, wc.heap.size = b := ⟨_, rfl⟩
        rw [hbv] at HT
        try rw [hbv]
        clear hwv hbv HU
        go_wp2_with fail
        (with_reducible refine (HWV.out _).mono ?_); rintro e wq2 ⟨rfl, rfl⟩
        have d0 := keepValues_cell HT.out.p0 hq8
        generalize keepValues.getD q ⟨#[]⟩ = value at *
        have z1 : (q : Int) < 8 := by omega
        have z2 : (0 : Int) ≤ q := by omega
        go_wp2_with fail
        (with_reducible refine (with_h HT.out.p3 (by omega) _ _).mono ?_); rintro e w9 ⟨A9, c9, rfl, hm9, hb9⟩
        have HT2 := Lib.hid ((HT.out.below hb9).tail.add hm9.stays)
        have HWW := Lib.hid (fun (n : ByteArray) (h : n ≠ ⟨#[111, 116, 104, 101, 114]⟩) => getF_with (l := l) (value := value) h)
        clear HT hm9 hb9 d0 z1 z2 HWV
        generalize withL l ⟨#[111, 116, 104, 101, 114]⟩ value = more at *
        go_wp2_with fail
        obtain ⟨hmS, _, hmc1, hmc2⟩ := HT2.out.p0.slice
        have hml : more.length ≤ 9223372036854775807 := by omega
        clear hmS hmc1 hmc2
        go_loopg [16, 81] k (fun g x16 x81 wr => ∃ i : Nat, i + g = k ∧ x81 = .int .i64 i ∧ x16 = .bool ((x.take i).any fun z => decide (z.1 = ⟨#[111, 116, 104, 101, 114]⟩)) ∧ Kept w [fun W => HasL W (.slice A9 more.length c9) more, fun W => Slc W 3 (.slice X k cX) k (mtcs x), fun W => Slc W 3 (.slice X2 k2 cX2) k2 (mtcs y), fun W => HasL W (.slice A0 l.length c0) l] wr)
        case atStart => exact ⟨0, by omega, rfl, by simp, HT2.out⟩
        case round =>
          obtain ⟨i, hig, rfl, rfl, hmt⟩ := hrel
          have HTR := Lib.hid hmt
          clear hmt HT2
          cases gk with
          | succ g =>
            have hik : i < k := by omega
            obtain ⟨ad, hkl, rfl, e0, e1, e2⟩ := HTR.out.p1.sees.mtc hik
            have hal := World.block_lt_of_cell? wr _ e0
            have HTK : Hid (((x.take (i + 1)).any fun z => decide (z.1 = ⟨#[111, 116, 104, 101, 114]⟩)) = (((x.take i).any fun z => decide (z.1 = ⟨#[111, 116, 104, 101, 114]⟩)) || decide (x[i].1 = ⟨#[111, 116, 104, 101, 114]⟩))) := Lib.hid (by
              rw [List.take_succ_eq_append_getElem hkl, List.any_append, List.any_cons, List.any_nil, Bool.or_false])
            generalize x[i] = pp at *
            obtain ⟨a, b, kd⟩ := pp
            simp only at e0 e1 e2
            obtain ⟨r0, hr0⟩ : ∃ q, ((x.take i).any fun z => decide (z.1 = ⟨#[111, 116, 104, 101, 114]⟩)) = q := ⟨_, rfl⟩
            rw [hr0] at HTK
            rw [hr0]
            clear hr0
            have HTR_n := Lib.hid (HTR.out.alloc (.cells #[.string a, .string b, .int .i64 kd] 23)); clear HTR; have HTR := HTR_n; clear HTR_n
            cases r0 with
            | true =>
              have HN := Lib.hid (HTK.out.trans (Bool.true_or _))
              clear HTK
              go_wp2_with fail
              go_roundg g
              case measure => omega
              case rel => exact ⟨i + 1, by omega, by go_num, by rw [HN.out], HTR.out⟩
            | false =>
              have HN := Lib.hid (HTK.out.trans (Bool.false_or _))
              clear HTK
              have HDE : Hid (decide (a = ⟨#[111, 116, 104, 101, 114]⟩) = (a.toList == [111, 116, 104, 101, 114])) := Lib.hid (by
                by_cases h : a = ⟨#[111, 116, 104, 101, 114]⟩
                · rw [decide_eq_true h, h, show (⟨#[111, 116, 104, 101, 114]⟩ : ByteArray).toList = [111, 116, 104, 101, 114] from ba_list _]; decide
                · rw [decide_eq_false h]; exact (beq_eq_false_iff_ne.2 (fun e => h (ba_ext (by rw [e]; exact (ba_list _).symm)))).symm)
              go_wp2_with fail
              go_roundg g
              case measure => omega
              case rel => exact ⟨i + 1, by omega, by go_num, by rw [HN.out, HDE.out], HTR.out⟩
          | zero =>
            obtain rfl : i = k := by omega
            have HFX : Hid (((x.take i).any fun z => decide (z.1 = ⟨#[111, 116, 104, 101, 114]⟩)) = false → allF more x = al) := Lib.hid fun h => by
              rw [List.take_of_length_le (by rw [HLX.out]; exact Nat.le_refl _)] at h
              rw [← HAL.out]
              exact allF_same fun z hz => HWW.out z.1 fun e => by
                have := List.any_eq_false.1 h z hz
                simp [e] at this
            have HAM := Lib.hid (fun V (h : Kept w [fun W => HasL W (.slice A9 more.length c9) more, fun W => Slc W 3 (.slice X i cX) i (mtcs x), fun W => Slc W 3 (.slice X2 k2 cX2) k2 (mtcs y), fun W => HasL W (.slice A0 l.length c0) l] V) => all_any A9 more.length c9 _ more X i cX _ x V h.p0.sees (Nat.le_refl _) hml h.p1.sees (Nat.le_refl _) (by omega))
            have HAX := Lib.hid (fun V (h : Kept w [fun W => HasL W (.slice A9 more.length c9) more, fun W => Slc W 3 (.slice X i cX) i (mtcs x), fun W => Slc W 3 (.slice X2 k2 cX2) k2 (mtcs y), fun W => HasL W (.slice A0 l.length c0) l] V) => all_any A0 l.length c0 _ l X i cX _ x V h.p3.sees (Nat.le_refl _) (by omega) h.p1.sees (Nat.le_refl _) (by omega))
            rw [HAL.out] at HAX
            generalize ((x.take i).any fun z => decide (z.1 = ⟨#[111, 116, 104, 101, 114]⟩)) = ofb at *
            clear HAL HWW
            cases ofb with
            | true =>
              clear HAM HAX HFX
              go_wp2_with fail
              (with_reducible refine (match_runs _).mono ?_); rintro e wq ⟨rfl, hbq⟩
              have HTR_n := Lib.hid (HTR.out.below hbq); clear HTR hbq; have HTR := HTR_n; clear HTR_n
              go_wp2_with fail
              go_ret
              exact ⟨rfl, HTR.out.bel⟩
            | false =>
              rw [HFX.out rfl] at HAM
              clear HFX
              go_wp2_with fail
              (with_reducible refine (HAM.out _ HTR.out).mono ?_); rintro e wq ⟨rfl, hbq⟩
              have HTR_n := Lib.hid (HTR.out.below hbq); clear HTR hbq; have HTR := HTR_n; clear HTR_n
              go_wp2_with fail
              (with_reducible refine (HAX.out _ HTR.out).mono ?_); rintro e wq ⟨rfl, hbq⟩
              have HTR_n := Lib.hid (HTR.out.below hbq); clear HTR hbq; have HTR := HTR_n; clear HTR_n
              go_wp2_with fail
              (with_reducible refine (match_runs _).mono ?_); rintro e wq ⟨rfl, hbq⟩
              have HTR_n := Lib.hid (HTR.out.below hbq); clear HTR hbq; have HTR := HTR_n; clear HTR_n
              go_wp2_with fail
              go_ret
              exact ⟨rfl, HTR.out.bel⟩
end Go.Proofs.Ytpeakblpmcfdnaa
