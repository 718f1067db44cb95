/- klaxonref7.Type: the type and how deep. -/
import Derived.Test.YtcaapbbbekggiaaGreatDoorTyped
import Derived.Test.YtcaapbbbekggiaaGreatDoorCloneAny
import Derived.Test.YtcaapbbbekggiaaGreatDoorSzX
namespace Go.Proofs.YtcaapbbbekggiaaGreatDoor
open Go.ChangeShapes Go.WideShapes Go.ChangeAt Go.RowKit
set_option linter.unusedVariables false
set_option linter.unusedSimpArgs false
set_option maxRecDepth 100000
def RTypeSaid (d : Nat) : Prop := ∀ (x : XE) (w : World), okX d x w → x.pe.few → szX d x → d ≤ 1000000 → Calls Tryz.prog 6 #[x.val] w fun e w' => e = .returned (.tuple #[.int .i64 x.pe.ty, .int .i64 (x.pe.deep : Nat)]) ∧ Below w.heap.size w w'
theorem tys_snoc (ks : List XE) (i : Nat) (h : i < ks.length) : tysP (pesX (ks.take (i + 1))) = tysP (pesX (ks.take i)) ++ [(ks[i]).pe.ty] := by
  have happ : ∀ l m : List PE, tysP (l ++ m) = tysP l ++ tysP m := fun l m => by
    induction l with
    | nil => rfl
    | cons a l ih => simp [tysP, ih]
  rw [List.take_succ_eq_append_getElem h, pesX_map, pesX_map, List.map_append, happ]
  simp [tysP]
theorem Tryz.infoI64t : (Tryz.prog.info? 3).map (fun i => (i.zero, i.size, i.bytes)) = some (some (.int .i64 0), 1, 8) := by kernel_rfl
set_option maxHeartbeats 4000000 in
theorem rtype_step (d : Nat) (IH : RTypeSaid d) : RTypeSaid (d + 1) := by
  intro x w hok hfew hsz hd
  obtain ⟨A1, c1, A2, c2, A3, c3, e1, e2, e3⟩ := okX_forms hok
  obtain ⟨kk, nn, mv, ms, nv, ns, kv, ks⟩ := x
  simp only [XE.mv, XE.nv, XE.kv, XE.ms, XE.ns, XE.kids] at e1 e2 e3
  subst e1; subst e2; subst e3
  have hfe : ms.length ≤ 1000 ∧ ns.length ≤ 1000 ∧ ks.length ≤ 1000 ∧ fewP (pesX ks) := by
    have h : PE.few (.mk kk nn ms ns (pesX ks)) := hfew
    unfold PE.few at h
    rw [pesX_length] at h; exact h
  obtain ⟨hm1000, hn1000, hk1000, hfk⟩ := hfe
  have HTD : Hid ((XE.mk kk nn (.slice A1 ms.length c1) ms (.slice A2 ns.length c2) ns (.slice A3 ks.length c3) ks).pe.ty = tyOf kk nn ms ns (tysP (pesX ks))) := Lib.hid (tyOf_pe _ _ _ _ _)
  have HDD : Hid ((XE.mk kk nn (.slice A1 ms.length c1) ms (.slice A2 ns.length c2) ns (.slice A3 ks.length c3) ks).pe.deep = 1 + deepsP (pesX ks)) := Lib.hid (pe_deep_eq _)
  rw [HTD.out, HDD.out]
  have HDK := Lib.hid (fun k (hk : k ∈ ks) => okX_deep d k w (hok.2.2.2 k hk))
  have hb0 : Below w.heap.size w (w.alloc (.cells #[.int .i64 kk, .int .i64 nn, .slice A1 ms.length c1, .slice A2 ns.length c2, .slice A3 ks.length c3] 26)) := (Below.refl _ _).alloc (Nat.le_refl _) _
  have HB0 := Lib.hid hb0
  have HBX := Lib.hid (Blk.mk (heap_alloc_new w (.cells #[.int .i64 kk, .int .i64 nn, .slice A1 ms.length c1, .slice A2 ns.length c2, .slice A3 ks.length c3] 26)) : Blk _ w.heap.size 26 [.int .i64 kk, .int .i64 nn, .slice A1 ms.length c1, .slice A2 ns.length c2, .slice A3 ks.length c3])
  have HM := Lib.hid (show Slc (w.alloc (.cells #[.int .i64 kk, .int .i64 nn, .slice A1 ms.length c1, .slice A2 ns.length c2, .slice A3 ks.length c3] 26)) 3 (.slice A1 ms.length c1) ms.length (mtcs ms) from hok.1.below hb0)
  have HN := Lib.hid (show Slc (w.alloc (.cells #[.int .i64 kk, .int .i64 nn, .slice A1 ms.length c1, .slice A2 ns.length c2, .slice A3 ks.length c3] 26)) 1 (.slice A2 ns.length c2) ns.length (strs ns) from hok.2.1.below hb0)
  have HK := Lib.hid (show Slc (w.alloc (.cells #[.int .i64 kk, .int .i64 nn, .slice A1 ms.length c1, .slice A2 ns.length c2, .slice A3 ks.length c3] 26)) 5 (.slice A3 ks.length c3) ks.length (kcells ks) from hok.2.2.1.below hb0)
  have HO := Lib.hid (fun k (hk : k ∈ ks) => okX_below hb0 d k (hok.2.2.2 k hk))
  have HF := Lib.hid (fewP_mem ks hfk)
  have HSM := Lib.hid (show ∀ m ∈ ms, m.1.size ≤ 9223372036854775807 ∧ m.2.1.size ≤ 9223372036854775807 from hsz.2.1)
  have HSN := Lib.hid (show ∀ s ∈ ns, s.size ≤ maxLen from hsz.2.2.1)
  have HSK := Lib.hid (show ∀ k ∈ ks, szX d k from hsz.2.2.2)
  have HIH := Lib.hid (fun k (V : World) (h1 : okX d k V) (h2 : k.pe.few) (h3 : szX d k) => IH k V h1 h2 h3 (by omega))
  have HDL := Lib.hid hd
  obtain ⟨i0, hi, hz0, hz1, hz2⟩ := info_parts Tryz.infoI64t
  have HI := Lib.hid hi; have HZ0 := Lib.hid hz0; have HZ1 := Lib.hid hz1; have HZ2 := Lib.hid hz2
  show Calls _ _ #[.agg #[.int .i64 kk, .int .i64 nn, .slice A1 ms.length c1, .slice A2 ns.length c2, .slice A3 ks.length c3]] _ _
  clear hok hfew hsz hfk hb0 IH hd hi hz0 hz1 hz2
  go_enter Tryz.func6, Tryz.ntmps6
  go_upto_region 1 with fail
  obtain ⟨bx, hbx⟩ : ∃ g, w.heap.size = g := ⟨_, rfl⟩
  rw [show (⟨w.heap.size, 0, none⟩ : Addr) = ⟨bx, 0, none⟩ by rw [hbx]]
  have HBX2 := Lib.hid (show Blk (w.alloc (.cells #[.int .i64 kk, .int .i64 nn, .slice A1 ms.length c1, .slice A2 ns.length c2, .slice A3 ks.length c3] 26)) bx 26 _ from hbx ▸ HBX.out)
  clear hbx HBX
  generalize w.alloc (.cells #[.int .i64 kk, .int .i64 nn, .slice A1 ms.length c1, .slice A2 ns.length c2, .slice A3 ks.length c3] 26) = W1 at *
  obtain ⟨x0, x1, x2, x3, x4⟩ := blk_cells5 HBX2.out
  obtain ⟨N, hN⟩ : ∃ N, ks.length = N := ⟨_, rfl⟩
  have HNE := Lib.hid hN
  rw [hN] at HK HBX2 x4 hk1000
  clear hN
  go_wp2_with fail
  go_loopg [4, 5, 13] N (fun g y4 y5 y13 wr => ∃ (i : Nat) (T : Option Addr) (cT : Nat), i + g = N ∧ y13 = .int .i64 i ∧ y4 = .slice T i cT ∧ y5 = .int .i64 ((deepsP (pesX (ks.take i)) : Nat) : Int) ∧ wr.ownsRow W1.heap.size 3 1 (.slice T i cT) i (ints (tysP (pesX (ks.take i)))) ∧ Below W1.heap.size W1 wr)
  case atStart => exact ⟨0, none, 0, by omega, rfl, rfl, rfl, World.ownsRow_nil _ _ _ _, Below.refl _ _⟩
  case round =>
    obtain ⟨i, T, cT, hig, rfl, rfl, rfl, hown, hbel⟩ := hrel
    have HOW := Lib.hid hown; have HBE := Lib.hid hbel
    clear hown hbel x0 x1 x2 x3 x4
    have HLE := Lib.hid (show deepsP (pesX (ks.take i)) ≤ d from deepsP_le _ (fun y hy => by
      rw [pesX_map] at hy
      obtain ⟨z, hz, rfl⟩ := List.mem_map.1 hy
      exact HDK.out z (List.mem_of_mem_take hz)))
    cases gk with
    | zero => --done
      obtain rfl : i = N := by omega
      have HTK := Lib.hid (show ks.take i = ks from List.take_of_length_le (by rw [HNE.out]; exact Nat.le_refl _))
      rw [HTK.out] at HOW HLE ⊢
      have hq : deepsP (pesX ks) ≤ 1000000 := by have := HLE.out; have := HDL.out; omega
      obtain ⟨q, hqe⟩ : ∃ q, deepsP (pesX ks) = q := ⟨_, rfl⟩
      have HQ := Lib.hid hqe
      rw [hqe] at hq ⊢
      obtain ⟨tys, htys⟩ : ∃ t, tysP (pesX ks) = t := ⟨_, rfl⟩
      have htl : tys.length = i := by rw [← htys, tysP_length, HNE.out]
      have htr : ∀ t ∈ tys, t = 0 ∨ t = 1 ∨ t = 2 := by
        rw [← htys]
        clear htys htl HTK
        have key : ∀ l : List PE, ∀ t ∈ tysP l, t = 0 ∨ t = 1 ∨ t = 2 := fun l => by
          induction l with
          | nil => exact fun t ht => absurd ht List.not_mem_nil
          | cons a l ih => exact fun t ht => (List.mem_cons.1 ht).elim (fun e => e ▸ pe_ty_range a) (ih t)
        exact key _
      have HTY := Lib.hid htys
      rw [htys] at HOW
      subst htl
      have HTT := Lib.hid (show Slc wr 1 (.slice T tys.length cT) tys.length (ints tys) from Slc.of_own HOW.out)
      have HC := Lib.hid (typed_any kk nn A1 c1 ms A2 c2 ns (.slice A3 tys.length c3) T cT tys wr (HM.out.below HBE.out) (HN.out.below HBE.out) HTT.out hm1000 hn1000 hk1000 HSM.out HSN.out htr rfl)
      obtain ⟨x0, x1, x2, x3, x4⟩ := blk_cells5 (HBX2.out.below HBE.out HBX2.out.lt)
      clear hqe htys htr HTT HOW HSM HSN HTK HLE
      go_wp2_with fail
      (with_reducible refine HC.out.mono ?_); rintro e w2 ⟨rfl, hb⟩
      have HB9 := Lib.hid (HB0.out.trans ((HBE.out.trans (hb.mono HBE.out.size)).mono HB0.out.size))
      clear hb HC x0 x1 x2 x3 x4
      go_wp2_with fail
      go_ret2
      exact ⟨by rw [HTY.out, HQ.out, show ((1 + q : Nat) : Int) = (q : Int) + 1 by omega]; rfl, HB9.out⟩
    | succ gg =>
      have hlt : i < N := by omega
      obtain ⟨ad, hkl, hA, e0, e1, e2, e3, e4⟩ := (Slc.slice (HK.out.below HBE.out)).1.kid hlt
      subst hA
      have hki := okX_below HBE.out d _ (HO.out ks[i] (List.getElem_mem hkl))
      have hfi := HF.out ks[i] (List.getElem_mem hkl)
      have hsi := HSK.out ks[i] (List.getElem_mem hkl)
      have hdk := HDK.out ks[i] (List.getElem_mem hkl)
      have HTS := Lib.hid (tys_snoc ks i hkl)
      have hsn : deepsP (pesX (ks.take (i + 1))) = max (deepsP (pesX (ks.take i))) (ks[i].pe.deep) := by
        rw [List.take_succ_eq_append_getElem hkl, pesX_map, List.map_append, List.map_singleton, deepsP_snoc, pesX_map]
      have ha := (Below.refl wr.heap.size wr)
      generalize ks[i] = q at *
      obtain ⟨B1, b1, B2, b2, B3, b3, v1, v2, v3⟩ := okX_forms hki
      rw [v1] at e2; rw [v2] at e3; rw [v3] at e4
      have hva : q.val = .agg #[.int .i64 q.kd, .int .i64 q.n, .slice B1 q.ms.length b1, .slice B2 q.ns.length b2, .slice B3 q.kids.length b3] := by unfold XE.val; rw [v1, v2, v3]
      have hal := ha.alloc (Nat.le_refl _) (.cells #[.int .i64 q.kd, .int .i64 q.n, .slice B1 q.ms.length b1, .slice B2 q.ns.length b2, .slice B3 q.kids.length b3] 26)
      have HC0 := HIH.out q _ (okX_below hal d _ hki) hfi hsi
      rw [hva] at HC0
      have HOW2 := Lib.hid (own_below HOW.out hal (Nat.le_refl _))
      have HBE2 := Lib.hid (HBE.out.trans (hal.mono HBE.out.size))
      obtain ⟨s, hs⟩ : ∃ s, deepsP (pesX (ks.take i)) = s := ⟨_, rfl⟩
      have hsle := HLE.out
      rw [hs] at hsn hsle
      rw [hs]
      obtain ⟨t, ht⟩ : ∃ t, q.pe.deep = t := ⟨_, rfl⟩
      obtain ⟨y, hy⟩ : ∃ y, q.pe.ty = y := ⟨_, rfl⟩
      rw [ht, hy] at HC0
      rw [ht] at hsn hdk
      rw [hy] at HTS
      have HCC := Lib.hid HC0
      have HNX := Lib.hid hsn
      obtain ⟨m, hm0⟩ : ∃ m, max s t = m := ⟨_, rfl⟩
      rw [hm0] at HNX
      have hm1 : (max (s : Int) (t : Int)) = (m : Int) := by omega
      have hm2 : (if (s : Int) < (t : Int) then (t : Int) else (s : Int)) = (m : Int) := by split <;> omega
      have hm3 : (if (t : Int) < (s : Int) then (s : Int) else (t : Int)) = (m : Int) := by split <;> omega
      have hm4 : (if s < t then (t : Int) else (s : Int)) = (m : Int) := by split <;> omega
      clear hki hfi hsi v1 v2 v3 hva HC0 ha hal HOW HBE hsn hdk hs ht hy hm0 hsle HLE
      generalize q.ms.length = l1 at *
      generalize q.ns.length = l2 at *
      generalize q.kids.length = l3 at *
      generalize q.kd = qk at *
      generalize q.n = qn at *
      generalize tysP (pesX (ks.take i)) = tl at *
      go_wp2_with fail
      (with_reducible refine HCC.out.mono ?_); rintro e w3 ⟨rfl, hb⟩
      have hb2 := (Below.refl w3.heap.size w3).alloc (Nat.le_refl _) (.cells #[.int .i64 y] 3)
      have HOW3 := Lib.hid (own_below (own_below HOW2.out hb (Nat.le_refl _)) hb2 (Nat.le_refl _))
      have HBE3 := Lib.hid ((HBE2.out.trans (hb.mono HBE2.out.size)).trans (hb2.mono (Nat.le_trans HBE2.out.size hb.size)))
      have HSN3 := Lib.hid ((Blk.mk (heap_alloc_new w3 _) : Blk (w3.alloc (.cells #[.int .i64 y] 3)) w3.heap.size 3 [.int .i64 y]).sees (size := 1) (n := 1) rfl (List.prefix_refl _))
      clear hb hb2 HCC HOW2 HBE2
      go_wp2_with (at_builtin; refine wpList_append_sees rfl (.tmp 22) (.tmp 24) 27 rfl W1.heap.size 3 i0 (.int .i64 0) 1 8 Tryz.underlying27 HI.out HZ0.out HZ1.out HZ2.out rfl (by decide) _ i (ints tl) rfl HOW3.out _ (some ⟨w3.heap.size, 0, none⟩) 1 _ [.int .i64 y] rfl HSN3.out (by intro u hu; simp only [List.mem_cons, List.not_mem_nil, or_false] at hu; subst hu; rfl) (by unfold maxLen; omega) (by omega) HBE3.out.size ?_)
      intro v' w4 hown hg
      obtain ⟨A5, c5, rfl, hc1, hc2⟩ := own_slice hown
      have HOW5 := Lib.hid hown
      have HBE5 := Lib.hid (HBE3.out.grown hg HBE3.out.size (fun g e => (HOW3.out.lt g e).1))
      clear hown hg HOW3 HBE3 HSN3
      go_wp2_with fail
      go_roundg gg
      case measure => omega
      case rel => exact ⟨i + 1, A5, c5, by omega, by first | rfl | go_num, rfl, by rw [HNX.out], by rw [HTS.out, ints_append]; exact HOW5.out, HBE5.out⟩
theorem rtype_any : ∀ d, RTypeSaid d
  | 0 => fun x w h _ _ _ => h.elim
  | d + 1 => rtype_step d (rtype_any d)
end Go.Proofs.YtcaapbbbekggiaaGreatDoor
