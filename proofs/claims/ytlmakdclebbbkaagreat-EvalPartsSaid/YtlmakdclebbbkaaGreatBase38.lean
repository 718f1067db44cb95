/- Texts, merged in one. -/
import Derived.Test.YtlmakdclebbbkaaGreatBase37
import Derived.Test.YtlmakdclebbbkaaGreatBase36
namespace Go.Proofs.YtlmakdclebbbkaaGreat
open Go.ChangeShapes Go.WideShapes Go.ChangeAt Go.RowKit
set_option linter.unusedVariables false
set_option linter.unusedSimpArgs false
set_option maxRecDepth 100000
theorem pesX_length : ∀ l : List XE, (pesX l).length = l.length
  | [] => rfl
  | a :: l => by simp [pesX, pesX_length l]
theorem pesX_map : ∀ l : List XE, pesX l = l.map XE.pe
  | [] => rfl
  | a :: l => by simp [pesX, pesX_map l]
theorem deepsP_snoc : ∀ (l : List PE) (x : PE), deepsP (l ++ [x]) = max (deepsP l) x.deep
  | [], x => by simp [deepsP]
  | a :: l, x => by rw [List.cons_append, deepsP, deepsP, deepsP_snoc l x]; omega
theorem deepsP_le {n : Nat} : ∀ (l : List PE), (∀ x ∈ l, x.deep ≤ n) → deepsP l ≤ n
  | [], _ => Nat.zero_le _
  | a :: l, h => by
    have h1 := h a List.mem_cons_self
    have h2 := deepsP_le l (fun x hx => h x (List.mem_cons_of_mem _ hx))
    rw [deepsP]; omega
theorem pe_deep_eq (x : XE) : x.pe.deep = 1 + deepsP (pesX x.kids) := by
  obtain ⟨kk, nn, mv, ms, nv, ns, kv, ks⟩ := x
  show (PE.mk kk nn ms ns (pesX ks)).deep = _
  unfold PE.deep; rfl
theorem okX_deep : ∀ (d : Nat) (x : XE) (w : World), okX d x w → x.pe.deep ≤ d
  | 0, _, _, h => h.elim
  | d + 1, x, w, h => by
    rw [pe_deep_eq]
    have := deepsP_le (n := d) (pesX x.kids) (fun y hy => by
      rw [pesX_map] at hy
      obtain ⟨k, hk, rfl⟩ := List.mem_map.1 hy
      exact okX_deep d k w (h.2.2.2 k hk))
    omega
def DeepSaid (d : Nat) : Prop := ∀ (x : XE) (w : World), okX d x w → d ≤ 1000000 → Calls Tryz.prog 21 #[x.val] w fun e w' => e = .returned (.int .i64 (x.pe.deep : Nat)) ∧ Below w.heap.size w w'
set_option maxHeartbeats 2000000 in
theorem deep_step (d : Nat) (IH : DeepSaid d) : DeepSaid (d + 1) := by
  intro x w h hd
  obtain ⟨A1, c1, A2, c2, A3, c3, e1, e2, e3⟩ := okX_forms h
  obtain ⟨kk, nn, mv, ms, nv, ns, kv, ks⟩ := x
  simp only [XE.mv, XE.nv, XE.kv, XE.ms, XE.ns, XE.kids] at e1 e2 e3
  subst e1; subst e2; subst e3
  have HD : Hid ((XE.mk kk nn (.slice A1 ms.length c1) ms (.slice A2 ns.length c2) ns (.slice A3 ks.length c3) ks).pe.deep = 1 + deepsP (pesX ks)) := Lib.hid (pe_deep_eq _)
  rw [HD.out]
  have HDK := Lib.hid (fun k (hk : k ∈ ks) => okX_deep d k w (h.2.2.2 k hk))
  have HSL := Lib.hid (show Slc w 5 (.slice A3 ks.length c3) ks.length (kcells ks) from h.2.2.1)
  have hm : ks.length ≤ c3 ∧ c3 ≤ 9223372036854775807 := (Slc.slice HSL.out).2
  have HT := Lib.hid ((((Kept.start w).add (P := fun W => ∀ k ∈ ks, okX d k W) (fun W hb k hk => okX_below hb d k (h.2.2.2 k hk))).add (P := fun W => Slc W 5 (.slice A3 ks.length c3) ks.length (kcells ks)) (fun W hb => HSL.out.below hb)).alloc (.cells #[.int .i64 kk, .int .i64 nn, .slice A1 ms.length c1, .slice A2 ns.length c2, .slice A3 ks.length c3] 37))
  have HBX := Lib.hid (Blk.mk (heap_alloc_new w (.cells #[.int .i64 kk, .int .i64 nn, .slice A1 ms.length c1, .slice A2 ns.length c2, .slice A3 ks.length c3] 37)) : Blk _ w.heap.size 37 [.int .i64 kk, .int .i64 nn, .slice A1 ms.length c1, .slice A2 ns.length c2, .slice A3 ks.length c3])
  obtain ⟨x0, x1, x2, x3, x4⟩ := blk_cells5 HBX.out
  have HIH := Lib.hid (fun (k : XE) (V : World) (h : okX d k V) => IH k V h (by omega))
  have HDD := Lib.hid hd
  clear h IH HSL hd
  show Calls _ _ #[.agg #[.int .i64 kk, .int .i64 nn, .slice A1 ms.length c1, .slice A2 ns.length c2, .slice A3 ks.length c3]] _ _
  obtain ⟨W1, hW1⟩ : ∃ W, w.alloc (.cells #[.int .i64 kk, .int .i64 nn, .slice A1 ms.length c1, .slice A2 ns.length c2, .slice A3 ks.length c3] 37) = W := ⟨_, rfl⟩
  rw [hW1] at HT x0 x1 x2 x3 x4
  clear HBX
  go_enter Tryz.func21, Tryz.ntmps21
  go_wp2_with fail
  clear hW1 x0 x1 x2 x3 x4
  go_loopg [3, 9] ks.length (fun g y3 y9 wr => ∃ k : Nat, k + g = ks.length ∧ y9 = .int .i64 k ∧ y3 = .int .i64 ((deepsP (pesX (ks.take k)) : Nat) : Int) ∧ Kept w [fun W => Slc W 5 (.slice A3 ks.length c3) ks.length (kcells ks), fun W => ∀ k ∈ ks, okX d k W] wr)
  case atStart => exact ⟨0, by omega, rfl, by simp [pesX, deepsP], HT.out⟩
  case round =>
    obtain ⟨k, hkg, rfl, rfl, hkept⟩ := hrel
    have HTR := Lib.hid hkept
    clear hkept HT
    have HLE := Lib.hid (show deepsP (pesX (ks.take k)) ≤ d from deepsP_le _ (fun y hy => by
      rw [pesX_map] at hy
      obtain ⟨z, hz, rfl⟩ := List.mem_map.1 hy
      exact HDK.out z (List.mem_of_mem_take hz)))
    cases gk with
    | zero =>
      obtain rfl : k = ks.length := by omega
      rw [List.take_of_length_le (Nat.le_refl _)] at HLE ⊢
      have hle : deepsP (pesX ks) ≤ 1000000 := by have := HLE.out; have := HDD.out; omega
      obtain ⟨q, hq⟩ : ∃ q, deepsP (pesX ks) = q := ⟨_, rfl⟩
      have HQ := Lib.hid hq
      rw [hq] at hle ⊢
      clear hq
      go_wp2_with fail
      go_ret
      exact ⟨by rw [HQ.out, show ((1 + q : Nat) : Int) = 1 + (q : Int) by omega]; rfl, HTR.out.bel⟩
    | succ g =>
      have hlt : k < ks.length := by omega
      obtain ⟨ad, hkl, hA, e0, e1, e2, e3, e4⟩ := (Slc.slice HTR.out.p0).1.kid hlt
      subst hA
      have hal := World.block_lt_of_cell? wr _ e0
      have hq := HTR.out.p1 ks[k] (List.getElem_mem _)
      have hsn : deepsP (pesX (ks.take (k + 1))) = max (deepsP (pesX (ks.take k))) (ks[k].pe.deep) := by
        rw [List.take_succ_eq_append_getElem hlt, pesX_map, List.map_append, List.map_singleton, deepsP_snoc, pesX_map]
      have hdk := HDK.out ks[k] (List.getElem_mem _)
      have HIQ := Lib.hid (fun V (h : okX d (ks[k]'hkl) V) => HIH.out (ks[k]'hkl) V h)
      generalize ks[k] = q at *
      obtain ⟨B1, b1, B2, b2, B3, b3, hv1, hv2, hv3⟩ := okX_forms hq
      rw [hv1] at e2; rw [hv2] at e3; rw [hv3] at e4
      have hval : q.val = .agg #[.int .i64 q.kd, .int .i64 q.n, .slice B1 q.ms.length b1, .slice B2 q.ns.length b2, .slice B3 q.kids.length b3] := by unfold XE.val; rw [hv1, hv2, hv3]
      rw [hval] at HIQ
      have HQ := Lib.hid (okX_below ((Below.refl wr.heap.size wr).alloc (Nat.le_refl _) (.cells #[.int .i64 q.kd, .int .i64 q.n, .slice B1 q.ms.length b1, .slice B2 q.ns.length b2, .slice B3 q.kids.length b3] 37)) d q hq)
      have HTA := Lib.hid (HTR.out.alloc (.cells #[.int .i64 q.kd, .int .i64 q.n, .slice B1 q.ms.length b1, .slice B2 q.ns.length b2, .slice B3 q.kids.length b3] 37))
      obtain ⟨s, hs⟩ : ∃ s, deepsP (pesX (ks.take k)) = s := ⟨_, rfl⟩
      have hsle := HLE.out
      rw [hs] at hsn hsle
      rw [hs]
      obtain ⟨t, ht⟩ : ∃ t, q.pe.deep = t := ⟨_, rfl⟩
      rw [ht] at hsn hdk HIQ
      have HN := Lib.hid hsn
      obtain ⟨m, hm0⟩ : ∃ m, max s t = m := ⟨_, rfl⟩
      rw [hm0] at HN
      have hm1 : (max (s : Int) (t : Int)) = (m : Int) := by omega
      have hm2 : (if (s : Int) < (t : Int) then (t : Int) else (s : Int)) = (m : Int) := by split <;> omega
      have hm3 : (if (t : Int) < (s : Int) then (s : Int) else (t : Int)) = (m : Int) := by split <;> omega
      have hm4 : (if s < t then (t : Int) else (s : Int)) = (m : Int) := by split <;> omega
      clear hsn hdk hs hq hv1 hv2 hv3 hval HTR ht hm0 hsle HLE
      generalize q.ms.length = l1 at *
      generalize q.ns.length = l2 at *
      generalize q.kids.length = l3 at *
      generalize q.kd = qk at *
      generalize q.n = qn at *
      go_wp2_with fail
      (with_reducible refine (HIQ.out _ HQ.out).mono ?_); rintro e wq ⟨rfl, hbq⟩
      have HTA_n := Lib.hid (HTA.out.below hbq); clear HTA; have HTA := HTA_n; clear HTA_n
      clear hbq HQ
      go_wp2_with fail
      go_roundg g
      case measure => omega
      case rel => exact ⟨k + 1, by omega, by go_num, by rw [HN.out], HTA.out⟩
theorem deep_any : ∀ d, DeepSaid d
  | 0 => fun x w h _ => h.elim
  | d + 1 => deep_step d (deep_any d)
def PE.right (x : PE) : Bool := decide (x.ty = 2) && decide (x.deep ≤ 8)
set_option maxHeartbeats 2000000 in
theorem right_x (d : Nat) (hd : d ≤ 1000000) (x : XE) (w : World) (hs : x.pe.small) (h : okX d x w) :
    Calls Tryz.prog 22 #[x.val] w fun e w' => e = .returned (.bool x.pe.right) ∧ Below w.heap.size w w' := by
  obtain ⟨A1, c1, A2, c2, A3, c3, e1, e2, e3⟩ := okX_forms h
  obtain ⟨kk, nn, mv, ms, nv, ns, kv, ks⟩ := x
  simp only [XE.mv, XE.nv, XE.kv, XE.ms, XE.ns, XE.kids] at e1 e2 e3
  subst e1; subst e2; subst e3
  have hb : Below w.heap.size w (w.alloc (.cells #[.int .i64 kk, .int .i64 nn, .slice A1 ms.length c1, .slice A2 ns.length c2, .slice A3 ks.length c3] 37)) := (Below.refl _ _).alloc (Nat.le_refl _) _
  have HB := Lib.hid hb
  have HBX := Lib.hid (Blk.mk (heap_alloc_new w (.cells #[.int .i64 kk, .int .i64 nn, .slice A1 ms.length c1, .slice A2 ns.length c2, .slice A3 ks.length c3] 37)) : Blk _ w.heap.size 37 [.int .i64 kk, .int .i64 nn, .slice A1 ms.length c1, .slice A2 ns.length c2, .slice A3 ks.length c3])
  have HOK := Lib.hid (okX_below hb d _ h)
  have HTY := Lib.hid (type_any d _ (w.alloc (.cells #[.int .i64 kk, .int .i64 nn, .slice A1 ms.length c1, .slice A2 ns.length c2, .slice A3 ks.length c3] 37)) hs HOK.out)
  have HDE := Lib.hid (fun V (hV : okX d (.mk kk nn (.slice A1 ms.length c1) ms (.slice A2 ns.length c2) ns (.slice A3 ks.length c3) ks) V) => deep_any d _ V hV hd)
  unfold XE.val XE.kd XE.n XE.mv XE.nv XE.kv at HTY HDE
  simp only at HTY HDE
  have HPR : Hid ((XE.mk kk nn (.slice A1 ms.length c1) ms (.slice A2 ns.length c2) ns (.slice A3 ks.length c3) ks).pe.right = (decide ((XE.mk kk nn (.slice A1 ms.length c1) ms (.slice A2 ns.length c2) ns (.slice A3 ks.length c3) ks).pe.ty = 2) && decide ((XE.mk kk nn (.slice A1 ms.length c1) ms (.slice A2 ns.length c2) ns (.slice A3 ks.length c3) ks).pe.deep ≤ 8))) := Lib.hid rfl
  have HDL := Lib.hid (okX_deep d _ w h)
  clear h hb hs
  show Calls _ _ #[.agg #[.int .i64 kk, .int .i64 nn, .slice A1 ms.length c1, .slice A2 ns.length c2, .slice A3 ks.length c3]] _ _
  generalize (XE.mk kk nn (.slice A1 ms.length c1) ms (.slice A2 ns.length c2) ns (.slice A3 ks.length c3) ks).pe.right = r at *
  generalize (XE.mk kk nn (.slice A1 ms.length c1) ms (.slice A2 ns.length c2) ns (.slice A3 ks.length c3) ks).pe.ty = ty at *
  generalize (XE.mk kk nn (.slice A1 ms.length c1) ms (.slice A2 ns.length c2) ns (.slice A3 ks.length c3) ks).pe.deep = dp at *
  go_enter Tryz.func22, Tryz.ntmps22
  go_upto_region 1 with fail
  generalize w.alloc (.cells #[.int .i64 kk, .int .i64 nn, .slice A1 ms.length c1, .slice A2 ns.length c2, .slice A3 ks.length c3] 37) = W1 at *
  obtain ⟨x0, x1, x2, x3, x4⟩ := blk_cells5 HBX.out
  by_cases ht : ty = 2
  · have t1 : (ty == 2) = true := by rw [ht]; rfl
    obtain ⟨g, hg⟩ : ∃ g, decide ((dp : Int) ≤ 8) = g := ⟨_, rfl⟩
    have HE := Lib.hid (show r = g by rw [HPR.out, decide_eq_true ht, ← hg, Bool.true_and]; exact decide_eq_decide.2 (by omega))
    clear ht
    go_wp2_with fail
    (with_reducible refine HTY.out.mono ?_); rintro e w2 ⟨rfl, hb2⟩
    have HB2 := Lib.hid (HB.out.trans (hb2.mono HB.out.size))
    have HX2 := Lib.hid (HBX.out.below hb2 HBX.out.lt)
    have HC := Lib.hid (HDE.out _ (okX_below hb2 d _ HOK.out))
    clear hb2 x0 x1 x2 x3 x4
    obtain ⟨x0, x1, x2, x3, x4⟩ := blk_cells5 HX2.out
    go_wp2_with fail
    (with_reducible refine HC.out.mono ?_); rintro e w3 ⟨rfl, hb3⟩
    have HB3 := Lib.hid (HB2.out.trans (hb3.mono HB2.out.size))
    clear hb3
    go_wp2_with fail
    go_ret
    exact ⟨by rw [HE.out]; rfl, HB3.out⟩
  · have t1 : (ty == 2) = false := by rw [beq_eq_false_iff_ne]; exact ht
    have HE := Lib.hid (show r = false by rw [HPR.out, decide_eq_false ht, Bool.false_and])
    clear ht
    go_wp2_with fail
    (with_reducible refine HTY.out.mono ?_); rintro e w2 ⟨rfl, hb2⟩
    have HB2 := Lib.hid (HB.out.trans (hb2.mono HB.out.size))
    clear hb2
    go_wp2_with fail
    go_ret
    exact ⟨by rw [HE.out]; rfl, HB2.out⟩
end Go.Proofs.YtlmakdclebbbkaaGreat
